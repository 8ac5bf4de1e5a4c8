import PyProof.Rows.All
import Wide.All
import OpenK.AllK
import Wide.FinOn
import HandS.ForMost
import HandS.Walk
import HandS.Zip
import HandS.WideBits
import HandS.IsInst
import OpenK.KEqL
import HandS.More
import HandS.Flow
import HandS.NoneIn
import HandS.Defaults
import HandS.Wide
import HandS.Style
import KE.OsRunLaw
import HandS.Conv
import HandS.FStr
import HandS.StrMore
import HandS.Text
import HandS.Strs
import HandS.DictComp
import HandS.Deep
import HandS.WordsDict
import HandS.Dict
import HandS.Star
import HandS.Codes
import HandS.Small
import HandS.More
import HandS.ReplaceLit
import KE.DataEq
import PyProof.Rows.StrRev
import HandS.ExcIs
import KE.KExcInit
import KE.KExcIs
import KE.KTryMore
import HandS.Exc
import HandS.ExcInit
import HandS.WordsExc
import HandS.ExcValue
import HandS.ExcOwn
import HandS.IsInst
import HandS.ForSpec
import PySem.Challenge.RW_guessedzeros_k04_words_spelled_and_read
set_option Elab.async false
set_option linter.all false
set_option maxRecDepth 100000
set_option maxHeartbeats 40000000
namespace GZ
open PySem PySem.Spec PyProof.Rows L2
/-! ### the text by places -/
def topS (i : Nat) : Stmt := PySem.Challenge.pw_guessedzeros_k04_words_spelled_and_read.main.body.getD i (.Pass ⟨0, 0, 0, 0⟩)
abbrev s_spelled : Stmt := topS 7
theorem sc_spelled : FnScope ["form", "word", "sign", "scale", "tail"] ["form", "word"] (defScope s_spelled) := ⟨rfl, rfl, rfl, by decide +kernel, rfl, by decide +kernel, by decide +kernel⟩
abbrev s_bits_text : Stmt := topS 8
theorem sc_bits_text : FnScope ["number", "many"] ["number", "many"] (defScope s_bits_text) := ⟨rfl, rfl, rfl, by decide +kernel, rfl, by decide +kernel, by decide +kernel⟩
abbrev s_word_in : Stmt := topS 9
theorem sc_word_in : FnScope ["form", "text", "parts", "word", "figure", "part"] ["form", "text"] (defScope s_word_in) := ⟨rfl, rfl, rfl, by decide +kernel, rfl, by decide +kernel, by decide +kernel⟩
abbrev s_is_number : Stmt := topS 11
theorem sc_is_number : FnScope ["thing"] ["thing"] (defScope s_is_number) := ⟨rfl, rfl, rfl, by decide +kernel, rfl, by decide +kernel, by decide +kernel⟩
abbrev s_is_number_in : Stmt := topS 12
theorem sc_is_number_in : FnScope ["least", "greatest", "thing"] ["least", "greatest", "thing"] (defScope s_is_number_in) := ⟨rfl, rfl, rfl, by decide +kernel, rfl, by decide +kernel, by decide +kernel⟩
abbrev s_Form___init__ : Stmt := inClass (topS 14) 0
theorem sc_Form___init__ : FnScope ["self", "scale", "tail"] ["self", "scale", "tail"] (defScope s_Form___init__) := ⟨rfl, rfl, rfl, by decide +kernel, rfl, by decide +kernel, by decide +kernel⟩
abbrev s_Form_top : Stmt := inClass (topS 14) 3
theorem sc_Form_top : FnScope ["self"] ["self"] (defScope s_Form_top) := ⟨rfl, rfl, rfl, by decide +kernel, rfl, by decide +kernel, by decide +kernel⟩
abbrev s_Form_parts : Stmt := inClass (topS 14) 4
theorem sc_Form_parts : FnScope ["self", "word", "sign", "scale", "tail"] ["self", "word"] (defScope s_Form_parts) := ⟨rfl, rfl, rfl, by decide +kernel, rfl, by decide +kernel, by decide +kernel⟩
abbrev s_Form_word_of : Stmt := inClass (topS 14) 5
theorem sc_Form_word_of : FnScope ["self", "sign", "scale", "tail"] ["self", "sign", "scale", "tail"] (defScope s_Form_word_of) := ⟨rfl, rfl, rfl, by decide +kernel, rfl, by decide +kernel, by decide +kernel⟩
abbrev s_Form_greatest : Stmt := inClass (topS 14) 10
theorem sc_Form_greatest : FnScope ["self", "sign"] ["self", "sign"] (defScope s_Form_greatest) := ⟨rfl, rfl, rfl, by decide +kernel, rfl, by decide +kernel, by decide +kernel⟩
abbrev sBox : Stmt := topS 16
abbrev sTake : Stmt := topS 17
abbrev sFolded : Stmt := topS 18
abbrev sSame : Stmt := topS 19
abbrev s__law_form : Stmt := topS 20
theorem sc__law_form : FnScope ["_law_box_here", "_law_some"] ["_law_box_here"] (defScope s__law_form) := ⟨rfl, rfl, rfl, by decide +kernel, rfl, by decide +kernel, by decide +kernel⟩
abbrev s__law_word : Stmt := topS 21
theorem sc__law_word : FnScope ["_law_box_here", "_law_scale", "_law_tail", "_law_top", "_law_some", "_law_way", "_law_word_here"] ["_law_box_here", "_law_scale", "_law_tail"] (defScope s__law_word) := ⟨rfl, rfl, rfl, by decide +kernel, rfl, by decide +kernel, by decide +kernel⟩
abbrev s__law_text : Stmt := topS 22
theorem sc__law_text : FnScope ["_law_word_here", "_law_scale", "_law_tail", "_law_found", "_law_at"] ["_law_word_here", "_law_scale", "_law_tail"] (defScope s__law_text) := ⟨rfl, rfl, rfl, by decide +kernel, rfl, by decide +kernel, by decide +kernel⟩
abbrev s__law_read : Stmt := topS 23
theorem sc__law_read : FnScope ["_law_text_here", "_law_scale", "_law_tail", "_law_parts", "_law_found", "_law_sign", "_law_part"] ["_law_text_here", "_law_scale", "_law_tail"] (defScope s__law_read) := ⟨rfl, rfl, rfl, by decide +kernel, rfl, by decide +kernel, by decide +kernel⟩
abbrev s__law_told : Stmt := topS 24
theorem sc__law_told : FnScope ["_law_form_here", "_law_text_here", "_law_found", "_law_caught", "error", "_law_fine"] ["_law_form_here", "_law_text_here"] (defScope s__law_told) := ⟨rfl, rfl, rfl, by decide +kernel, rfl, by decide +kernel, by decide +kernel⟩
abbrev s__law_bent : Stmt := topS 25
theorem sc__law_bent : FnScope ["_law_box_here", "_law_text_here", "_law_signs", "_law_way", "_law_at", "_law_sign", "_law_some", "_law_pair"] ["_law_box_here", "_law_text_here"] (defScope s__law_bent) := ⟨rfl, rfl, rfl, by decide +kernel, rfl, by decide +kernel, by decide +kernel⟩
abbrev s__law_right : Stmt := topS 26
theorem sc__law_right : FnScope ["_law_box_here", "_law_scale", "_law_tail", "_law_form_here", "_law_turn", "_law_word_here", "_law_text_here", "_law_bits", "_law_other", "_law_texts", "_law_odd", "_law_at", "_law_again", "_law_bent_here", "_law_some"] ["_law_box_here"] (defScope s__law_right) := ⟨rfl, rfl, rfl, by decide +kernel, rfl, by decide +kernel, by decide +kernel⟩
abbrev s_law : Stmt := topS 27
theorem sc_law : FnScope ["_law_script", "_law_cells", "_law_k"] ["_law_script"] (defScope s_law) := ⟨rfl, rfl, rfl, by decide +kernel, rfl, by decide +kernel, by decide +kernel⟩
/-! ### built-in names that the text leaves alone -/
structure Bl (mg : Str → Option Value) : Prop where
  len : mg "len" = none
  abs : mg "abs" = none
  int : mg "int" = none
  divmod : mg "divmod" = none
  list : mg "list" = none
  enumerate : mg "enumerate" = none
  isinstance : mg "isinstance" = none
  tuple : mg "tuple" = none
  str : mg "str" = none
  bool : mg "bool" = none
  zip : mg "zip" = none
  all : mg "all" = none
  range : mg "range" = none
  max : mg "max" = none
  any : mg "any" = none
  min : mg "min" = none
  sum : mg "sum" = none
/-! ### rules with the written part told (for the blocks of comprehensions) -/
section
variable {X : Cx} {K : PySem.W.Frag}
theorem call_len_seqK (h : X.K = K := by rfl) : CallR X (.builtin "len") (fun xs H Q => ∃ p ys, xs = [.ref p] ∧ (SqL K H p ys ∨ SqT K H p ys) ∧ Q (.int ys.length) H) := by subst h; exact call_len_seq
theorem call_list_ofK (h : X.K = K := by rfl) : CallR X (.type "list") (fun xs H Q => ∃ p ys, xs = [.ref p] ∧ (SqL K H p ys ∨ SqT K H p ys) ∧ ∀ l, H l = none → Q (.ref l) (upd H l (.lst ys))) := by subst h; exact call_list_of
theorem call_tuple_ofK (h : X.K = K := by rfl) : CallR X (.type "tuple") (fun xs H Q => ∃ p ys, xs = [.ref p] ∧ ((SqL K H p ys ∧ ∀ l, H l = none → Q (.ref l) (upd H l (.tup ys))) ∨ (SqT K H p ys ∧ Q (.ref p) H))) := by subst h; exact call_tuple_of
theorem ix_listK (h : X.K = K := by rfl) : IxR X (rIxL K) := by subst h; exact ix_list
theorem ix_tupK (h : X.K = K := by rfl) : IxR X (rIxT K) := by subst h; exact ix_tup
theorem ix_seqK (h : X.K = K := by rfl) : IxR X (rIx K) := by subst h; exact ix_seq
theorem op_in_seqK (h : X.K = K := by rfl) : OpR X (compareOp .In) (rIn K false) := by subst h; exact op_in_seq
theorem op_notIn_seqK (h : X.K = K := by rfl) : OpR X (compareOp .NotIn) (rIn K true) := by subst h; exact op_notIn_seq
theorem sl_listK (h : X.K = K := by rfl) : SlR X (rSlL K) := by subst h; exact sl_list
theorem cr_sumK (hc : X.calm = true) (h : X.K = K := by rfl) : CallR X (.builtin "sum") (rSum K) := by subst h; exact cr_sum hc
theorem cr_allK (hc : X.calm = true) (h : X.K = K := by rfl) : CallR X (.builtin "all") (rAll K) := by subst h; exact cr_all hc
theorem cr_anyK (hc : X.calm = true) (h : X.K = K := by rfl) : CallR X (.builtin "any") (rAny K) := by subst h; exact cr_any hc
theorem call_isiK' (h : X.K = K := by rfl) : CallR X (.builtin "isinstance") (rIsi K) := by subst h; exact call_isi
theorem pi_listK {tg l : Expr} {tl : TE} (hl : PE X l tl) (h : X.K = K := by rfl) : PI X tg l (iList K tl) := by subst h; exact pi_list hl
theorem pi_tupK {tg l : Expr} {tl : TE} (hl : PE X l tl) (h : X.K = K := by rfl) : PI X tg l (iTup K tl) := by subst h; exact pi_tup hl
theorem pe_fldK {e : Expr} {ta : TE} {f : Str} {pos : Pos} (he : PE X e ta) (hb : attributeBase e f X.env (eval e X.env) = eval e X.env) (h : X.K = K := by rfl) : PE X (.Attribute e f pos) (tFld K ta f) := by subst h; exact pe_fld he hb
end
/-! ### heaps -/
theorem same_upd {H : Hp} {p : Addr} {o : HO} (h : H p = none) : Same H (upd H p o) := fun b x e => by
  rw [upd_ne (ne_of_none e h)]
  exact e
/-- all but what stands at b is as it was -/
def Keep (b : Addr) (H H' : Hp) : Prop := ∀ p o, H p = some o → p ≠ b → H' p = some o
theorem Keep.refl (b : Addr) (H : Hp) : Keep b H H := fun _ _ h _ => h
theorem Keep.trans {b : Addr} {H H1 H2 : Hp} (x : Keep b H H1) (y : Keep b H1 H2) : Keep b H H2 := fun p o h n => y p o (x p o h n) n
theorem Keep.ofSame {b : Addr} {H H1 : Hp} (x : Same H H1) : Keep b H H1 := fun p o h _ => x p o h
theorem Keep.upd {b : Addr} {H : Hp} {o : HO} : Keep b H (upd H b o) := fun p x h n => by
  rw [upd_ne n]
  exact h
theorem Keep.new {b p : Addr} {H : Hp} {o : HO} (h : H p = none) : Keep b H (L2.upd H p o) := .ofSame (same_upd h)
theorem Keep.seq {K : PySem.W.Frag} {b a : Addr} {H H' : Hp} {xs : List V} (e : Keep b H H') (n : a ≠ b) (h : SqL K H a xs) : SqL K H' a xs := by
  rcases h with (h | ⟨o, h⟩) | h
  · exact .inl (.inl (e _ _ h n))
  · exact .inl (.inr ⟨o, e _ _ h n⟩)
  · exact .inr h
theorem Keep.seqT {K : PySem.W.Frag} {b a : Addr} {H H' : Hp} {xs : List V} (e : Keep b H H') (n : a ≠ b) (h : SqT K H a xs) : SqT K H' a xs := by
  rcases h with (h | ⟨o, h⟩) | h
  · exact .inl (.inl (e _ _ h n))
  · exact .inl (.inr ⟨o, e _ _ h n⟩)
  · exact .inr h
theorem Same.seqT {K : PySem.W.Frag} {a : Addr} {H H' : Hp} {xs : List V} (e : Same H H') (h : SqT K H a xs) : SqT K H' a xs := by
  rcases h with (h | ⟨o, h⟩) | h
  · exact .inl (.inl (e _ _ h))
  · exact .inl (.inr ⟨o, e _ _ h⟩)
  · exact .inr h
/-- a drawing box: three ints, the last at most c -/
def BoxAt (c : Int) (H : Hp) (b : Addr) : Prop := ∃ x0 x1 x2 : Int, H b = some (.lst [.int x0, .int x1, .int x2]) ∧ 0 ≤ x0 ∧ 0 ≤ x1 ∧ x1 < 2147483647 ∧ 0 ≤ x2 ∧ x2 ≤ c
theorem BoxAt.mono {c d : Int} {H : Hp} {b : Addr} (h : BoxAt c H b) (l : c ≤ d) : BoxAt d H b := by
  obtain ⟨x0, x1, x2, e, a1, a2, a3, a4, a5⟩ := h
  exact ⟨x0, x1, x2, e, a1, a2, a3, a4, by omega⟩
theorem BoxAt.same {c : Int} {H H' : Hp} {b : Addr} (h : BoxAt c H b) (s : Same H H') : BoxAt c H' b := by
  obtain ⟨x0, x1, x2, e, r⟩ := h
  exact ⟨x0, x1, x2, s _ _ e, r⟩
theorem BoxAt.at {c : Int} {H H' : Hp} {b : Addr} (h : BoxAt c H b) (s : H' b = H b) : BoxAt c H' b := by
  obtain ⟨x0, x1, x2, e, r⟩ := h
  exact ⟨x0, x1, x2, by rw [s]; exact e, r⟩
theorem BoxAt.ne {c : Int} {H : Hp} {b p : Addr} (h : BoxAt c H b) (n : H p = none) : b ≠ p := by
  obtain ⟨x0, x1, x2, e, r⟩ := h
  exact ne_of_none e n
theorem e7 : (10 : Int) ^ ((7 : Int).toNat) = 10000000 := by decide
theorem e18 : (10 : Int) ^ ((18 : Int).toNat) = 1000000000000000000 := by decide
theorem divp_small {i j : Int} (h0 : 0 < j) (h1 : j < 2 ^ 250) : CDivP i j := by
  refine ⟨h0, ?_⟩
  show (decide ((if j == 0 then 0 else j.natAbs.log2 / 30 + 1) > 300) && _) = false
  rw [if_neg (show ¬ (j == 0) = true by simpa using (show j ≠ 0 by omega))]
  have hl : j.natAbs.log2 < 250 := PySem.Flt.log2_lt_of (by decide) (by omega)
  rw [decide_eq_false (show ¬ (j.natAbs.log2 / 30 + 1 > 300) by omega), Bool.false_and]
section
variable {P : Program} {w : World} {K : PySem.W.Frag} {mg : Str → Option Value} {base : Heap}
/-! ### _law_take -/
theorem scTake : FnScope ["_law_box_here", "_law_size", "_law_found", "_law_step", "_law_once", "_law_twice"] ["_law_box_here", "_law_size"] (defScope sTake) := ⟨rfl, rfl, rfl, by decide +kernel, rfl, by decide +kernel, by decide +kernel⟩
def spTake (k : Nat) : Sp := fun vs H Q _ => ∃ (b : Addr) (n c : Int), vs = [.ref b, .int n] ∧ BoxAt c H b ∧ 1 ≤ n ∧ n ≤ 10000000 ^ k ∧ n < 2 ^ 250 ∧ c + 2 ^ k ≤ 1000000000 ∧ 0 < k ∧
  ∀ (r : Int) (H' : Hp), 0 ≤ r → r < n → BoxAt (c + 2 ^ (k - 1)) H' b → Keep b H H' → Q (.int r) H'
theorem take_none {f : Addr} {fd : FuncData} : FnOk P w K mg base CX0 0 f fd ["_law_box_here", "_law_size"] (spTake 0) := by
  have no : ∀ vs H Q E, ¬ spTake 0 vs H Q E := fun vs H Q E h => by
    obtain ⟨b, n, c, _, _, _, _, _, _, h0, _⟩ := h
    omega
  exact ⟨fun vs H Q E h => absurd h (no vs H Q E), fun A outer s H args us vs Q E _ _ _ _ h => absurd h (no vs H Q E)⟩
theorem ok_take1 {f : Addr} {fd : FuncData} {k : Nat} (F : Fun K "_law_take" "_law_take" sTake f fd) (G : FnOk P w K mg base CX0 k f fd ["_law_box_here", "_law_size"] (spTake k)) (bf : Binds K fd ["_law_box_here", "_law_size"] []) (mf : mg "_law_take" = some (.ref f)) (B : Bl mg) :
    FnOk P w K mg base CX0 (k + 1) f fd ["_law_box_here", "_law_size"] (spTake (k + 1)) := by
  refine F.ok scTake (fun vs H Q E h => ?_) (fun cdv A outer s H vs Q E hr h => ?_)
  · obtain ⟨b, n, c, rfl, _⟩ := h
    rfl
  obtain ⟨b, n, c, rfl, hB, hn1, hnk, hn60, hc, _, q⟩ := h
  obtain ⟨x0, x1, x2, hb, h0, h1, h1', h2, h2'⟩ := hB
  have hp : (0 : Int) < 2 ^ k := Int.pow_pos (by decide)
  have hk2 : (2 : Int) ^ (k + 1) = 2 ^ k * 2 := Int.pow_succ 2 k
  refine ⟨_, pss_cons (ps_if (pt_cmpR op_gt (pe_ix ix_list (pv 0) pe_int (fun _ _ => rfl)) pe_int (nomark _))
      (pss_cons (ps_asg (pe_callB call_divmodW (by rfl) B.divmod boot_divmod (pa_cons (pe_ix ix_list (pv 0) pe_int (fun _ _ => rfl)) (pa_cons (pv 1) pa_nil)))
          (pg_tup (by rfl) (pgs_cons (pg_sub (pv 0) pe_int set_list) (pgs_cons (pg_name (i := 2) scTake.nd rfl (.inl rfl)) pgs_nil))))
        (pss_one (ps_ret (pv 2)))) pss_nil)
    (pss_cons (ps_if (pt_cmpR op_gt (pv 1) (pe_op op_pow pe_int pe_int) (nomark _))
      (pss_one (ps_ret (pe_op op_mod (pe_op op_add (pe_call G hr (by rfl) mf F.kp bf .nil pass0 (pa_cons (pv 0) (pa_cons (pe_op op_pow pe_int pe_int) pa_nil)))
          (pe_op op_mul (pe_op op_pow pe_int pe_int) (pe_call G hr (by rfl) mf F.kp bf .nil pass0 (pa_cons (pv 0) (pa_cons (pe_op op_add (pe_op op_fdiv (pe_op op_sub (pv 1) pe_int) (pe_op op_pow pe_int pe_int)) pe_int) pa_nil))))) (pv 1)))) pss_nil)
    (pss_cons (ps_asg (pe_op op_add (pe_ix ix_list (pv 0) pe_int (fun _ _ => rfl)) pe_int) (pg_sub (pv 0) pe_int set_list))
    (pss_cons (ps_set (i := 3) scTake.nd rfl (.inl rfl) (pe_op op_add pe_int (pe_op op_mul (pe_ix ix_list (pv 0) pe_int (fun _ _ => rfl)) (pe_ix ix_list (pv 0) pe_int (fun _ _ => rfl)))))
    (pss_cons (ps_set (i := 4) scTake.nd rfl (.inl rfl) (pe_op op_mod (pe_op op_mul (pe_op op_add (pe_ix ix_list (pv 0) pe_int (fun _ _ => rfl)) (pe_op op_mul pe_int (pe_ix ix_list (pv 0) pe_int (fun _ _ => rfl)))) (pv 3)) pe_int))
    (pss_cons (ps_set (i := 5) scTake.nd rfl (.inl rfl) (pe_op op_mod (pe_op op_add (pe_op op_mul (pv 4) (pe_op op_add (pe_op op_mod (pv 4) pe_int) pe_int)) (pe_ix ix_list (pv 0) pe_int (fun _ _ => rfl))) pe_int))
    (pss_one (ps_ret (pe_op op_mod (pe_op op_fdiv (pe_op op_mod (pe_op op_mul (pv 5) (pe_op op_add (pe_op op_mod (pv 5) pe_int) pe_int)) pe_int) pe_int) (pv 1))))))))), ?_⟩
  refine ⟨_, rfl, b, _, _, _, rfl, rfl, SqL.of hb, rfl, _, _, rfl, rfl, _, rfl, ite2 (fun cc => ?_) (fun cc => ?_)⟩
  · -- the great number's own digits
    refine ⟨_, rfl, b, _, _, _, rfl, rfl, SqL.of hb, rfl, _, rfl, _, _, rfl, divp_small (by omega) (by omega), fun p np => ?_⟩
    have nbp : b ≠ p := ne_of_none hb np
    refine ⟨p, _, rfl, .inl (.inl upd_same), rfl, _, _, rfl, _, rfl, b, _, _, 0, rfl, rfl, (by rw [upd_ne nbp]; exact hb), rfl, _, _, rfl, rfl, _, rfl, ?_⟩
    refine q _ _ (Int.emod_nonneg _ (by omega)) (Int.emod_lt_of_pos _ (by omega)) ⟨x0 / n, x1, x2, upd_same, Int.ediv_nonneg h0 (by omega), h1, h1', h2, by show x2 ≤ c + 2 ^ k; omega⟩ ?_
    exact Keep.trans (Keep.new np) Keep.upd
  · refine ⟨_, rfl, _, _, rfl, rfl, ⟨by decide, by decide, by decide⟩, _, _, rfl, rfl, _, rfl, ite2 (fun c2 => ?_) (fun c2 => ?_)⟩
    · -- two lesser draws
      have c3 : (10 : Int) ^ ((7 : Int).toNat) < n := of_decide_eq_true c2
      rw [e7] at c3
      have hk : 0 < k := by
        rcases Nat.eq_zero_or_pos k with z | z
        · subst z
          rw [show (10000000 : Int) ^ (0 + 1) = 10000000 by decide] at hnk
          omega
        · exact z
      obtain ⟨j, rfl⟩ : ∃ j, k = j + 1 := ⟨k - 1, by omega⟩
      have hj2 : (2 : Int) ^ (j + 1) = 2 ^ j * 2 := Int.pow_succ 2 j
      have hjp : (0 : Int) < 2 ^ j := Int.pow_pos (by decide)
      have h10 : (10000000 : Int) ≤ 10000000 ^ (j + 1) := by
        rw [Int.pow_succ]
        have : (0 : Int) < 10000000 ^ j := Int.pow_pos (by decide)
        omega
      have hdiv : (n - 1) / 10000000 + 1 ≤ 10000000 ^ (j + 1) := by
        rw [Int.pow_succ] at hnk
        have : n - 1 < 10000000 ^ (j + 1) * 10000000 := by omega
        have := Int.ediv_lt_of_lt_mul (by decide) this
        omega
      refine ⟨_, rfl, _, _, rfl, rfl, ⟨by decide, by decide, by decide⟩, b, _, c, rfl, ⟨x0, x1, x2, hb, h0, h1, h1', h2, h2'⟩, (by rw [e7]; decide), (by rw [e7]; exact h10), (by rw [e7]; decide), by omega, by omega, fun r1 H1 a1 a2 B1 k1 => ?_⟩
      refine ⟨_, _, rfl, rfl, ⟨by decide, by decide, by decide⟩, _, rfl, _, rfl, _, _, rfl, rfl, _, _, rfl, rfl, ⟨by decide, by decide, by decide⟩, _, _, rfl, rfl, (by rw [e7]; exact ⟨by decide, by decide⟩), _, _, rfl, rfl, ?_⟩
      rw [e7]
      refine ⟨b, _, c + 2 ^ j, rfl, B1, by omega, hdiv, by omega, by omega, by omega, fun r2 H2 a3 a4 B2 k2 => ?_⟩
      refine ⟨_, _, rfl, rfl, .inl ⟨by decide, by decide⟩, _, _, rfl, rfl, _, rfl, _, _, rfl, rfl, (by show (0 : Int) < n; omega), ?_⟩
      refine q _ _ (Int.emod_nonneg _ (by omega)) (Int.emod_lt_of_pos _ (by omega)) (B2.mono ?_) (k1.trans k2)
      show c + 2 ^ j + 2 ^ j ≤ c + 2 ^ (j + 1)
      omega
    · -- a turn of the wheel
      refine ⟨_, rfl, b, _, _, _, rfl, rfl, SqL.of hb, rfl, _, _, rfl, rfl, _, rfl, b, _, _, 2, rfl, rfl, hb, rfl, ?_⟩
      have hb2 : (upd H b (.lst [.int x0, .int x1, .int (x2 + 1)])) b = some (.lst [.int x0, .int x1, .int (x2 + 1)]) := upd_same
      refine ⟨_, rfl, b, _, _, _, rfl, rfl, SqL.of hb2, rfl, _, rfl, b, _, _, _, rfl, rfl, SqL.of hb2, rfl, _, _, rfl, rfl, .inl ⟨by omega, by omega⟩, _, _, rfl, rfl, ?_⟩
      refine ⟨_, rfl, b, _, _, _, rfl, rfl, SqL.of hb2, rfl, _, rfl, b, _, _, _, rfl, rfl, SqL.of hb2, rfl, _, _, rfl, rfl, .inl ⟨by omega, by omega⟩, _, _, rfl, rfl, _, rfl, _, _, rfl, rfl, .inl ⟨by omega, by omega⟩, _, _, rfl, rfl, (by show (0 : Int) < 2147483587; decide), ?_⟩
      generalize (x1 + 39373 * (x2 + 1)) * (69621 + (x2 + 1) * (x2 + 1)) = y
      have y1 := Int.emod_nonneg y (show (2147483587 : Int) ≠ 0 by decide)
      have y2 := Int.emod_lt_of_pos y (show (0 : Int) < 2147483587 by decide)
      refine ⟨_, rfl, _, rfl, _, _, rfl, rfl, (by show (0 : Int) < 30011; decide), _, _, rfl, rfl, _, _, rfl, rfl, .inl ⟨by omega, by omega⟩, _, rfl, b, _, _, _, rfl, rfl, SqL.of hb2, rfl, _, _, rfl, rfl, _, _, rfl, rfl, (by show (0 : Int) < 2147483563; decide), ?_⟩
      generalize (y % 2147483587 * (y % 2147483587 % 30011 + 5) + (x2 + 1)) = z
      have z1 := Int.emod_nonneg z (show (2147483563 : Int) ≠ 0 by decide)
      have z2 := Int.emod_lt_of_pos z (show (0 : Int) < 2147483563 by decide)
      refine ⟨_, rfl, _, rfl, _, _, rfl, rfl, (by show (0 : Int) < 1013; decide), _, _, rfl, rfl, _, _, rfl, rfl, .inl ⟨by omega, by omega⟩, _, _, rfl, rfl, (by show (0 : Int) < 998244353; decide), _, _, rfl, rfl, ⟨by decide, by decide⟩, _, rfl, _, _, rfl, rfl, (by show (0 : Int) < n; omega), ?_⟩
      refine q _ _ (Int.emod_nonneg _ (by omega)) (Int.emod_lt_of_pos _ (by omega)) ⟨x0, x1, x2 + 1, hb2, h0, h1, h1', by omega, by show x2 + 1 ≤ c + 2 ^ k; omega⟩ Keep.upd
theorem ok_take {f : Addr} {fd : FuncData} (F : Fun K "_law_take" "_law_take" sTake f fd) (bf : Binds K fd ["_law_box_here", "_law_size"] []) (mf : mg "_law_take" = some (.ref f)) (B : Bl mg) : ∀ k : Nat, FnOk P w K mg base CX0 k f fd ["_law_box_here", "_law_size"] (spTake k)
  | 0 => take_none
  | k + 1 => ok_take1 F (ok_take F bf mf B k) bf mf B
/-! ### _law_box -/
theorem scBox : FnScope ["_law_script", "_law_k", "_law_cell"] ["_law_script", "_law_k"] (defScope sBox) := ⟨rfl, rfl, rfl, by decide +kernel, rfl, by decide +kernel, by decide +kernel⟩
def spBox (K : PySem.W.Frag) : Sp := fun vs H Q _ => ∃ (a : Addr) (zs : List Int) (k : Int), vs = [.ref a, .int k] ∧ SqL K H a (zs.map V.int) ∧ 0 ≤ k ∧ k ≤ 1000 ∧
  ∀ (p : Addr) (H' : Hp), H p = none → Same H H' → BoxAt 0 H' p → Q (.ref p) H'
theorem b01 (b : Bool) : (-(2 ^ 64) < (if b = true then (1 : Int) else 0)) ∧ (if b = true then (1 : Int) else 0) < 2 ^ 64 := by cases b <;> decide
theorem b01n (b : Bool) : 0 ≤ (if b = true then (1 : Int) else 0) := by cases b <;> decide
theorem abs_nn (i : Int) : 0 ≤ (if i < 0 then -i else i) := by
  split <;> omega
theorem at_int {zs : List Int} {k : Int} (h0 : 0 ≤ k) (h : k < (zs.length : Int)) : ∃ v : Int, atI (zs.map V.int) k = some (.int v) ∧ zs[k.toNat]? = some v := by
  have hk : k.toNat < zs.length := by omega
  have ek : k = ((k.toNat : Nat) : Int) := by omega
  have q : atI (zs.map V.int) ((k.toNat : Nat) : Int) = some (.int zs[k.toNat]) := atI_nat (by rw [List.getElem?_map, List.getElem?_eq_getElem hk] <;> rfl)
  rw [← ek] at q
  exact ⟨zs[k.toNat], q, List.getElem?_eq_getElem hk⟩
theorem ok_box {f : Addr} {fd : FuncData} {k : Nat} (F : Fun K "_law_box" "_law_box" sBox f fd) (B : Bl mg) : FnOk P w K mg base CX0 (k + 1) f fd ["_law_script", "_law_k"] (spBox K) := by
  refine F.ok scBox (fun vs H Q E h => ?_) (fun cdv A outer s H vs Q E hr h => ?_)
  · obtain ⟨a, zs, k, rfl, _⟩ := h
    rfl
  obtain ⟨a, zs, k, rfl, hS, h0, h1, q⟩ := h
  refine ⟨_, pss_cons (ps_set (i := 2) scBox.nd rfl (.inl rfl) (pe_ifExp (pt_cmpR op_lt (pv 1) (pe_callB call_len_seq (by rfl) B.len PySem.boot_len (pa_cons (pv 0) pa_nil)) (nomark _)) (pe_ix ix_list (pv 0) (pv 1) (fun _ _ => rfl)) pe_int))
    (pss_one (ps_ret (pe_lst (pa_cons (pe_op op_mul (pe_callB call_abs (by rfl) B.abs boot_abs (pa_cons (pv 2) pa_nil)) (pe_callTy call_int1 (by rfl) B.int PyProof.Rows.boot_int (pa_cons (pe_cmpR op_ge (pe_callB call_abs (by rfl) B.abs boot_abs (pa_cons (pv 2) pa_nil)) (pe_op op_pow pe_int pe_int) (nomark _)) pa_nil)))
      (pa_cons (pe_op op_mod (pe_op op_mul (pe_op op_add (pe_op op_add (pe_op op_mod (pv 2) pe_int) (pe_op op_mul pe_int (pv 1))) pe_int) pe_int) pe_int) (pa_cons pe_int pa_nil)))))), ?_⟩
  refine ⟨_, rfl, _, rfl, a, _, rfl, .inl hS, _, _, rfl, rfl, _, rfl, ite2 (fun cc => ?_) (fun cc => ?_)⟩
  · have c1 : k < (((zs.map V.int).length : Nat) : Int) := of_decide_eq_true cc
    rw [List.length_map] at c1
    obtain ⟨v, hv, _⟩ := at_int h0 c1
    refine ⟨_, rfl, _, rfl, a, _, _, _, rfl, rfl, hS, hv, ?_⟩
    refine ⟨_, rfl, _, rfl, _, rfl, _, rfl, _, _, rfl, rfl, ⟨by decide, by decide, by decide⟩, _, _, rfl, rfl, .inr ⟨_, rfl, ?_⟩⟩
    refine ⟨_, _, rfl, rfl, .inr (b01 _), _, rfl, _, _, rfl, rfl, (by show (0 : Int) < 2147483629; decide), _, rfl, _, _, rfl, rfl, .inl ⟨by decide, by decide⟩, _, _, rfl, rfl, _, _, rfl, rfl, _, _, rfl, rfl, .inr ⟨by decide, by decide⟩, _, _, rfl, rfl, (by show (0 : Int) < 2147483647; decide), (by show 3 ≤ sizeLine; decide), fun p np => ?_⟩
    refine q p _ np (same_upd np) ⟨_, _, _, upd_same, Int.mul_nonneg (abs_nn v) (b01n _), Int.emod_nonneg _ (by decide), Int.emod_lt_of_pos _ (by decide), by decide, by decide⟩
  · refine ⟨_, rfl, _, rfl, _, rfl, _, rfl, _, _, rfl, rfl, ⟨by decide, by decide, by decide⟩, _, _, rfl, rfl, .inr ⟨_, rfl, ?_⟩⟩
    refine ⟨_, _, rfl, rfl, .inr (b01 _), _, rfl, _, _, rfl, rfl, (by show (0 : Int) < 2147483629; decide), _, rfl, _, _, rfl, rfl, .inl ⟨by decide, by decide⟩, _, _, rfl, rfl, _, _, rfl, rfl, _, _, rfl, rfl, .inr ⟨by decide, by decide⟩, _, _, rfl, rfl, (by show (0 : Int) < 2147483647; decide), (by show 3 ≤ sizeLine; decide), fun p np => ?_⟩
    refine q p _ np (same_upd np) ⟨_, _, _, upd_same, Int.mul_nonneg (abs_nn 0) (b01n _), Int.emod_nonneg _ (by decide), Int.emod_lt_of_pos _ (by decide), by decide, by decide⟩
/-! ### _law_folded -/
theorem scFolded : FnScope ["_law_script", "_law_size", "_law_cells", "_law_k", "_law_cell"] ["_law_script", "_law_size"] (defScope sFolded) := ⟨rfl, rfl, rfl, by decide +kernel, rfl, by decide +kernel, by decide +kernel⟩
def spFolded (K : PySem.W.Frag) : Sp := fun vs H Q _ => ∃ (a : Addr) (ns : List Int) (m : Nat), vs = [.ref a, .int (m : Int)] ∧ SqL K H a (ns.map V.int) ∧ ns.length ≤ 63 ∧ 1 ≤ m ∧ m ≤ 63 ∧
  ∀ (p : Addr) (H' : Hp) (zs : List Int), H p = none → Same H H' → H' p = some (.lst (zs.map V.int)) → zs.length = min ns.length m → Q (.ref p) H'
theorem cut_lo (ns : List Int) (m : Nat) : cutV (ns.map V.int) none (some (m : Int)) = (ns.take m).map V.int := by
  unfold cutV
  rw [HT.sIx_none, HT.sIx_nat, List.drop_zero, Nat.sub_zero, List.length_map, ← List.map_take]
  congr 1
  rw [List.take_eq_take_iff]
  omega
theorem cut_mid (ns : List Int) (m j : Nat) : ∃ ws : List Int, cutV (ns.map V.int) (some (m : Int)) (some (j : Int)) = ws.map V.int ∧ ws.length ≤ ns.length - m := by
  unfold cutV
  rw [HT.sIx_nat, HT.sIx_nat, List.length_map, ← List.map_drop, ← List.map_take]
  refine ⟨_, rfl, ?_⟩
  rw [List.length_take, List.length_drop]
  omega
theorem int_at {ws : List Int} {i : Nat} {x : V} (h : (ws.map V.int)[i]? = some x) : ∃ z, ws[i]? = some z ∧ x = .int z := by
  rw [List.getElem?_map] at h
  cases e : ws[i]? with
  | none =>
    rw [e] at h
    cases h
  | some z =>
    rw [e] at h
    exact ⟨z, rfl, (Option.some.inj h).symm⟩
theorem map_set (zs : List Int) (j : Nat) (v : Int) : (zs.map V.int).set j (.int v) = (zs.set j v).map V.int := List.map_set.symm
theorem ixN_nat {n j : Nat} (h : j < n) : ixN n (j : Int) = some j := by
  unfold ixN
  rw [if_pos (Int.natCast_nonneg j), if_pos (by omega), Int.toNat_natCast]
theorem ok_folded {f : Addr} {fd : FuncData} {k : Nat} (F : Fun K "_law_folded" "_law_folded" sFolded f fd) (B : Bl mg) : FnOk P w K mg base CX0 (k + 1) f fd ["_law_script", "_law_size"] (spFolded K) := by
  refine F.ok scFolded (fun vs H Q E h => ?_) (fun cdv A outer s H vs Q E hr h => ?_)
  · obtain ⟨a, ns, m, rfl, _⟩ := h
    rfl
  obtain ⟨a, ns, m, rfl, hS, h63, hm1, hm2, q⟩ := h
  refine ⟨_, pss_cons (ps_set (i := 2) scFolded.nd rfl (.inl rfl) (pe_callTy call_list_of (by rfl) B.list PyProof.Rows.boot_list (pa_cons (pe_slice sl_list (pv 0) po_none (po_some (pv 1))) pa_nil)))
    (pss_cons (ps_for PassesOwn.never rfl (pi_enum (by rfl) B.enumerate (pa_cons (pe_slice sl_list (pv 0) (po_some (pv 1)) (po_some pe_int)) pa_nil))
        (pg_tup rfl (pgs_cons (pg_name (i := 3) scFolded.nd rfl (.inl rfl)) (pgs_cons (pg_name (i := 4) scFolded.nd rfl (.inl rfl)) pgs_nil)))
      (pss_one (ps_asg (pe_op op_add (pe_ix ix_list (pv 2) (pe_op op_mod (pv 3) (pv 1)) (fun _ _ => rfl)) (pe_op op_mul (pv 4) (pe_op op_add (pv 3) pe_int))) (pg_sub (pv 2) (pe_op op_mod (pv 3) (pv 1)) set_list))))
    (pss_one (ps_ret (pv 2)))), ?_⟩
  refine ⟨_, rfl, _, rfl, _, rfl, a, _, rfl, hS, fun c0 nc0 => ?_⟩
  rw [cut_lo]
  have s0 : Same H (upd H c0 (.lst ((ns.take m).map V.int))) := same_upd nc0
  refine ⟨c0, _, rfl, .inl (.inl (.inl upd_same)), fun p np => ?_⟩
  have npH : H p = none := s0.free np
  have ne0 : c0 ≠ p := fun e => by
    subst e
    rw [upd_same] at np
    cases np
  have s1 := s0.trans (same_upd (o := .lst ((ns.take m).map V.int)) np)
  refine ⟨_, rfl, _, rfl, _, rfl, _, rfl, a, _, rfl, s1.seq hS, fun c nc => ?_⟩
  obtain ⟨ws, ew, lw⟩ := cut_mid ns m 63
  rw [show ((63 : Nat) : Int) = (63 : Int) from rfl] at ew
  rw [ew]
  have s2 := s1.trans (same_upd (o := .lst (ws.map V.int)) nc)
  have nec : c ≠ p := fun e => by
    subst e
    rw [upd_same] at nc
    cases nc
  refine ⟨c, _, rfl, .inl (.inl upd_same), ?_⟩
  refine for_it (walk_enum (K := K) (a := c) (xs := ws.map V.int)) (fun i σ H3 => ∃ (y3 y4 : Option V) (zs : List Int), σ = [some (.ref a), some (.int (m : Int)), some (.ref p), y3, y4] ∧ Same H H3 ∧ H3 c = some (.lst (ws.map V.int)) ∧ H3 p = some (.lst (zs.map V.int)) ∧ zs.length = min ns.length m)
    ⟨none, none, ns.take m, rfl, s2, upd_same, ?_, ?_⟩ (fun i σ H3 _ ⟨_, _, _, _, _, e, _⟩ => .inl (.inl e)) ?_ ?_
  · rw [upd_ne nec.symm]
    exact upd_same
  · rw [List.length_take, Nat.min_comm]
  · rintro i v σ H3 H4 hi ⟨y3, y4, zs, rfl, s3, ec, ep, el⟩ ⟨T, x, y, rfl, nT, rfl, e1, e2⟩
    cases e1
    obtain ⟨z, _, rfl⟩ := int_at e2
    rw [List.length_map] at hi
    have npT : p ≠ T := ne_of_none ep nT
    have ncT : c ≠ T := ne_of_none ec nT
    have sT : Same H3 (upd H3 T (.tup [.int (i : Nat), .int z])) := same_upd nT
    refine ⟨T, _, rfl, .inl (.inl upd_same), rfl, _, _, rfl, _, _, rfl, rfl, ?_⟩
    have lm : (i : Int) % (m : Int) = ((i % m : Nat) : Int) := rfl
    have hl : i % m < zs.length := by
      have := Nat.mod_lt i (show 0 < m by omega)
      omega
    have ev : (zs.map V.int)[i % m]? = some (.int zs[i % m]) := by
      rw [List.getElem?_map, List.getElem?_eq_getElem hl]
      rfl
    refine ⟨_, rfl, _, rfl, _, rfl, _, _, rfl, rfl, (by show (0 : Int) < (m : Int); omega), p, _, _, _, rfl, rfl, SqL.of (sT _ _ ep), (by rw [lm]; exact atI_nat ev), _, rfl, _, rfl, _, _, rfl, rfl, _, _, rfl, rfl, .inr ⟨by omega, by omega⟩, _, _, rfl, rfl, ?_⟩
    refine ⟨_, rfl, _, rfl, _, rfl, _, _, rfl, rfl, (by show (0 : Int) < (m : Int); omega), p, _, _, i % m, rfl, rfl, sT _ _ ep, (by rw [lm, List.length_map]; exact ixN_nat hl), ?_⟩
    refine ⟨_, _, zs.set (i % m) (zs[i % m] + z * ((i : Int) + 2)), rfl, fun b o e => ?_, ?_, ?_, ?_⟩
    · rw [upd_ne (ne_of_none e npH)]
      exact sT _ _ (s3 _ _ e)
    · rw [upd_ne nec]
      exact sT _ _ ec
    · rw [upd_same, map_set]
    · rw [List.length_set]
      exact el
  · rintro σ H3 ⟨y3, y4, zs, rfl, s3, ec, ep, el⟩
    exact ⟨_, rfl, q p H3 zs npH s3 ep el⟩
/-! ### _law_same: of two things of one kind and worth -/
theorem scSame : FnScope ["_law_found", "_law_due", "_law_one", "_law_other"] ["_law_found", "_law_due"] (defScope sSame) := ⟨rfl, rfl, rfl, by decide +kernel, rfl, by decide +kernel, by decide +kernel⟩
def Lv : Nat → PyData → Prop
  | _, .none => True
  | _, .bool _ => True
  | _, .int _ => True
  | _, .str _ => True
  | n + 1, .list ds => ds.length ≤ 1000000 ∧ ∀ d ∈ ds, Lv n d
  | n + 1, .tuple ds => ds.length ≤ 1000000 ∧ ∀ d ∈ ds, Lv n d
  | _, _ => False
mutual
theorem Dp.same {H H' : Hp} (s : Same H H') : ∀ (d : PyData) (v : V), Dp K H v d → Dp K H' v d
  | .none, _, h => by
    cases h
    exact .non
  | .bool b, _, h => by
    cases h
    exact .bl b
  | .int i, _, h => by
    cases h
    exact .int i
  | .str x, _, h => by
    cases h
    exact .str x
  | .list ds, _, h => by
    cases h with
    | lst hs ha => exact .lst (s.seq hs) (Dp.sameAll s ds _ ha)
  | .tuple ds, _, h => by
    cases h with
    | tup hs ha => exact .tup (Same.seqT s hs) (Dp.sameAll s ds _ ha)
  | .dict _, _, h => by cases h
theorem Dp.sameAll {H H' : Hp} (s : Same H H') : ∀ (ds : List PyData) (vs : List V), DpAll K H vs ds → DpAll K H' vs ds
  | [], _, h => by
    cases h
    exact .nil
  | d :: ds, _, h => by
    cases h with
    | cons h1 h2 => exact .cons (Dp.same s d _ h1) (Dp.sameAll s ds _ h2)
end
theorem DpAll.len {H : Hp} : ∀ {ds : List PyData} {vs : List V}, DpAll K H vs ds → vs.length = ds.length
  | [], _, h => by
    cases h
    rfl
  | d :: ds, _, h => by
    cases h with
    | cons h1 h2 => rw [List.length_cons, List.length_cons, DpAll.len h2]
theorem DpAll.get {H : Hp} : ∀ {ds : List PyData} {vs : List V} {i : Nat} {x : V}, DpAll K H vs ds → vs[i]? = some x → ∃ d, ds[i]? = some d ∧ Dp K H x d
  | [], _, i, x, h, e => by
    cases h
    cases e
  | d :: ds, _, 0, x, h, e => by
    cases h with
    | cons h1 h2 =>
      cases e
      exact ⟨d, rfl, h1⟩
  | d :: ds, _, i + 1, x, h, e => by
    cases h with
    | @cons _ vs _ _ h1 h2 => exact DpAll.get (ds := ds) (vs := vs) h2 (show vs[i]? = some x from e)
theorem walk_zipT {a b : Addr} {xs ys : List V} {n : Nat} (hn : n = min xs.length ys.length) : Walk (RZ.ItzT K a b) n (fun H => SqT K H a xs ∧ SqT K H b ys) (YPair (fun i => xs[i]?) (fun i => ys[i]?)) := by
  subst hn
  refine ⟨fun i _ hi q => ?_, fun _ q => ⟨xs, ys, q.1, q.2, by omega⟩, fun i H v H' _ q y => ?_⟩
  · have h1 : i < xs.length := by omega
    have h2 : i < ys.length := by omega
    exact ⟨xs, ys, xs[i], ys[i], q.1, q.2, by simp [h1], by simp [h2]⟩
  · obtain ⟨T, x, z, h1, h2, h3, h4, h5⟩ := y
    exact ⟨T, x, z, h1, h2, h3, h4 xs q.1, h5 ys q.2⟩
theorem ty_lst {H : Hp} {a : Addr} {xs : List V} (h : SqL K H a xs) : TyX K H (.ref a) (.type "list") := by
  rcases h with (h | ⟨o, h⟩) | ⟨o, its, n, h1, h2, _⟩
  · exact .base (.lst h)
  · exact .base (.frz h)
  · exact .kList h1 h2
theorem ty_tup {H : Hp} {a : Addr} {xs : List V} (h : SqT K H a xs) : TyX K H (.ref a) (.type "tuple") := by
  rcases h with (h | ⟨o, h⟩) | ⟨o, its, n, h1, h2, _⟩
  · exact .base (.tup h)
  · exact .fTuple h
  · exact .kTuple h1 h2
def spSame (K : PySem.W.Frag) (k : Nat) : Sp := fun vs H Q _ => ∃ (x y : V) (d : PyData) (j : Nat), vs = [x, y] ∧ k = j + 1 ∧ Lv j d ∧ Dp K H x d ∧ Dp K H y d ∧ ∀ H', Same H H' → Q (.bl true) H'
theorem same_none {f : Addr} {fd : FuncData} : FnOk P w K mg base CX0 0 f fd ["_law_found", "_law_due"] (spSame K 0) := by
  have no : ∀ vs H Q E, ¬ spSame K 0 vs H Q E := fun vs H Q E h => by
    obtain ⟨x, y, d, j, _, h0, _⟩ := h
    omega
  exact ⟨fun vs H Q E h => absurd h (no vs H Q E), fun A outer s H args us vs Q E _ _ _ _ h => absurd h (no vs H Q E)⟩
theorem yesT {σ : L2.St} {H : Hp} {R S : Hp → Prop} (h : R H) : tYes σ H fun b H3 => if b = true then R H3 else S H3 := h
theorem repl_snoc {α : Type} (i : Nat) (x : α) : List.replicate i x ++ [x] = List.replicate (i + 1) x := List.replicate_succ'.symm
theorem all_repl (n : Nat) : (List.replicate n true).all id = true := by
  rw [List.all_eq_true]
  intro x hx
  rw [List.eq_of_mem_replicate hx]
  rfl
theorem kitLT {t : String} {r1 r2 : Bool} (h1 : kitB t "list" = some r1) (h2 : kitB t "tuple" = some r2) : PySem.W.kitAny K (.type t) [.type "list", .type "tuple"] = some (r1 || r2) := by
  refine kitAny_cons (kit_ty h1) (fun e => ?_) (fun e => by rw [e]; rfl)
  rw [e, Bool.false_or]
  refine kitAny_cons (kit_ty h2) (fun e => ?_) (fun e => e)
  rw [e]
  rfl
theorem ok_same1 {f : Addr} {fd : FuncData} {k : Nat} (F : Fun K "_law_same" "_law_same" sSame f fd) (G : FnOk P w K mg base CX0 k f fd ["_law_found", "_law_due"] (spSame K k)) (bf : Binds K fd ["_law_found", "_law_due"] []) (mf : mg "_law_same" = some (.ref f)) (B : Bl mg) :
    FnOk P w K mg base CX0 (k + 1) f fd ["_law_found", "_law_due"] (spSame K (k + 1)) := by
  refine F.ok scSame (fun vs H Q E h => ?_) (fun cdv A outer s H vs Q E hr h => ?_)
  · obtain ⟨x, y, d, j, rfl, _⟩ := h
    rfl
  obtain ⟨x, y, d, j, rfl, ej, lv, dx, dy, q⟩ := h
  obtain rfl : k = j := by omega
  refine ⟨_, pss_cons (ps_if (pt_val (pe_callB call_isiT (by rfl) B.isinstance boot_isinstance (pa_cons (pv 1) (pa_cons (pe_tup (pa_cons (pe_bltn (v := .ty "list") (by rfl) B.list PyProof.Rows.boot_list rfl) (pa_cons (pe_bltn (v := .ty "tuple") (by rfl) B.tuple PyProof.Rows.boot_tuple rfl) pa_nil))) pa_nil))))
      (pss_cons (ps_if (PW.pt (pw_or (pt_cmpR op_ne (pe_callB call_isi (by rfl) B.isinstance boot_isinstance (pa_cons (pv 0) (pa_cons (pe_bltn (v := .ty "list") (by rfl) B.list PyProof.Rows.boot_list rfl) pa_nil))) (pe_callB call_isi (by rfl) B.isinstance boot_isinstance (pa_cons (pv 1) (pa_cons (pe_bltn (v := .ty "list") (by rfl) B.list PyProof.Rows.boot_list rfl) pa_nil))) (nomark _))
          (pw_or1 (pt_cmpR op_ne (pe_callB call_isi (by rfl) B.isinstance boot_isinstance (pa_cons (pv 0) (pa_cons (pe_bltn (v := .ty "tuple") (by rfl) B.tuple PyProof.Rows.boot_tuple rfl) pa_nil))) (pe_callB call_isi (by rfl) B.isinstance boot_isinstance (pa_cons (pv 1) (pa_cons (pe_bltn (v := .ty "tuple") (by rfl) B.tuple PyProof.Rows.boot_tuple rfl) pa_nil))) (nomark _)))))
          (pss_one (ps_ret pe_bl)) pss_nil)
        (pss_one (ps_ret (pe_and (pe_cmpR op_eq (pe_callB call_len_seq (by rfl) B.len PySem.boot_len (pa_cons (pv 0) pa_nil)) (pe_callB call_len_seq (by rfl) B.len PySem.boot_len (pa_cons (pv 1) pa_nil)) (nomark _))
          (pe_one (pe_callB (cr_all rfl) (by rfl) B.all boot_all (pa_cons (pe_lc (own := [("_law_one", 2), ("_law_other", 3)]) (g := gTup K 2 (gCons (gName 2) (gCons (gName 3) gNil))) (by rfl) scSame.nd (RZ.pi_zipA (by rfl) B.zip (pa_cons (pv 0) (pa_cons (pv 1) pa_nil)))
            (blkOk_by (own := [("_law_one", 2), ("_law_other", 3)]) (N := ["_law_found", "_law_due", "_law_one", "_law_other"]) (sc := defScope sSame) (by decide +kernel))
            (fun _ _ _ _ _ => pg_tup rfl (pgs_cons (pg_name (i := 2) scSame.nd rfl (Or.inl rfl) (.inr rfl)) (pgs_cons (pg_name (i := 3) scSame.nd rfl (Or.inl rfl) (.inr rfl)) pgs_nil))) (fun _ _ _ _ _ => pts_nil)
            (fun _ _ _ _ _ => pe_call G hr (by rfl) mf F.kp bf .nil pass0 (pa_cons (pv 2) (pa_cons (pv 3) pa_nil)))) pa_nil))))))) pss_nil)
    (pss_cons (ps_if (PW.pt (pw_or (pt_cmpR op_isN (pv 1) pe_non (nomark _)) (pw_or1 (pt_val (pe_callB call_isi (by rfl) B.isinstance boot_isinstance (pa_cons (pv 1) (pa_cons (pe_bltn (v := .ty "str") (by rfl) B.str PyProof.Rows.boot_str rfl) pa_nil)))))))
      (pss_one (ps_ret (pe_and (pe_cmpR op_eq (pv 0) (pv 1) (nomark _)) (pe_one (pe_cmpR op_eq (pe_callB call_isi (by rfl) B.isinstance boot_isinstance (pa_cons (pv 0) (pa_cons (pe_bltn (v := .ty "str") (by rfl) B.str PyProof.Rows.boot_str rfl) pa_nil))) (pe_callB call_isi (by rfl) B.isinstance boot_isinstance (pa_cons (pv 1) (pa_cons (pe_bltn (v := .ty "str") (by rfl) B.str PyProof.Rows.boot_str rfl) pa_nil))) (nomark _)))))) pss_nil)
    (pss_one (ps_ret (pe_and (pe_callB call_isi (by rfl) B.isinstance boot_isinstance (pa_cons (pv 0) (pa_cons (pe_bltn (v := .ty "int") (by rfl) B.int PyProof.Rows.boot_int rfl) pa_nil))) (pe_and (pe_cmpR op_eq (pe_callB call_isi (by rfl) B.isinstance boot_isinstance (pa_cons (pv 0) (pa_cons (pe_bltn (v := .ty "bool") (by rfl) B.bool PyProof.Rows.boot_bool rfl) pa_nil))) (pe_callB call_isi (by rfl) B.isinstance boot_isinstance (pa_cons (pv 1) (pa_cons (pe_bltn (v := .ty "bool") (by rfl) B.bool PyProof.Rows.boot_bool rfl) pa_nil))) (nomark _))
      (pe_one (pe_cmpR op_eq (pv 0) (pv 1) (nomark _)))))))), ?_⟩
  have pr : Paired ClsV [.ty "list", .ty "tuple"] [.type "list", .type "tuple"] := .cons (.ty _) (.cons (.ty _) .nil)
  refine ⟨_, rfl, (by show 2 ≤ sizeLine; decide), fun tp ntp => ?_⟩
  have s0 : Same H (upd H tp (.tup [.ty "list", .ty "tuple"])) := same_upd ntp
  cases d with
  | none =>
    cases dx
    cases dy
    refine ⟨_, tp, _, _, _, _, rfl, upd_same, pr, .base .non, kitLT (t := "NoneType") (r1 := false) (r2 := false) (by decide +kernel) (by decide +kernel), _, rfl, iteF ?_⟩
    refine ⟨_, rfl, rfl, _, rfl, iteT (iteT ?_)⟩
    refine ⟨_, rfl, _, rfl, rfl, _, rfl, iteT ?_⟩
    refine ⟨_, rfl, _, _, _, _, _, rfl, .ty _, .base .non, kit_ty (by decide +kernel : kitB "NoneType" "str" = some false), _, rfl, _, _, _, _, _, rfl, .ty _, .base .non, kit_ty (by decide +kernel : kitB "NoneType" "str" = some false), rfl, q _ s0⟩
  | bool b =>
    cases dx
    cases dy
    refine ⟨_, tp, _, _, _, _, rfl, upd_same, pr, .base (.bl _), kitLT (t := "bool") (r1 := false) (r2 := false) (by decide +kernel) (by decide +kernel), _, rfl, iteF ?_⟩
    refine ⟨_, rfl, rfl, _, rfl, iteF ?_⟩
    refine ⟨_, rfl, _, _, _, _, _, rfl, .ty _, .base (.bl _), kit_ty (by decide +kernel : kitB "bool" "str" = some false), _, rfl, iteF ?_⟩
    refine ⟨_, rfl, _, _, _, _, _, rfl, .ty _, .base (.bl _), kit_ty (by decide +kernel : kitB "bool" "int" = some true), _, rfl, iteT ?_⟩
    refine ⟨_, rfl, _, _, _, _, _, rfl, .ty _, .base (.bl _), kit_ty (by decide +kernel : kitB "bool" "bool" = some true), _, rfl, _, _, _, _, _, rfl, .ty _, .base (.bl _), kit_ty (by decide +kernel : kitB "bool" "bool" = some true), rfl, _, rfl, iteT ?_⟩
    refine ⟨_, rfl, _, rfl, rfl, ?_⟩
    rw [decide_eq_true rfl]
    exact q _ s0
  | int i =>
    cases dx
    cases dy
    refine ⟨_, tp, _, _, _, _, rfl, upd_same, pr, .base (.int _), kitLT (t := "int") (r1 := false) (r2 := false) (by decide +kernel) (by decide +kernel), _, rfl, iteF ?_⟩
    refine ⟨_, rfl, rfl, _, rfl, iteF ?_⟩
    refine ⟨_, rfl, _, _, _, _, _, rfl, .ty _, .base (.int _), kit_ty (by decide +kernel : kitB "int" "str" = some false), _, rfl, iteF ?_⟩
    refine ⟨_, rfl, _, _, _, _, _, rfl, .ty _, .base (.int _), kit_ty (by decide +kernel : kitB "int" "int" = some true), _, rfl, iteT ?_⟩
    refine ⟨_, rfl, _, _, _, _, _, rfl, .ty _, .base (.int _), kit_ty (by decide +kernel : kitB "int" "bool" = some false), _, rfl, _, _, _, _, _, rfl, .ty _, .base (.int _), kit_ty (by decide +kernel : kitB "int" "bool" = some false), rfl, _, rfl, iteT ?_⟩
    refine ⟨_, rfl, _, rfl, rfl, ?_⟩
    rw [decide_eq_true rfl]
    exact q _ s0
  | str z =>
    cases dx
    cases dy
    refine ⟨_, tp, _, _, _, _, rfl, upd_same, pr, .base (.str _), kitLT (t := "str") (r1 := false) (r2 := false) (by decide +kernel) (by decide +kernel), _, rfl, iteF ?_⟩
    refine ⟨_, rfl, rfl, _, rfl, iteF ?_⟩
    refine ⟨_, rfl, _, _, _, _, _, rfl, .ty _, .base (.str _), kit_ty (by decide +kernel : kitB "str" "str" = some true), _, rfl, iteT ?_⟩
    refine ⟨_, rfl, _, rfl, rfl, ?_⟩
    rw [decide_eq_true rfl]
    refine ⟨_, rfl, iteT ?_⟩
    exact ⟨_, rfl, _, _, _, _, _, rfl, .ty _, .base (.str _), kit_ty (by decide +kernel : kitB "str" "str" = some true), _, rfl, _, _, _, _, _, rfl, .ty _, .base (.str _), kit_ty (by decide +kernel : kitB "str" "str" = some true), rfl, q _ s0⟩
  | list ds =>
    cases dx with
    | @lst a xs _ hx ax =>
    cases dy with
    | @lst b ys _ hy ay =>
    obtain ⟨i, rfl⟩ : ∃ i, k = i + 1 := by
      cases k with
      | zero => exact absurd lv id
      | succ i => exact ⟨i, rfl⟩
    have lx := DpAll.len ax
    have ly := DpAll.len ay
    have hx1 := s0.seq hx
    have hy1 := s0.seq hy
    refine ⟨_, tp, _, _, _, _, rfl, upd_same, pr, ty_lst hy1, kitLT (t := "list") (r1 := true) (r2 := false) (by decide +kernel) (by decide +kernel), _, rfl, iteT ?_⟩
    refine ⟨_, rfl, _, _, _, _, _, rfl, .ty _, ty_lst hx1, kit_ty (by decide +kernel : kitB "list" "list" = some true), _, rfl, _, _, _, _, _, rfl, .ty _, ty_lst hy1, kit_ty (by decide +kernel : kitB "list" "list" = some true), rfl, _, rfl, iteF ?_⟩
    refine ⟨_, rfl, _, _, _, _, _, rfl, .ty _, ty_lst hx1, kit_ty (by decide +kernel : kitB "list" "tuple" = some false), _, rfl, _, _, _, _, _, rfl, .ty _, ty_lst hy1, kit_ty (by decide +kernel : kitB "list" "tuple" = some false), rfl, _, rfl, iteF ?_⟩
    refine ⟨_, rfl, a, _, rfl, .inl hx1, _, rfl, b, _, rfl, .inl hy1, rfl, ?_⟩
    rw [decide_eq_true (by rw [lx, ly])]
    refine ⟨_, rfl, iteT ?_⟩
    refine ⟨_, rfl, _, rfl, a, b, xs, ys, rfl, .inl ⟨hx1, hy1, fun D nD => ?_⟩⟩
    have sD := s0.trans (same_upd (o := .lst []) nD)
    refine lc_it (walk_zip (K := K) (a := a) (b := b) (xs := xs) (ys := ys) rfl) (fun i H3 => Same H H3 ∧ H3 D = some (.lst (List.replicate i (.bl true)))) ⟨sD, upd_same⟩ (fun i H3 _ ⟨s3, _⟩ => ⟨s3.seq hx, s3.seq hy⟩) ?_ ?_
    · rintro i v H3 H4 hi ⟨s3, eD⟩ ⟨T, x, y, rfl, nT, rfl, e1, e2⟩
      obtain ⟨d1, g1, p1⟩ := DpAll.get ax e1
      obtain ⟨d2, g2, p2⟩ := DpAll.get ay e2
      obtain rfl : d1 = d2 := Option.some.inj (g1.symm.trans g2)
      have s4 := s3.trans (same_upd (o := .tup [x, y]) nT)
      refine ⟨T, _, rfl, .inl (.inl upd_same), rfl, _, _, rfl, _, _, rfl, rfl, rfl, ?_⟩
      refine yesT ?_
      refine ⟨_, rfl, _, rfl, x, y, d1, _, rfl, rfl, lv.2 d1 (List.mem_of_getElem? g1), Dp.same s4 _ _ p1, Dp.same s4 _ _ p2, fun H5 s5 => ?_⟩
      refine ⟨_, s5 _ _ (by rw [upd_ne (ne_of_none eD nT)]; exact eD), ?_, fun p o e => ?_, ?_⟩
      · rw [List.length_replicate]
        have := lv.1
        refine Nat.lt_of_lt_of_le (show i < 1000000 by omega) (by decide)
      · rw [upd_ne (ne_of_none e (s0.free nD))]
        exact s5 _ _ (s4 _ _ e)
      · rw [upd_same, repl_snoc]
    · rintro H3 ⟨s3, eD⟩
      refine ⟨D, List.replicate (min xs.length ys.length) true, rfl, .inl (.inl (by rw [List.map_replicate]; exact eD)), ?_⟩
      rw [all_repl]
      exact q _ s3
  | tuple ds =>
    cases dx with
    | @tup a xs _ hx ax =>
    cases dy with
    | @tup b ys _ hy ay =>
    obtain ⟨i, rfl⟩ : ∃ i, k = i + 1 := by
      cases k with
      | zero => exact absurd lv id
      | succ i => exact ⟨i, rfl⟩
    have lx := DpAll.len ax
    have ly := DpAll.len ay
    have hx1 := Same.seqT s0 hx
    have hy1 := Same.seqT s0 hy
    refine ⟨_, tp, _, _, _, _, rfl, upd_same, pr, ty_tup hy1, kitLT (t := "tuple") (r1 := false) (r2 := true) (by decide +kernel) (by decide +kernel), _, rfl, iteT ?_⟩
    refine ⟨_, rfl, _, _, _, _, _, rfl, .ty _, ty_tup hx1, kit_ty (by decide +kernel : kitB "tuple" "list" = some false), _, rfl, _, _, _, _, _, rfl, .ty _, ty_tup hy1, kit_ty (by decide +kernel : kitB "tuple" "list" = some false), rfl, _, rfl, iteF ?_⟩
    refine ⟨_, rfl, _, _, _, _, _, rfl, .ty _, ty_tup hx1, kit_ty (by decide +kernel : kitB "tuple" "tuple" = some true), _, rfl, _, _, _, _, _, rfl, .ty _, ty_tup hy1, kit_ty (by decide +kernel : kitB "tuple" "tuple" = some true), rfl, _, rfl, iteF ?_⟩
    refine ⟨_, rfl, a, _, rfl, .inr hx1, _, rfl, b, _, rfl, .inr hy1, rfl, ?_⟩
    rw [decide_eq_true (by rw [lx, ly])]
    refine ⟨_, rfl, iteT ?_⟩
    refine ⟨_, rfl, _, rfl, a, b, xs, ys, rfl, .inr ⟨hx1, hy1, fun D nD => ?_⟩⟩
    have sD := s0.trans (same_upd (o := .lst []) nD)
    refine lc_it (walk_zipT (K := K) (a := a) (b := b) (xs := xs) (ys := ys) rfl) (fun i H3 => Same H H3 ∧ H3 D = some (.lst (List.replicate i (.bl true)))) ⟨sD, upd_same⟩ (fun i H3 _ ⟨s3, _⟩ => ⟨Same.seqT s3 hx, Same.seqT s3 hy⟩) ?_ ?_
    · rintro i v H3 H4 hi ⟨s3, eD⟩ ⟨T, x, y, rfl, nT, rfl, e1, e2⟩
      obtain ⟨d1, g1, p1⟩ := DpAll.get ax e1
      obtain ⟨d2, g2, p2⟩ := DpAll.get ay e2
      obtain rfl : d1 = d2 := Option.some.inj (g1.symm.trans g2)
      have s4 := s3.trans (same_upd (o := .tup [x, y]) nT)
      refine ⟨T, _, rfl, .inl (.inl upd_same), rfl, _, _, rfl, _, _, rfl, rfl, rfl, ?_⟩
      refine yesT ?_
      refine ⟨_, rfl, _, rfl, x, y, d1, _, rfl, rfl, lv.2 d1 (List.mem_of_getElem? g1), Dp.same s4 _ _ p1, Dp.same s4 _ _ p2, fun H5 s5 => ?_⟩
      refine ⟨_, s5 _ _ (by rw [upd_ne (ne_of_none eD nT)]; exact eD), ?_, fun p o e => ?_, ?_⟩
      · rw [List.length_replicate]
        have := lv.1
        refine Nat.lt_of_lt_of_le (show i < 1000000 by omega) (by decide)
      · rw [upd_ne (ne_of_none e (s0.free nD))]
        exact s5 _ _ (s4 _ _ e)
      · rw [upd_same, repl_snoc]
    · rintro H3 ⟨s3, eD⟩
      refine ⟨D, List.replicate (min xs.length ys.length) true, rfl, .inl (.inl (by rw [List.map_replicate]; exact eD)), ?_⟩
      rw [all_repl]
      exact q _ s3
  | dict _ => cases dx
theorem ok_same {f : Addr} {fd : FuncData} (F : Fun K "_law_same" "_law_same" sSame f fd) (bf : Binds K fd ["_law_found", "_law_due"] []) (mf : mg "_law_same" = some (.ref f)) (B : Bl mg) : ∀ k : Nat, FnOk P w K mg base CX0 k f fd ["_law_found", "_law_due"] (spSame K k)
  | 0 => same_none
  | k + 1 => ok_same1 F (ok_same F bf mf B k) bf mf B
end
end GZ
namespace GM
theorem pow_pos' (n : Nat) : (0 : Int) < 2 ^ n := Int.pow_pos (by decide)
theorem pow_s (n : Nat) : (2 : Int) ^ (n + 1) = 2 ^ n * 2 := Int.pow_succ 2 n
theorem pow_le' {m n : Nat} (h : m ≤ n) : (2 : Int) ^ m ≤ 2 ^ n := by
  induction n with
  | zero =>
    have : m = 0 := by omega
    rw [this]
    exact Int.le_refl _
  | succ n ih =>
    by_cases e : m = n + 1
    · rw [e]
      exact Int.le_refl _
    · have := ih (by omega)
      have := pow_s n
      have := pow_pos' n
      omega
theorem pow_add' (m n : Nat) : (2 : Int) ^ (m + n) = 2 ^ m * 2 ^ n := Int.pow_add 2 m n
theorem bits_pow {x : Nat} {e : Nat} (h : x < 2 ^ e) : PySem.Builtin.Int.intBits (x : Int) ≤ e := PyProof.Rows.intBits_le (by rw [Int.natAbs_natCast]; exact h)
theorem bits_le_pow {x : Nat} {e : Nat} (h : 2 ^ e ≤ x) : e + 1 ≤ PySem.Builtin.Int.intBits (x : Int) := by
  have hx : x ≠ 0 := by
    have := Nat.two_pow_pos e
    omega
  unfold PySem.Builtin.Int.intBits
  rw [if_neg (by simpa using hx), Int.natAbs_natCast]
  have := (Nat.le_log2 hx).mpr h
  omega
theorem bits_unique {x e : Nat} (h1 : 2 ^ e ≤ x) (h2 : x < 2 ^ (e + 1)) : PySem.Builtin.Int.intBits (x : Int) = e + 1 := by
  have := bits_pow h2
  have := bits_le_pow h1
  omega
theorem bits_ex {x : Nat} (h : 0 < x) : ∃ e, 2 ^ e ≤ x ∧ x < 2 ^ (e + 1) := ⟨x.log2, Nat.log2_self_le (by omega), Nat.lt_log2_self⟩
theorem bits_half {x : Nat} (h : 0 < x) : PySem.Builtin.Int.intBits (x : Int) = PySem.Builtin.Int.intBits ((x / 2 : Nat) : Int) + 1 := by
  obtain ⟨e, h1, h2⟩ := bits_ex h
  rw [bits_unique h1 h2]
  cases e with
  | zero =>
    have : x = 1 := by
      simp at h1 h2
      omega
    rw [this]
    rfl
  | succ e =>
    rw [bits_unique (x := x / 2) (e := e)]
    · rw [Nat.pow_succ] at h1
      omega
    · rw [Nat.pow_succ] at h2
      omega
theorem bits_double {x m : Nat} (h : 0 < x) (hm : m ≤ 1) : PySem.Builtin.Int.intBits ((2 * x + m : Nat) : Int) = PySem.Builtin.Int.intBits (x : Int) + 1 := by
  rw [bits_half (x := 2 * x + m) (by omega), show (2 * x + m) / 2 = x by omega]
theorem shr_lt {x : Int} {a b : Nat} (h0 : 0 ≤ x) (h : x < 2 ^ (a + b)) : 0 ≤ x / 2 ^ b ∧ x / 2 ^ b < 2 ^ a := by
  have hb := pow_pos' b
  refine ⟨Int.ediv_nonneg h0 (by omega), ?_⟩
  rw [pow_add'] at h
  exact Int.ediv_lt_of_lt_mul hb h
end GM
namespace GM
/-! ### words: a sign, a scale of m bits, a tail of t bits -/
def bit (a : Int) (n : Nat) : Int := a / 2 ^ n % 2
def blr (a : Int) : Nat → List Int
  | 0 => []
  | n + 1 => bit a n :: blr a n
def wv : List Int → Int
  | [] => 0
  | d :: r => d * 2 ^ r.length + wv r
theorem blr_len (a : Int) : ∀ n, (blr a n).length = n
  | 0 => rfl
  | n + 1 => by
    show (blr a n).length + 1 = n + 1
    rw [blr_len a n]
theorem div_div (w : Int) (t m : Nat) : w / 2 ^ t / 2 ^ m = w / 2 ^ (t + m) := by
  rw [pow_add', Int.ediv_ediv_of_nonneg (Int.le_of_lt (pow_pos' t))]
theorem bit_div (w : Int) (t m : Nat) : bit (w / 2 ^ t) m = bit w (m + t) := by
  unfold bit
  rw [div_div, Nat.add_comm t m]
theorem blr_take (w : Int) (t : Nat) : ∀ m, (blr w (m + t)).take m = blr (w / 2 ^ t) m
  | 0 => rfl
  | m + 1 => by
    show (blr w ((m + 1) + t)).take (m + 1) = bit (w / 2 ^ t) m :: blr (w / 2 ^ t) m
    rw [show m + 1 + t = (m + t) + 1 by omega]
    show bit w (m + t) :: (blr w (m + t)).take m = _
    rw [blr_take w t m, bit_div]
theorem blr_drop (w : Int) (t : Nat) : ∀ m, (blr w (m + t)).drop m = blr w t
  | 0 => by rw [Nat.zero_add]; rfl
  | m + 1 => by
    rw [show m + 1 + t = (m + t) + 1 by omega]
    show (blr w (m + t)).drop m = _
    exact blr_drop w t m
theorem mod_step (a : Int) (n : Nat) : bit a n * 2 ^ n + a % 2 ^ n = a % 2 ^ (n + 1) := by
  unfold bit
  have hp := pow_pos' n
  have e1 := Int.emod_add_mul_ediv a (2 ^ n)
  have e2 := Int.emod_add_mul_ediv (a / 2 ^ n) 2
  have h1 := Int.emod_nonneg a (show (2 : Int) ^ n ≠ 0 by omega)
  have h2 := Int.emod_lt_of_pos a hp
  have e3 : 2 ^ n * (a / 2 ^ n) = a / 2 ^ n % 2 * 2 ^ n + a / 2 ^ n / 2 * (2 ^ n * 2) := by
    conv => lhs; rw [← e2]
    rw [Int.mul_add, Int.mul_comm (2 ^ n) (a / 2 ^ n % 2), ← Int.mul_assoc, Int.mul_comm (2 ^ n * 2) _]
  have key : (a / 2 ^ n % 2 * 2 ^ n + a % 2 ^ n) + a / 2 ^ n / 2 * 2 ^ (n + 1) = a := by
    rw [pow_s]
    omega
  have hb : 0 ≤ a / 2 ^ n % 2 * 2 ^ n + a % 2 ^ n ∧ a / 2 ^ n % 2 * 2 ^ n + a % 2 ^ n < 2 ^ (n + 1) := by
    rw [pow_s]
    have : a / 2 ^ n % 2 = 0 ∨ a / 2 ^ n % 2 = 1 := by omega
    rcases this with z | z <;> rw [z] <;> omega
  have em := Int.add_mul_emod_self_right (a / 2 ^ n % 2 * 2 ^ n + a % 2 ^ n) (a / 2 ^ n / 2) (2 ^ (n + 1))
  rw [key, Int.emod_eq_of_lt hb.1 hb.2] at em
  exact em.symm
theorem wv_blr (a : Int) : ∀ n, wv (blr a n) = a % 2 ^ n
  | 0 => by
    show (0 : Int) = a % 1
    omega
  | n + 1 => by
    show bit a n * 2 ^ (blr a n).length + wv (blr a n) = _
    rw [blr_len, wv_blr a n, ← mod_step a n]
theorem fold2 : ∀ (ds : List Int) (w : Int), ds.foldl (fun a b => a * 2 + b) w = w * 2 ^ ds.length + wv ds
  | [], w => by
    show w = w * 2 ^ 0 + 0
    rw [Int.pow_zero]
    omega
  | d :: r, w => by
    show r.foldl (fun a b => a * 2 + b) (w * 2 + d) = w * 2 ^ (r.length + 1) + (d * 2 ^ r.length + wv r)
    rw [fold2 r, pow_s, Int.add_mul, Int.mul_assoc, Int.mul_comm 2 (2 ^ r.length)]
    omega
theorem wv_ones : ∀ k, wv (List.replicate k 1) = 2 ^ k - 1
  | 0 => rfl
  | k + 1 => by
    rw [List.replicate_succ]
    show 1 * 2 ^ (List.replicate k (1 : Int)).length + wv (List.replicate k 1) = _
    rw [List.length_replicate, wv_ones k, pow_s]
    omega
/-- sign, scale, tail of a word -/
def sgn (m t : Nat) (w : Int) : Int := w / 2 ^ (m + t) % 2
def scl (m t : Nat) (w : Int) : Int := w / 2 ^ t % 2 ^ m
def tlp (t : Nat) (w : Int) : Int := w % 2 ^ t
theorem scl_tlp (m t : Nat) (w : Int) : scl m t w * 2 ^ t + tlp t w = w % 2 ^ (m + t) := by
  induction m with
  | zero =>
    unfold scl tlp
    rw [Int.pow_zero, Int.emod_one, Int.zero_mul, Int.zero_add, Nat.zero_add]
  | succ m ih =>
    have e := mod_step (w / 2 ^ t) m
    have e2 := mod_step w (m + t)
    rw [bit_div] at e
    unfold scl at ih ⊢
    rw [← e, Int.add_mul, show m + 1 + t = (m + t) + 1 by omega, ← e2, ← ih, Int.mul_assoc, ← pow_add']
    omega
theorem sgn_01 {m t : Nat} {w : Int} : sgn m t w = 0 ∨ sgn m t w = 1 := by
  unfold sgn
  omega
theorem word_eq {m t : Nat} {w : Int} (h0 : 0 ≤ w) (h1 : w < 2 ^ (1 + m + t)) : sgn m t w * 2 ^ (m + t) + w % 2 ^ (m + t) = w := by
  have e := mod_step w (m + t)
  rw [show m + t + 1 = 1 + m + t by omega, Int.emod_eq_of_lt h0 h1] at e
  exact e
theorem scl_nn (m t : Nat) (w : Int) : 0 ≤ scl m t w ∧ scl m t w < 2 ^ m := ⟨Int.emod_nonneg _ (by have := pow_pos' m; omega), Int.emod_lt_of_pos _ (pow_pos' m)⟩
theorem tlp_nn (t : Nat) (w : Int) : 0 ≤ tlp t w ∧ tlp t w < 2 ^ t := ⟨Int.emod_nonneg _ (by have := pow_pos' t; omega), Int.emod_lt_of_pos _ (pow_pos' t)⟩
/-- with the other sign -/
def trn (m t : Nat) (w : Int) : Int := (1 - sgn m t w) * 2 ^ (m + t) + w % 2 ^ (m + t)
theorem mk_parts {m t : Nat} {s r : Int} (hs : s = 0 ∨ s = 1) (h0 : 0 ≤ r) (h1 : r < 2 ^ (m + t)) : 0 ≤ s * 2 ^ (m + t) + r ∧ s * 2 ^ (m + t) + r < 2 ^ (1 + m + t) ∧ sgn m t (s * 2 ^ (m + t) + r) = s ∧ (s * 2 ^ (m + t) + r) % 2 ^ (m + t) = r := by
  have hp := pow_pos' (m + t)
  have e : (2 : Int) ^ (1 + m + t) = 2 ^ (m + t) * 2 := by rw [← pow_s]; congr 1; omega
  have em : (s * 2 ^ (m + t) + r) % 2 ^ (m + t) = r := by
    rw [Int.add_comm, Int.add_mul_emod_self_right, Int.emod_eq_of_lt h0 h1]
  have ed : (s * 2 ^ (m + t) + r) / 2 ^ (m + t) = s := by
    rw [Int.add_comm, Int.add_mul_ediv_right _ _ (by omega), Int.ediv_eq_zero_of_lt h0 h1, Int.zero_add]
  refine ⟨?_, ?_, ?_, em⟩
  · rcases hs with z | z <;> subst z <;> omega
  · rw [e]
    rcases hs with z | z <;> subst z <;> omega
  · unfold sgn
    rw [ed]
    omega
theorem trn_trn {m t : Nat} {w : Int} (h0 : 0 ≤ w) (h1 : w < 2 ^ (1 + m + t)) : trn m t (trn m t w) = w ∧ 0 ≤ trn m t w ∧ trn m t w < 2 ^ (1 + m + t) := by
  have hp := pow_pos' (m + t)
  have hs : 1 - sgn m t w = 0 ∨ 1 - sgn m t w = 1 := by
    have := sgn_01 (m := m) (t := t) (w := w)
    omega
  obtain ⟨a, b, c, d⟩ := mk_parts (m := m) (t := t) hs (Int.emod_nonneg w (show (2 : Int) ^ (m + t) ≠ 0 by omega)) (Int.emod_lt_of_pos w hp)
  refine ⟨?_, a, b⟩
  show (1 - sgn m t (trn m t w)) * 2 ^ (m + t) + trn m t w % 2 ^ (m + t) = w
  rw [show sgn m t (trn m t w) = 1 - sgn m t w from c, show trn m t w % 2 ^ (m + t) = w % 2 ^ (m + t) from d, show 1 - (1 - sgn m t w) = sgn m t w by omega]
  exact word_eq h0 h1
end GM
namespace GR
open PySem
/-! ### the rounding, as a function -/
def bl (n : Int) : Int := (Builtin.Int.intBits n : Nat)
def cutQ (n b : Int) : Int := if b < 0 then n * 2 ^ (-b).toNat else n / 2 ^ b.toNat
def cutR (n b : Int) : Bool := if b < 0 then false else !decide (n / 2 ^ b.toNat * 2 ^ b.toNat = n)
def lea (sc tl : Nat) : Int := 1 - (2 ^ (sc - 1) - 1) - (tl : Int)
def lap (sc tl : Nat) (n p : Int) : Int := if lea sc tl > bl n + p - 1 - (tl : Int) then lea sc tl else bl n + p - 1 - (tl : Int)
def prQ (n b : Int) : Int := cutQ n (b - 1) / 2 ^ 1
def prR (n b : Int) (more : Bool) : Int := 2 * (cutQ n (b - 1) % 2 ^ 1) + (if cutR n (b - 1) || more then 1 else 0)
def away (way : Str) (s : Int) : Bool := if way = "cut" then false else decide (s = if way = "up" then 0 else 1)
def gup (way : Str) (s many rest : Int) : Bool := if way = "near" then decide (rest = 3) || (decide (rest = 2) && decide (many % 2 = 1)) else !decide (rest = 0) && away way s
def wrd (sc tl : Nat) (s m t : Int) : Int := s * 2 ^ (sc + tl) + (m * 2 ^ tl + t)
def bey (sc tl : Nat) (s : Int) (way : Str) : Int := if (decide (way = "near") || away way s) = true then wrd sc tl s (2 ^ sc - 1) 0 else wrd sc tl s (2 ^ sc - 1 - 1) (2 ^ tl - 1)
def flg (sc : Nat) (n p rest : Int) : List Str := if rest = 0 then [] else if bl n + p ≤ 1 - (2 ^ (sc - 1) - 1) then ["under", "rounded"] else ["rounded"]
def mny (sc tl : Nat) (s n p : Int) (way : Str) (more : Bool) : Int := if gup way s (prQ n (lap sc tl n p - p)) (prR n (lap sc tl n p - p) more) = true then prQ n (lap sc tl n p - p) + 1 else prQ n (lap sc tl n p - p)
def siz (sc tl : Nat) (s n p : Int) (way : Str) (more : Bool) : Int := (lap sc tl n p - lea sc tl) * 2 ^ tl + mny sc tl s n p way more
def rnd (sc tl : Nat) (s n p : Int) (way : Str) (more : Bool) : Int × List Str :=
  if n = 0 then (wrd sc tl s 0 0, [])
  else if siz sc tl s n p way more > wrd sc tl 0 (2 ^ sc - 1 - 1) (2 ^ tl - 1) then (bey sc tl s way, ["over", "rounded"])
  else (wrd sc tl s 0 0 + siz sc tl s n p way more, flg sc n p (prR n (lap sc tl n p - p) more))
theorem lap_ge (sc tl : Nat) (n p : Int) : lea sc tl ≤ lap sc tl n p := by
  unfold lap
  split <;> omega
end GR
namespace GM
/-! ### sizes and their worths -/
def topS (m t : Nat) : Int := (2 ^ m - 1) * 2 ^ t
def num (t : Nat) (s : Int) : Int := if s / 2 ^ t = 0 then s % 2 ^ t else 2 ^ t + s % 2 ^ t
def ex (t : Nat) (s : Int) : Nat := (s / 2 ^ t).toNat - 1
def numE (m t : Nat) (s : Int) : Int := if s = topS m t then 1 else num t s
def exE (m t : Nat) (s : Int) : Nat := if s = topS m t then 1998 + 2 ^ (m - 1) + t else ex t s
def Vv (m t : Nat) (s : Int) : Int := numE m t s * 2 ^ exE m t s
theorem sz_parts (t : Nat) (s : Int) : s / 2 ^ t * 2 ^ t + s % 2 ^ t = s := by
  have := Int.emod_add_mul_ediv s (2 ^ t)
  rw [Int.mul_comm] at this
  omega
theorem num_nn {t : Nat} {s : Int} (h : 0 ≤ s) : 0 ≤ num t s := by
  have hp := pow_pos' t
  have := Int.emod_nonneg s (show (2 : Int) ^ t ≠ 0 by omega)
  unfold num
  split <;> omega
/-- below 2 ^ t times 2 ^ h -/
theorem num_lt {t : Nat} {s : Int} (h0 : 0 ≤ s) : num t s * 2 ^ ex t s < 2 ^ t * 2 ^ (s / 2 ^ t).toNat := by
  have hp := pow_pos' t
  have hl := Int.emod_lt_of_pos s hp
  have hd := Int.ediv_nonneg h0 (Int.le_of_lt hp)
  unfold num ex
  split
  · rename_i e
    rw [e]
    show s % 2 ^ t * 2 ^ 0 < 2 ^ t * 2 ^ 0
    rw [Int.pow_zero]
    omega
  · rename_i e
    obtain ⟨k, hk⟩ : ∃ k : Nat, (s / 2 ^ t).toNat = k + 1 := ⟨(s / 2 ^ t).toNat - 1, by omega⟩
    rw [hk, Nat.add_sub_cancel, pow_s, ← Int.mul_assoc]
    have hk2 := pow_pos' k
    have : (2 ^ t + s % 2 ^ t) * 2 ^ k < (2 ^ t * 2) * 2 ^ k := Int.mul_lt_mul_of_pos_right (by omega) hk2
    rw [show (2 : Int) ^ t * 2 ^ k * 2 = 2 ^ t * 2 * 2 ^ k by rw [Int.mul_assoc, Int.mul_assoc, Int.mul_comm (2 ^ k) 2]]
    exact this
theorem num_ge {t : Nat} {s : Int} {k : Nat} (h : (s / 2 ^ t).toNat = k + 1) : 2 ^ t * 2 ^ k ≤ num t s * 2 ^ ex t s := by
  have hp := pow_pos' t
  have := Int.emod_nonneg s (show (2 : Int) ^ t ≠ 0 by omega)
  have hk2 := pow_pos' k
  unfold num ex
  rw [if_neg (by omega), h, Nat.add_sub_cancel]
  exact Int.mul_le_mul_of_nonneg_right (by omega) (by omega)
theorem num_mono {t : Nat} {a b : Int} (h0 : 0 ≤ a) (h : a < b) : num t a * 2 ^ ex t a < num t b * 2 ^ ex t b := by
  have hp := pow_pos' t
  have ea := sz_parts t a
  have eb := sz_parts t b
  have la := Int.emod_lt_of_pos a hp
  have na := Int.emod_nonneg a (show (2 : Int) ^ t ≠ 0 by omega)
  have nb := Int.emod_nonneg b (show (2 : Int) ^ t ≠ 0 by omega)
  have lb := Int.emod_lt_of_pos b hp
  have hle : a / 2 ^ t ≤ b / 2 ^ t := Int.ediv_le_ediv hp (by omega)
  have hd := Int.ediv_nonneg h0 (Int.le_of_lt hp)
  by_cases e : a / 2 ^ t = b / 2 ^ t
  · have hl : a % 2 ^ t < b % 2 ^ t := by
      rw [e] at ea
      omega
    have hx : ex t a = ex t b := by unfold ex; rw [e]
    rw [hx]
    refine Int.mul_lt_mul_of_pos_right ?_ (pow_pos' _)
    unfold num
    rw [e]
    split <;> omega
  · obtain ⟨k, hk⟩ : ∃ k : Nat, (b / 2 ^ t).toNat = k + 1 := ⟨(b / 2 ^ t).toNat - 1, by omega⟩
    have h1 := num_lt (t := t) h0
    have h2 := num_ge hk
    have h3 : (2 : Int) ^ t * 2 ^ (a / 2 ^ t).toNat ≤ 2 ^ t * 2 ^ k := Int.mul_le_mul_of_nonneg_left (pow_le' (by omega)) (by omega)
    omega
theorem Vv_mono {m t : Nat} (hm : m ≤ 8) {a b : Int} (h0 : 0 ≤ a) (h : a < b) (hb : b ≤ topS m t) : Vv m t a < Vv m t b := by
  unfold Vv numE exE
  rw [if_neg (by omega), if_neg (by omega)]
  by_cases e : b = topS m t
  · rw [if_pos e, if_pos e, Int.one_mul]
    have h1 := num_lt (t := t) h0
    have hp := pow_pos' t
    have hq : a / 2 ^ t < 2 ^ m := by
      refine Int.ediv_lt_of_lt_mul hp ?_
      have : topS m t ≤ 2 ^ m * 2 ^ t := Int.mul_le_mul_of_nonneg_right (by omega) (by omega)
      omega
    have h8 : (2 : Int) ^ m ≤ 2 ^ 8 := pow_le' hm
    rw [← pow_add'] at h1
    have h3 : (a / 2 ^ t).toNat ≤ 256 := by omega
    have h2 : (2 : Int) ^ (t + (a / 2 ^ t).toNat) ≤ 2 ^ (1998 + 2 ^ (m - 1) + t) := pow_le' (by
      generalize 2 ^ (m - 1) = zz
      omega)
    omega
  · rw [if_neg e, if_neg e]
    exact num_mono h0 h
theorem Vv_zero (m t : Nat) (h : 0 < topS m t) : Vv m t 0 = 0 := by
  unfold Vv numE num
  rw [if_neg (by omega), Int.zero_ediv, if_pos rfl, Int.zero_emod, Int.zero_mul]
/-- how two words stand to each other, by worths and by sizes -/
theorem cmp_eq {m t : Nat} (hm : m ≤ 8) {a b : Int} (a0 : 0 ≤ a) (a1 : a ≤ topS m t) (b0 : 0 ≤ b) (b1 : b ≤ topS m t) (hT : 0 < topS m t) (g h : Bool) :
    ((if g then 0 - numE m t a else numE m t a) * 2 ^ (exE m t a - min (exE m t a) (exE m t b)) = (if h then 0 - numE m t b else numE m t b) * 2 ^ (exE m t b - min (exE m t a) (exE m t b)) ↔ (if g then -a else a) = (if h then -b else b)) ∧
    ((if g then 0 - numE m t a else numE m t a) * 2 ^ (exE m t a - min (exE m t a) (exE m t b)) < (if h then 0 - numE m t b else numE m t b) * 2 ^ (exE m t b - min (exE m t a) (exE m t b)) ↔ (if g then -a else a) < (if h then -b else b)) := by
  have pm := pow_pos' (min (exE m t a) (exE m t b))
  have ea : (if g then 0 - numE m t a else numE m t a) * 2 ^ (exE m t a - min (exE m t a) (exE m t b)) * 2 ^ min (exE m t a) (exE m t b) = (if g then -Vv m t a else Vv m t a) := by
    rw [Int.mul_assoc, ← pow_add', show exE m t a - min (exE m t a) (exE m t b) + min (exE m t a) (exE m t b) = exE m t a by omega]
    unfold Vv
    cases g
    · rfl
    · show (0 - numE m t a) * 2 ^ exE m t a = -(numE m t a * 2 ^ exE m t a)
      rw [Int.zero_sub, Int.neg_mul]
  have eb : (if h then 0 - numE m t b else numE m t b) * 2 ^ (exE m t b - min (exE m t a) (exE m t b)) * 2 ^ min (exE m t a) (exE m t b) = (if h then -Vv m t b else Vv m t b) := by
    rw [Int.mul_assoc, ← pow_add', show exE m t b - min (exE m t a) (exE m t b) + min (exE m t a) (exE m t b) = exE m t b by omega]
    unfold Vv
    cases h
    · rfl
    · show (0 - numE m t b) * 2 ^ exE m t b = -(numE m t b * 2 ^ exE m t b)
      rw [Int.zero_sub, Int.neg_mul]
  generalize (if g then 0 - numE m t a else numE m t a) * 2 ^ (exE m t a - min (exE m t a) (exE m t b)) = x at *
  generalize (if h then 0 - numE m t b else numE m t b) * 2 ^ (exE m t b - min (exE m t a) (exE m t b)) = y at *
  have exy : (x = y ↔ (if g then -Vv m t a else Vv m t a) = (if h then -Vv m t b else Vv m t b)) ∧ (x < y ↔ (if g then -Vv m t a else Vv m t a) < (if h then -Vv m t b else Vv m t b)) := by
    rw [← ea, ← eb]
    generalize (2 : Int) ^ min (exE m t a) (exE m t b) = d at *
    refine ⟨⟨fun z => by rw [z], fun z => Int.eq_of_mul_eq_mul_right (by omega) z⟩, ⟨fun z => Int.mul_lt_mul_of_pos_right z pm, fun z => Int.lt_of_mul_lt_mul_right z (by omega)⟩⟩
  rw [exy.1, exy.2]
  have z := Vv_zero m t hT
  have pa : a = 0 ∨ 0 < Vv m t a := by
    rcases Int.lt_or_eq_of_le a0 with q | q
    · have := Vv_mono hm (Int.le_refl 0) q a1
      omega
    · exact .inl q.symm
  have pb : b = 0 ∨ 0 < Vv m t b := by
    rcases Int.lt_or_eq_of_le b0 with q | q
    · have := Vv_mono hm (Int.le_refl 0) q b1
      omega
    · exact .inl q.symm
  have za : a = 0 → Vv m t a = 0 := fun q => by rw [q]; exact z
  have zb : b = 0 → Vv m t b = 0 := fun q => by rw [q]; exact z
  have lt1 : a < b → Vv m t a < Vv m t b := fun q => Vv_mono hm a0 q b1
  have lt2 : b < a → Vv m t b < Vv m t a := fun q => Vv_mono hm b0 q a1
  have eqq : a = b → Vv m t a = Vv m t b := fun q => by rw [q]
  generalize Vv m t a = u at *
  generalize Vv m t b = v at *
  have tri : a < b ∨ a = b ∨ b < a := by omega
  cases g <;> cases h <;> simp only [if_true, if_false, Bool.false_eq_true] <;>
    (rcases tri with q | q | q
     · have := lt1 q; rcases pa with w | w <;> rcases pb with w2 | w2 <;> (try have := za w) <;> (try have := zb w2) <;> constructor <;> omega
     · have := eqq q; rcases pa with w | w <;> rcases pb with w2 | w2 <;> (try have := za w) <;> (try have := zb w2) <;> constructor <;> omega
     · have := lt2 q; rcases pa with w | w <;> rcases pb with w2 | w2 <;> (try have := za w) <;> (try have := zb w2) <;> constructor <;> omega)
end GM
namespace GM
theorem div_s (x : Int) (k : Nat) : x / 2 ^ (k + 1) = x / 2 ^ k / 2 := by
  rw [pow_s, Int.ediv_ediv_of_nonneg (Int.le_of_lt (pow_pos' k))]
end GM
namespace GR
open PySem GM
/-! ### where a worth stands between two words -/
def cmpM (N Mo V : Int) (more : Bool) : Int := if N = V then (if more then 1 else 0) else if N > V then 1 else if N + (if more then 1 else 0) * Mo ≤ V then -1 else 1
theorem cmp_scale {c N Mo V : Int} {more : Bool} (h : 0 < c) : cmpM (N * c) (Mo * c) (V * c) more = cmpM N Mo V more := by
  unfold cmpM
  have e1 : N * c = V * c ↔ N = V := ⟨fun z => Int.eq_of_mul_eq_mul_right (by omega) z, fun z => by rw [z]⟩
  have e2 : N * c > V * c ↔ N > V := ⟨fun z => Int.lt_of_mul_lt_mul_right z (by omega), fun z => Int.mul_lt_mul_of_pos_right z h⟩
  have e3 : N * c + (if more then 1 else 0) * (Mo * c) ≤ V * c ↔ N + (if more then 1 else 0) * Mo ≤ V := by
    rw [← Int.mul_assoc, ← Int.add_mul]
    exact ⟨fun z => Int.le_of_mul_le_mul_right z h, fun z => Int.mul_le_mul_of_nonneg_right z (by omega)⟩
  by_cases c1 : N = V
  · rw [if_pos c1, if_pos (e1.mpr c1)]
  · rw [if_neg c1, if_neg (fun z => c1 (e1.mp z))]
    by_cases c2 : N > V
    · rw [if_pos c2, if_pos (e2.mpr c2)]
    · rw [if_neg c2, if_neg (fun z => c2 (e2.mp z))]
      by_cases c3 : N + (if more then 1 else 0) * Mo ≤ V
      · rw [if_pos c3, if_pos (e3.mpr c3)]
      · rw [if_neg c3, if_neg (fun z => c3 (e3.mp z))]
theorem cmp_ge {N Mo V : Int} {more : Bool} (h : V ≤ N) : 0 ≤ cmpM N Mo V more := by
  unfold cmpM
  split
  · split <;> decide
  · rw [if_pos (by omega)]
    decide
theorem cmp_lt {N Mo V : Int} {more : Bool} (h : N < V) (hm : more = true → N + Mo ≤ V) : cmpM N Mo V more = -1 := by
  unfold cmpM
  rw [if_neg (by omega), if_neg (by omega), if_pos ?_]
  cases more with
  | true =>
    have := hm rfl
    rw [if_pos rfl]
    omega
  | false =>
    rw [if_neg (by decide)]
    omega
/-! ### cutting off, on one scale -/
theorem cut_scale {n : Int} {a D : Nat} {b : Int} (hb : (D : Int) = a + b) : cutQ n b = n * 2 ^ a / 2 ^ D ∧ cutR n b = !decide (n * 2 ^ a % 2 ^ D = 0) := by
  have hD := pow_pos' D
  have ha := pow_pos' a
  unfold cutQ cutR
  by_cases c : b < 0
  · rw [if_pos c, if_pos c]
    have e : (2 : Int) ^ a = 2 ^ (-b).toNat * 2 ^ D := by rw [← pow_add']; congr 1; omega
    rw [e, ← Int.mul_assoc]
    refine ⟨(Int.mul_ediv_cancel _ (by omega)).symm, ?_⟩
    rw [Int.mul_emod_left, decide_eq_true rfl]
    rfl
  · rw [if_neg c, if_neg c]
    have e : (2 : Int) ^ D = 2 ^ b.toNat * 2 ^ a := by rw [← pow_add']; congr 1; omega
    have hp := pow_pos' b.toNat
    rw [e, Int.mul_ediv_mul_of_pos_left _ _ ha]
    refine ⟨rfl, ?_⟩
    rw [show n * 2 ^ a % (2 ^ b.toNat * 2 ^ a) = n % 2 ^ b.toNat * 2 ^ a by rw [Int.mul_comm n, Int.mul_comm (2 ^ b.toNat), Int.mul_emod_mul_of_pos _ _ ha, Int.mul_comm]]
    have e2 := Int.emod_add_mul_ediv n (2 ^ b.toNat)
    rw [Int.mul_comm] at e2
    by_cases d : n % 2 ^ b.toNat = 0
    · rw [d, Int.zero_mul, decide_eq_true rfl, decide_eq_true (by omega)]
    · have d2 : ¬ n % 2 ^ b.toNat * 2 ^ a = 0 := fun z => by
        rcases Int.mul_eq_zero.mp z with y | y
        · exact d y
        · omega
      rw [decide_eq_false d2, decide_eq_false (by omega)]
/-! ### the worth of a size -/
def W (t : Nat) (u : Int) : Int := num t u * 2 ^ ex t u
theorem W_at {t : Nat} {d : Nat} {m : Int} (h0 : 0 ≤ m) (h1 : m ≤ 2 ^ t * 2) (h2 : d = 0 ∨ 2 ^ t ≤ m) : W t (d * 2 ^ t + m) = m * 2 ^ d := by
  have hp := pow_pos' t
  unfold W
  by_cases c : m < 2 ^ t
  · have hd : d = 0 := by omega
    subst hd
    have e : ((0 : Nat) : Int) * 2 ^ t + m = m := by omega
    rw [e]
    unfold num ex
    rw [Int.ediv_eq_zero_of_lt h0 c, if_pos rfl, Int.emod_eq_of_lt h0 c]
    rfl
  · by_cases c2 : m < 2 ^ t * 2
    · have ed : ((d : Int) * 2 ^ t + m) / 2 ^ t = (d : Int) + 1 := by
        rw [show (d : Int) * 2 ^ t + m = (m - 2 ^ t) + ((d : Int) + 1) * 2 ^ t by rw [Int.add_mul]; omega, Int.add_mul_ediv_right _ _ (by omega), Int.ediv_eq_zero_of_lt (by omega) (by omega)]
        omega
      have em : ((d : Int) * 2 ^ t + m) % 2 ^ t = m - 2 ^ t := by
        rw [show (d : Int) * 2 ^ t + m = (m - 2 ^ t) + ((d : Int) + 1) * 2 ^ t by rw [Int.add_mul]; omega, Int.add_mul_emod_self_right, Int.emod_eq_of_lt (by omega) (by omega)]
      unfold num ex
      rw [ed, em, if_neg (by omega), show ((d : Int) + 1).toNat - 1 = d by omega, show 2 ^ t + (m - 2 ^ t) = m by omega]
    · have hm : m = 2 ^ t * 2 := by omega
      have ed : ((d : Int) * 2 ^ t + m) / 2 ^ t = (d : Int) + 2 := by
        rw [show (d : Int) * 2 ^ t + m = 0 + ((d : Int) + 2) * 2 ^ t by rw [Int.add_mul]; omega, Int.add_mul_ediv_right _ _ (by omega), Int.zero_ediv]
        omega
      have em : ((d : Int) * 2 ^ t + m) % 2 ^ t = 0 := by
        rw [show (d : Int) * 2 ^ t + m = 0 + ((d : Int) + 2) * 2 ^ t by rw [Int.add_mul]; omega, Int.add_mul_emod_self_right, Int.zero_emod]
      unfold num ex
      rw [ed, em, if_neg (by omega), show ((d : Int) + 2).toNat - 1 = d + 1 by omega, hm, pow_s, Int.add_zero, Int.mul_assoc, Int.mul_comm 2 (2 ^ d)]
theorem W_mono {t : Nat} {a b : Int} (h0 : 0 ≤ a) (h : a < b) : W t a < W t b := num_mono h0 h
theorem W_le {t : Nat} {a b : Int} (h0 : 0 ≤ a) (h : a ≤ b) : W t a ≤ W t b := by
  rcases Int.lt_or_eq_of_le h with c | c
  · exact Int.le_of_lt (W_mono h0 c)
  · rw [c]
    exact Int.le_refl _
theorem bl_in {n : Int} (h : 0 < n) : ∃ k : Nat, bl n = (k : Int) + 1 ∧ 2 ^ k ≤ n ∧ n < 2 ^ (k + 1) := by
  obtain ⟨e, h1, h2⟩ := bits_ex (x := n.toNat) (by omega)
  have hb := bits_unique h1 h2
  have c1 : ((2 ^ e : Nat) : Int) = (2 : Int) ^ e := PySem.W.kbt_cast _
  have c2 : ((2 ^ (e + 1) : Nat) : Int) = (2 : Int) ^ (e + 1) := PySem.W.kbt_cast _
  rw [show ((n.toNat : Nat) : Int) = n by omega] at hb
  refine ⟨e, ?_, by omega, by omega⟩
  unfold bl
  rw [hb]
  omega
/-- what the search meets, and what the rounding reckons -/
structure Fl (sc tl : Nat) (n p : Int) (more : Bool) (N Mo bq low0 : Int) : Prop where
  lo0 : 0 ≤ low0
  le : ∀ u, 0 ≤ u → u ≤ low0 → 0 ≤ cmpM N Mo (W tl u * bq) more
  gt : ∀ u, low0 < u → cmpM N Mo (W tl u * bq) more = -1
  just : cmpM N Mo (W tl low0 * bq) more = 0 ↔ prR n (lap sc tl n p - p) more = 0
  half : cmpM (N * 2) (Mo * 2) (W tl low0 * bq + W tl (low0 + 1) * bq) more = (if prR n (lap sc tl n p - p) more = 3 then 1 else if prR n (lap sc tl n p - p) more = 2 then 0 else -1)
  rest : 0 ≤ prR n (lap sc tl n p - p) more ∧ prR n (lap sc tl n p - p) more ≤ 3
  odd : low0 % 2 = prQ n (lap sc tl n p - p) % 2
  und : cmpM N Mo (W tl (2 ^ tl) * bq) more < 0 ↔ bl n + p ≤ 1 - (2 ^ (sc - 1) - 1)
theorem floor_facts {sc tl : Nat} {n p : Int} {more : Bool} (htl : 1 ≤ tl) (hn : 0 < n) (hm : more = true → p < lap sc tl n p) {a b : Nat} {B : Int} (ha : p - B = a) (hb : lea sc tl - B = (b : Int) + 1) :
    Fl sc tl n p more (n * 2 ^ a) (2 ^ a) (2 ^ (b + 1)) ((lap sc tl n p - lea sc tl) * 2 ^ tl + prQ n (lap sc tl n p - p)) := by
  obtain ⟨k, hk, hk1, hk2⟩ := bl_in hn
  have hge := lap_ge sc tl n p
  obtain ⟨d, hd⟩ : ∃ d : Nat, lap sc tl n p - lea sc tl = (d : Int) := ⟨(lap sc tl n p - lea sc tl).toNat, by omega⟩
  have hcase : (d = 0 ∧ bl n + p - 1 - tl ≤ lap sc tl n p) ∨ lap sc tl n p = bl n + p - 1 - tl := by
    unfold lap at hd ⊢
    split
    · rename_i c
      rw [if_pos c] at hd
      exact .inl ⟨by omega, by omega⟩
    · exact .inr rfl
  have hle : bl n + p - 1 - tl ≤ lap sc tl n p := by omega
  -- the scale
  obtain ⟨hQ, hR⟩ := cut_scale (n := n) (a := a) (D := d + b) (b := lap sc tl n p - p - 1) (by omega)
  have pD := pow_pos' (d + b)
  have pa := pow_pos' a
  have pt := pow_pos' tl
  have pD1 : (2 : Int) ^ (d + b + 1) = 2 ^ (d + b) * 2 := pow_s _
  have eq : prQ n (lap sc tl n p - p) = n * 2 ^ a / 2 ^ (d + b + 1) := by
    show cutQ n (lap sc tl n p - p - 1) / 2 ^ 1 = _
    rw [hQ, GM.div_div]
  have er : prR n (lap sc tl n p - p) more = 2 * (n * 2 ^ a / 2 ^ (d + b) % 2) + (if (!decide (n * 2 ^ a % 2 ^ (d + b) = 0)) || more then 1 else 0) := by
    show 2 * (cutQ n (lap sc tl n p - p - 1) % 2 ^ 1) + (if cutR n (lap sc tl n p - p - 1) || more then 1 else 0) = _
    rw [hQ, hR]
    rfl
  have hN0 : 0 < n * 2 ^ a := Int.mul_pos hn pa
  have moreD : more = true → ∃ f : Nat, (2 : Int) ^ (d + b) = 2 ^ f * 2 ^ a := fun z => by
    have := hm z
    refine ⟨d + b - a, ?_⟩
    rw [← pow_add']
    congr 1
    omega
  -- sizes of the number
  have hNlt : n * 2 ^ a < 2 ^ (k + 1 + a) := by
    rw [pow_add']
    exact Int.mul_lt_mul_of_pos_right hk2 pa
  have hNge : 2 ^ (k + a) ≤ n * 2 ^ a := by
    rw [pow_add']
    exact Int.mul_le_mul_of_nonneg_right hk1 (by omega)
  have hkd : k + 1 + a ≤ tl + 1 + (d + b + 1) := by omega
  have hm1 : n * 2 ^ a / 2 ^ (d + b + 1) < 2 ^ tl * 2 := by
    refine Int.ediv_lt_of_lt_mul (by omega) ?_
    rw [← pow_s, ← pow_add']
    exact Int.lt_of_lt_of_le hNlt (pow_le' hkd)
  have hm0 : 0 ≤ n * 2 ^ a / 2 ^ (d + b + 1) := Int.ediv_nonneg (by omega) (by omega)
  have hm2 : d = 0 ∨ 2 ^ tl ≤ n * 2 ^ a / 2 ^ (d + b + 1) := by
    rcases hcase with h | h
    · exact .inl h.1
    · right
      refine (Int.le_ediv_iff_mul_le (by omega)).mpr ?_
      rw [← pow_add']
      exact Int.le_trans (pow_le' (by omega)) hNge
  rw [eq, hd]
  have eN := Int.emod_add_mul_ediv (n * 2 ^ a) (2 ^ (d + b + 1))
  have r0 := Int.emod_nonneg (n * 2 ^ a) (show (2 : Int) ^ (d + b + 1) ≠ 0 by omega)
  have r1 := Int.emod_lt_of_pos (n * 2 ^ a) (show (0 : Int) < 2 ^ (d + b + 1) by omega)
  have fN := Int.emod_add_mul_ediv (n * 2 ^ a) (2 ^ (d + b))
  have s0 := Int.emod_nonneg (n * 2 ^ a) (show (2 : Int) ^ (d + b) ≠ 0 by omega)
  have s1 := Int.emod_lt_of_pos (n * 2 ^ a) pD
  have hh : n * 2 ^ a / 2 ^ (d + b + 1) = n * 2 ^ a / 2 ^ (d + b) / 2 := GM.div_s _ _
  have pt2 : (2 : Int) ^ tl = 2 ^ (tl - 1) * 2 := by rw [← pow_s]; congr 1; omega
  have bb : (2 : Int) ^ d * 2 ^ (b + 1) = 2 ^ (d + b) * 2 := by rw [← pow_add', show d + (b + 1) = d + b + 1 by omega, pow_s]
  have v0 : W tl ((d : Int) * 2 ^ tl + n * 2 ^ a / 2 ^ (d + b + 1)) * 2 ^ (b + 1) = n * 2 ^ a / 2 ^ (d + b + 1) * (2 ^ (d + b) * 2) := by
    rw [W_at hm0 (by omega) hm2, Int.mul_assoc, bb]
  have v1 : W tl ((d : Int) * 2 ^ tl + n * 2 ^ a / 2 ^ (d + b + 1) + 1) * 2 ^ (b + 1) = (n * 2 ^ a / 2 ^ (d + b + 1) + 1) * (2 ^ (d + b) * 2) := by
    rw [show (d : Int) * 2 ^ tl + n * 2 ^ a / 2 ^ (d + b + 1) + 1 = (d : Int) * 2 ^ tl + (n * 2 ^ a / 2 ^ (d + b + 1) + 1) by omega, W_at (by omega) (by omega) (by omega), Int.mul_assoc, bb]
  have lo0 : 0 ≤ (d : Int) * 2 ^ tl + n * 2 ^ a / 2 ^ (d + b + 1) := by
    have := Int.mul_nonneg (show (0 : Int) ≤ (d : Int) by omega) (Int.le_of_lt pt)
    omega
  have pb := pow_pos' (b + 1)
  rw [pD1] at eN r0 r1
  have vt : W tl (2 ^ tl) * 2 ^ (b + 1) = 2 ^ (tl + (b + 1)) := by
    have := W_at (t := tl) (d := 0) (m := 2 ^ tl) (by omega) (by omega) (.inl rfl)
    rw [show ((0 : Nat) : Int) * 2 ^ tl + 2 ^ tl = 2 ^ tl by omega, Int.pow_zero, Int.mul_one] at this
    rw [this, ← pow_add']
  have ho : ((d : Int) * 2 ^ tl + n * 2 ^ a / 2 ^ (d + b + 1)) % 2 = n * 2 ^ a / 2 ^ (d + b + 1) % 2 := by
    rw [pt2, ← Int.mul_assoc]
    generalize (d : Int) * 2 ^ (tl - 1) = z
    omega
  have lea1 : 1 - ((2 : Int) ^ (sc - 1) - 1) = lea sc tl + tl := by
    unfold lea
    omega
  -- multiples of what more stands for
  have stepM : more = true → ∀ X : Int, n * 2 ^ a < X * 2 ^ (d + b) → n * 2 ^ a + 2 ^ a ≤ X * 2 ^ (d + b) := fun z X hX => by
    obtain ⟨f, hf⟩ := moreD z
    rw [hf, ← Int.mul_assoc] at hX ⊢
    have h1 : n < X * 2 ^ f := Int.lt_of_mul_lt_mul_right hX (by omega)
    have h2 : (n + 1) * 2 ^ a ≤ X * 2 ^ f * 2 ^ a := Int.mul_le_mul_of_nonneg_right (by omega) (by omega)
    rw [Int.add_mul, Int.one_mul] at h2
    exact h2
  have X1 : more = true → n * 2 ^ a < 2 * (2 ^ (d + b) * (n * 2 ^ a / 2 ^ (d + b + 1))) + 2 ^ (d + b) → n * 2 ^ a + 2 ^ a ≤ 2 * (2 ^ (d + b) * (n * 2 ^ a / 2 ^ (d + b + 1))) + 2 ^ (d + b) := fun z => by
    have := stepM z (2 * (n * 2 ^ a / 2 ^ (d + b + 1)) + 1)
    rw [show (2 * (n * 2 ^ a / 2 ^ (d + b + 1)) + 1) * 2 ^ (d + b) = 2 * (2 ^ (d + b) * (n * 2 ^ a / 2 ^ (d + b + 1))) + 2 ^ (d + b) by rw [Int.add_mul, Int.one_mul, Int.mul_assoc, Int.mul_comm (2 ^ (d + b))]] at this
    exact this
  have X2 : more = true → n * 2 ^ a < 2 * (2 ^ (d + b) * (n * 2 ^ a / 2 ^ (d + b + 1))) + 2 * 2 ^ (d + b) → n * 2 ^ a + 2 ^ a ≤ 2 * (2 ^ (d + b) * (n * 2 ^ a / 2 ^ (d + b + 1))) + 2 * 2 ^ (d + b) := fun z => by
    have := stepM z (2 * (n * 2 ^ a / 2 ^ (d + b + 1)) + 2)
    rw [show (2 * (n * 2 ^ a / 2 ^ (d + b + 1)) + 2) * 2 ^ (d + b) = 2 * (2 ^ (d + b) * (n * 2 ^ a / 2 ^ (d + b + 1))) + 2 * 2 ^ (d + b) by rw [Int.add_mul, Int.mul_assoc, Int.mul_comm (2 ^ (d + b))]] at this
    exact this
  rw [show n * 2 ^ a / 2 ^ (d + b + 1) * (2 ^ (d + b) * 2) = 2 * (2 ^ (d + b) * (n * 2 ^ a / 2 ^ (d + b + 1))) by rw [← Int.mul_assoc, Int.mul_comm _ (2 ^ (d + b)), Int.mul_comm]] at v0
  rw [show (n * 2 ^ a / 2 ^ (d + b + 1) + 1) * (2 ^ (d + b) * 2) = 2 * (2 ^ (d + b) * (n * 2 ^ a / 2 ^ (d + b + 1))) + 2 * 2 ^ (d + b) by rw [Int.add_mul, ← Int.mul_assoc, Int.mul_comm _ (2 ^ (d + b)), Int.mul_comm _ 2]; omega] at v1
  have hb2 : n * 2 ^ a / 2 ^ (d + b) % 2 = 0 ∨ n * 2 ^ a / 2 ^ (d + b) % 2 = 1 := by omega
  have hNN : n * 2 ^ a = n * 2 ^ a % 2 ^ (d + b) + 2 * (2 ^ (d + b) * (n * 2 ^ a / 2 ^ (d + b + 1))) + n * 2 ^ a / 2 ^ (d + b) % 2 * 2 ^ (d + b) := by
    have e1 : n * 2 ^ a / 2 ^ (d + b) = 2 * (n * 2 ^ a / 2 ^ (d + b + 1)) + n * 2 ^ a / 2 ^ (d + b) % 2 := by omega
    have e2 : 2 ^ (d + b) * (n * 2 ^ a / 2 ^ (d + b)) = 2 * (2 ^ (d + b) * (n * 2 ^ a / 2 ^ (d + b + 1))) + n * 2 ^ a / 2 ^ (d + b) % 2 * 2 ^ (d + b) := by
      conv => lhs; rw [e1]
      rw [Int.mul_add, ← Int.mul_assoc, Int.mul_comm _ 2, Int.mul_assoc, Int.mul_comm (2 ^ (d + b)) (n * 2 ^ a / 2 ^ (d + b) % 2)]
    omega
  have hund : (n * 2 ^ a < 2 ^ (tl + (b + 1))) ↔ bl n + p ≤ 1 - (2 ^ (sc - 1) - 1) := by
    constructor
    · intro h
      have : (2 : Int) ^ (k + a) < 2 ^ (tl + (b + 1)) := by omega
      have : k + a < tl + (b + 1) := by
        rcases Nat.lt_or_ge (k + a) (tl + (b + 1)) with c | c
        · exact c
        · have := pow_le' c
          omega
      omega
    · intro h
      have : (2 : Int) ^ (k + 1 + a) ≤ 2 ^ (tl + (b + 1)) := pow_le' (by omega)
      omega
  clear eN r0 r1 fN hh stepM moreD hNlt hNge hkd hm1 hm2 hQ hR hk hk1 hk2 pt2 bb hcase
  have wle : ∀ u v : Int, 0 ≤ u → u ≤ v → W tl u * 2 ^ (b + 1) ≤ W tl v * 2 ^ (b + 1) := fun u v h1 h2 => Int.mul_le_mul_of_nonneg_right (W_le h1 h2) (by omega)
  generalize 2 ^ (d + b) * (n * 2 ^ a / 2 ^ (d + b + 1)) = z at *
  generalize n * 2 ^ a / 2 ^ (d + b) % 2 = hb' at *
  generalize n * 2 ^ a % 2 ^ (d + b) = rem at *
  generalize (d : Int) * 2 ^ tl + n * 2 ^ a / 2 ^ (d + b + 1) = lo at *
  generalize (2 : Int) ^ (d + b) = q at *
  generalize (2 : Int) ^ (b + 1) = bq at *
  generalize n * 2 ^ a = N at *
  generalize (2 : Int) ^ a = Mo at *
  have hgt : ∀ u, lo < u → cmpM N Mo (W tl u * bq) more = -1 := fun u hu => by
    have h1 := wle (lo + 1) u (by omega) (by omega)
    rw [v1] at h1
    have h2 : N < 2 * z + 2 * q := by rcases hb2 with c | c <;> rw [c] at hNN <;> omega
    exact cmp_lt (by omega) fun c => by
      have := X2 c h2
      omega
  refine ⟨lo0, fun u u0 u1 => cmp_ge ?_, hgt, ?_, ?_, ?_, by rw [eq]; exact ho, ?_⟩
  · have h1 := wle u lo u0 u1
    rw [v0] at h1
    rcases hb2 with c | c <;> rw [c] at hNN <;> omega
  · rw [v0, er]
    unfold cmpM
    rcases hb2 with c | c <;> rw [c] at hNN ⊢
    · by_cases c2 : rem = 0
      · rw [if_pos (by omega), c2]
        cases more <;> decide
      · rw [if_neg (by omega), if_pos (by omega), decide_eq_false c2]
        constructor
        · intro h; omega
        · intro h
          revert h
          cases more <;> decide
    · rw [if_neg (by omega), if_pos (by omega)]
      constructor
      · intro h; omega
      · intro h
        split at h <;> omega
  · rw [v0, v1, er]
    rcases hb2 with c | c <;> rw [c] at hNN ⊢
    · have h1 : cmpM (N * 2) (Mo * 2) (2 * z + (2 * z + 2 * q)) more = -1 := cmp_lt (by omega) fun c => by
        have := X1 c (by omega)
        omega
      rw [h1]
      split <;> rfl
    · unfold cmpM
      by_cases c2 : rem = 0
      · rw [if_pos (by omega), c2]
        cases more <;> decide
      · rw [if_neg (by omega), if_pos (by omega), decide_eq_false c2]
        rfl
  · rw [er]
    rcases hb2 with c | c <;> rw [c]
    · split <;> omega
    · split <;> omega
  · rw [vt, ← hund]
    constructor
    · intro h
      rcases Int.lt_or_le N (2 ^ (tl + (b + 1))) with c | c
      · exact c
      · have := cmp_ge (N := N) (Mo := Mo) (more := more) c
        omega
    · intro h
      have h1 : lo < 2 ^ tl := by
        rcases Int.lt_or_le lo (2 ^ tl) with c | c
        · exact c
        · have := wle (2 ^ tl) lo (by omega) c
          rw [vt, v0] at this
          rcases hb2 with c | c <;> rw [c] at hNN <;> omega
      have := hgt _ h1
      rw [vt] at this
      rw [this]
      decide
end GR
namespace GR
open PySem GM
/-! ### what is cut off, and kept as a bit more -/
theorem bl_div {n : Int} {j : Nat} (h : 0 < n / 2 ^ j) : bl (n / 2 ^ j) + j = bl n := by
  have pj := pow_pos' j
  have hm0 := Int.emod_nonneg n (show (2 : Int) ^ j ≠ 0 by omega)
  have hm1 := Int.emod_lt_of_pos n pj
  have dm := Int.emod_add_mul_ediv n (2 ^ j)
  have hpos : 0 < n := by
    have := Int.mul_pos pj h
    omega
  obtain ⟨k, hk, hk1, hk2⟩ := bl_in hpos
  obtain ⟨m, hm, g1, g2⟩ := bl_in h
  have l1 : (2 : Int) ^ (m + j) ≤ n := by
    rw [pow_add' m j]
    have := Int.mul_le_mul_of_nonneg_right g1 (Int.le_of_lt pj)
    rw [Int.mul_comm (n / 2 ^ j)] at this
    omega
  have l2 : n < (2 : Int) ^ (m + 1 + j) := by
    rw [pow_add' (m + 1) j]
    have := Int.mul_le_mul_of_nonneg_right (show n / 2 ^ j + 1 ≤ 2 ^ (m + 1) by omega) (Int.le_of_lt pj)
    rw [Int.add_mul, Int.one_mul, Int.mul_comm (n / 2 ^ j)] at this
    omega
  have e : k = m + j := by
    rcases Nat.lt_trichotomy k (m + j) with c | c | c
    · have := pow_le' (show k + 1 ≤ m + j by omega)
      omega
    · exact c
    · have := pow_le' (show m + 1 + j ≤ k by omega)
      omega
  omega
theorem mod_two {n : Int} {j c : Nat} : n % 2 ^ (c + j) = 0 ↔ (n % 2 ^ j = 0 ∧ n / 2 ^ j % 2 ^ c = 0) := by
  have pj := pow_pos' j
  have pc := pow_pos' c
  have r0 := Int.emod_nonneg n (show (2 : Int) ^ j ≠ 0 by omega)
  have r1 := Int.emod_lt_of_pos n pj
  have R0 := Int.emod_nonneg (n / 2 ^ j) (show (2 : Int) ^ c ≠ 0 by omega)
  have R1 := Int.emod_lt_of_pos (n / 2 ^ j) pc
  have d1 := Int.emod_add_mul_ediv n (2 ^ j)
  have d2 := Int.emod_add_mul_ediv (n / 2 ^ j) (2 ^ c)
  have pcj : (2 : Int) ^ (c + j) = 2 ^ c * 2 ^ j := pow_add' c j
  generalize n % 2 ^ j = r at *
  generalize n / 2 ^ j % 2 ^ c = R at *
  generalize n / 2 ^ j / 2 ^ c = Q at *
  generalize n / 2 ^ j = q at *
  have hlt : 2 ^ j * R + r < 2 ^ (c + j) := by
    have := Int.mul_le_mul_of_nonneg_right (show R + 1 ≤ 2 ^ c by omega) (Int.le_of_lt pj)
    rw [Int.add_mul, Int.one_mul, ← pcj, Int.mul_comm R] at this
    omega
  have hnn : 0 ≤ 2 ^ j * R := Int.mul_nonneg (Int.le_of_lt pj) R0
  have en : n = (2 ^ j * R + r) + Q * 2 ^ (c + j) := by
    rw [← d1, ← d2, pcj, Int.mul_add, ← Int.mul_assoc, Int.mul_comm (2 ^ j) (2 ^ c), Int.mul_comm (2 ^ c * 2 ^ j) Q]
    omega
  rw [en, Int.add_mul_emod_self_right, Int.emod_eq_of_lt (by omega) hlt]
  constructor
  · intro h
    have hz : 2 ^ j * R = 0 := by omega
    exact ⟨by omega, (Int.mul_eq_zero.mp hz).resolve_left (by omega)⟩
  · intro h
    rw [h.2, h.1]
    omega
theorem rnd_cut {sc tl : Nat} {s n p : Int} {w : Str} {more : Bool} (j : Nat) (h0 : 0 < n / 2 ^ j) (hp : p + j < lap sc tl (n / 2 ^ j) (p + j)) :
    rnd sc tl s n p w more = rnd sc tl s (n / 2 ^ j) (p + j) w (!decide (n % 2 ^ j = 0) || more) := by
  have pj := pow_pos' j
  have hb := bl_div h0
  have hb' : bl (n / 2 ^ j) + (p + j) = bl n + p := by omega
  have hl : lap sc tl (n / 2 ^ j) (p + j) = lap sc tl n p := by
    unfold lap
    rw [hb']
  rw [hl] at hp
  have hn : n ≠ 0 := fun z => by
    rw [z, Int.zero_ediv] at h0
    omega
  obtain ⟨c, hc⟩ : ∃ c : Nat, lap sc tl n p - (p + j) - 1 = (c : Int) := ⟨(lap sc tl n p - (p + j) - 1).toNat, by omega⟩
  obtain ⟨q1, r1⟩ := cut_scale (n := n / 2 ^ j) (a := 0) (D := c) (b := lap sc tl n p - (p + j) - 1) (by omega)
  obtain ⟨q2, r2⟩ := cut_scale (n := n) (a := 0) (D := c + j) (b := lap sc tl n p - p - 1) (by omega)
  rw [show (2 : Int) ^ 0 = 1 from rfl, Int.mul_one] at q1 r1 q2 r2
  have eQ : cutQ n (lap sc tl n p - p - 1) = cutQ (n / 2 ^ j) (lap sc tl n p - (p + j) - 1) := by
    rw [q1, q2, pow_add' c j, Int.mul_comm, Int.ediv_ediv_of_nonneg (Int.le_of_lt pj)]
  have eR : (cutR n (lap sc tl n p - p - 1) || more) = (cutR (n / 2 ^ j) (lap sc tl n p - (p + j) - 1) || (!decide (n % 2 ^ j = 0) || more)) := by
    rw [r1, r2, ← Bool.or_assoc]
    congr 1
    rw [Bool.eq_iff_iff, Bool.or_eq_true, Bool.not_eq_true', Bool.not_eq_true', Bool.not_eq_true', decide_eq_false_iff_not, decide_eq_false_iff_not, decide_eq_false_iff_not, mod_two]
    constructor
    · intro h
      by_cases z : n % 2 ^ j = 0
      · exact .inl (fun y => h ⟨z, y⟩)
      · exact .inr z
    · intro h y
      exact h.elim (fun z => z y.2) (fun z => z y.1)
  have ePQ : prQ n (lap sc tl n p - p) = prQ (n / 2 ^ j) (lap sc tl n p - (p + j)) := by
    unfold prQ
    rw [eQ]
  have ePR : prR n (lap sc tl n p - p) more = prR (n / 2 ^ j) (lap sc tl n p - (p + j)) (!decide (n % 2 ^ j = 0) || more) := by
    unfold prR
    rw [eQ, eR]
  unfold rnd siz mny flg
  rw [if_neg hn, if_neg (show ¬ n / 2 ^ j = 0 by omega), hl, hb', ePQ, ePR]
end GR
namespace GR
open PySem GM
/-! ### the same worth told by a lesser power; a word's own worth -/
theorem bl_mul {n : Int} {k : Nat} (h : 0 < n) : bl (n * 2 ^ k) = bl n + k := by
  have pk := pow_pos' k
  have e : n * 2 ^ k / 2 ^ k = n := Int.mul_ediv_cancel _ (by omega)
  have := bl_div (n := n * 2 ^ k) (j := k) (by rw [e]; exact h)
  rw [e] at this
  omega
theorem rnd_scale {sc tl : Nat} {s n p : Int} {w : Str} {m : Bool} (k : Nat) (hn : 0 < n) : rnd sc tl s (n * 2 ^ k) (p - k) w m = rnd sc tl s n p w m := by
  have pk := pow_pos' k
  have hb : bl (n * 2 ^ k) + (p - k) = bl n + p := by
    rw [bl_mul hn]
    omega
  have hl : lap sc tl (n * 2 ^ k) (p - k) = lap sc tl n p := by
    unfold lap
    rw [hb]
  have hz : 0 < n * 2 ^ k := Int.mul_pos hn pk
  obtain ⟨D, hD⟩ : ∃ D : Nat, (D : Int) = (k : Int) + ((p - lap sc tl n p + 1).toNat : Nat) + (lap sc tl n p - p - 1) := ⟨((k : Int) + ((p - lap sc tl n p + 1).toNat : Nat) + (lap sc tl n p - p - 1)).toNat, by omega⟩
  obtain ⟨q1, r1⟩ := cut_scale (n := n) (a := k + (p - lap sc tl n p + 1).toNat) (D := D) (b := lap sc tl n p - p - 1) (by omega)
  obtain ⟨q2, r2⟩ := cut_scale (n := n * 2 ^ k) (a := (p - lap sc tl n p + 1).toNat) (D := D) (b := lap sc tl n p - (p - k) - 1) (by omega)
  have e : n * 2 ^ k * 2 ^ (p - lap sc tl n p + 1).toNat = n * 2 ^ (k + (p - lap sc tl n p + 1).toNat) := by rw [pow_add', Int.mul_assoc]
  rw [e] at q2 r2
  have eQ : cutQ (n * 2 ^ k) (lap sc tl n p - (p - k) - 1) = cutQ n (lap sc tl n p - p - 1) := by rw [q1, q2]
  have eR : cutR (n * 2 ^ k) (lap sc tl n p - (p - k) - 1) = cutR n (lap sc tl n p - p - 1) := by rw [r1, r2]
  have ePQ : prQ (n * 2 ^ k) (lap sc tl n p - (p - k)) = prQ n (lap sc tl n p - p) := by
    unfold prQ
    rw [eQ]
  have ePR : prR (n * 2 ^ k) (lap sc tl n p - (p - k)) m = prR n (lap sc tl n p - p) m := by
    unfold prR
    rw [eQ, eR]
  unfold rnd siz mny flg
  rw [if_neg (show ¬ n * 2 ^ k = 0 by omega), if_neg (show ¬ n = 0 by omega), hl, hb, ePQ, ePR]
theorem rnd_word {sc tl : Nat} {s u : Int} {w : Str} (htl : 1 ≤ tl) (h0 : 0 < u) (h1 : u < (2 ^ sc - 1) * 2 ^ tl) : rnd sc tl s (num tl u) (lea sc tl + (ex tl u : Nat)) w false = (s * 2 ^ (sc + tl) + u, []) := by
  have pt := pow_pos' tl
  have hn : 0 < num tl u := by
    have n := Int.emod_nonneg u (show (2 : Int) ^ tl ≠ 0 by omega)
    have d := Int.emod_add_mul_ediv u (2 ^ tl)
    unfold num
    by_cases c : u / 2 ^ tl = 0
    · rw [if_pos c]
      rw [c, Int.mul_zero, Int.add_zero] at d
      omega
    · rw [if_neg c]
      omega
  have F := floor_facts (sc := sc) (tl := tl) (n := num tl u) (p := lea sc tl + (ex tl u : Nat)) (more := false) htl hn (fun z => nomatch z) (a := ex tl u + 1) (b := 0) (B := lea sc tl - 1) (by omega) (by omega)
  have eN : num tl u * 2 ^ (ex tl u + 1) = W tl u * 2 ^ (0 + 1) := by
    unfold W
    rw [pow_s, ← Int.mul_assoc]
    rfl
  have c0 : cmpM (num tl u * 2 ^ (ex tl u + 1)) (2 ^ (ex tl u + 1)) (W tl u * 2 ^ (0 + 1)) false = 0 := by
    unfold cmpM
    rw [if_pos eN]
    rfl
  have key : (lap sc tl (num tl u) (lea sc tl + (ex tl u : Nat)) - lea sc tl) * 2 ^ tl + prQ (num tl u) (lap sc tl (num tl u) (lea sc tl + (ex tl u : Nat)) - (lea sc tl + (ex tl u : Nat))) = u := by
    have L0 := F.lo0
    rcases Int.lt_trichotomy ((lap sc tl (num tl u) (lea sc tl + (ex tl u : Nat)) - lea sc tl) * 2 ^ tl + prQ (num tl u) (lap sc tl (num tl u) (lea sc tl + (ex tl u : Nat)) - (lea sc tl + (ex tl u : Nat)))) u with c | c | c
    · have := F.gt u c
      rw [c0] at this
      cases this
    · exact c
    · have g := F.le _ L0 (Int.le_refl _)
      have hm := W_mono (t := tl) (Int.le_of_lt h0) c
      have := cmp_lt (N := num tl u * 2 ^ (ex tl u + 1)) (Mo := 2 ^ (ex tl u + 1)) (V := W tl ((lap sc tl (num tl u) (lea sc tl + (ex tl u : Nat)) - lea sc tl) * 2 ^ tl + prQ (num tl u) (lap sc tl (num tl u) (lea sc tl + (ex tl u : Nat)) - (lea sc tl + (ex tl u : Nat)))) * 2 ^ (0 + 1)) (more := false) (by rw [eN]; exact Int.mul_lt_mul_of_pos_right hm (pow_pos' _)) (fun z => nomatch z)
      rw [this] at g
      omega
  have rest := F.just.mp (by rw [key]; exact c0)
  have hg : ∀ x, gup w s x 0 = false := fun x => by
    unfold gup
    split
    · rfl
    · rfl
  have hs : siz sc tl s (num tl u) (lea sc tl + (ex tl u : Nat)) w false = u := by
    unfold siz mny
    rw [rest, hg, if_neg Bool.false_ne_true]
    exact key
  have e1 : wrd sc tl 0 (2 ^ sc - 1 - 1) (2 ^ tl - 1) = (2 ^ sc - 1) * 2 ^ tl - 1 := by
    unfold wrd
    rw [Int.sub_mul (2 ^ sc - 1) 1, Int.one_mul]
    omega
  unfold rnd
  rw [if_neg (show ¬ num tl u = 0 by omega), hs, if_neg (by rw [e1]; omega), rest]
  unfold flg wrd
  rw [if_pos rfl, Int.zero_mul, Int.add_zero, Int.add_zero]
end GR
namespace GZ
open PySem PySem.Spec PyProof.Rows L2
end GZ
namespace PySem
namespace WhX
open PySem.W PySem.Calls PyProof.Rows PySem.HandSPX
/-! ### an own error over any base, whose __init__ keeps its one argument as what -/
def whA (p1 p2 : Pos) : Arguments := { posonlyargs := [], args := [{ arg := "self", annotation := none, pos := p1 }, { arg := "what", annotation := none, pos := p2 }], vararg := none, kwonlyargs := [], kw_defaults := [], kwarg := none, defaults := [] }
def whB (q1 q2 q3 q4 : Pos) : List Stmt := [.Assign [.Attribute (.Name "self" q1) "what" q2] (.Name "what" q3) q4]
def whS : Scope := { kind := .function, names := [(PySem.Str.ofString "self", .local), (PySem.Str.ofString "what", .local)], isGenerator := false, isCoroutine := false, more := [] }
/-- what the written part says of an error's class, at C -/
structure ErrC (K : Frag) (C : Addr) : Prop where
  ga : findIn K (.ref C) "__getattribute__" = some (some (.builtin "BaseException.__getattribute__"))
  gg : findIn K (.ref C) "__getattr__" = some none
  noN : findIn K (.ref C) "what" = some none
  kC : keepIn K (.ref C) = true
  exC : subIn K (.ref C) (.type "BaseException") = some true
  tyC : typeIn K (.ref C) = some (.type "type")
  hdC : hasDictIn K C = true
  cl : findIn K (.ref C) "__class__" = some (some (.builtin "object.__class__"))
  sp : specialIn K (.builtin "object.__class__") "__get__" = some (some (.builtin "getset_descriptor.__get__"))
  tk : takesIn K (.builtin "object.__class__") = some true
  mr : mroIn K C (.type "object") = some true
/-- and of one that is raised, with its __init__ at fI -/
structure ErrR (K : Frag) (C fI : Addr) : Prop extends ErrC K C where
  cls : ∃ (B newId initId : String) (bm : List Value) (nm q : Str) (N : Addr) (bs : List Value) (sn : List Str) (sub : List Value) (ab : Bool) (col : Option Bool) (dd : Option Addr) (k0 k1 k2 k3 k5 : Option Value),
    ExcBaseFacts B newId initId bm ∧ K.lookup C = some (excClassObj nm q C N bs bm true sn sub ab col dd k0 k1 k2 k3 k5 newId) ∧ bm.contains (.type "object") = true ∧ ∀ self : Value, refuseLoop self "__setattr__" bm = pure ()
  sa : findIn K (.ref C) "__setattr__" = some (some (.builtin "object.__setattr__"))
  iC : findIn K (.ref C) "__init__" = some (some (.ref fI))
  tC : typeIn K (.ref fI) = some (.type "function")
  fn : ∃ (qual : Str) (oc : Value) (od : Option Addr) (doc pm : Value) (an : Option Addr) (cdv ct : Value) (osl : Array (Option Value)) (p1 p2 q1 q2 q3 q4 : Pos),
    K.lookup fI = some ⟨oc, od, .func (fnOf "__init__" qual (whA p1 p2) (whB q1 q2 q3 q4) whS .none .none doc pm an cdv ct), osl⟩ ∧ codeIn K cdv qual = true
section
open Builtin Builtin.ObjectAttr
variable {prog : Program} {w : World} {A : Around} {E : Value → Shared → Prop} {R : Result → Shared → Prop} {hp : Heap} {g : Array GenState} {dr : Drawn} {t : Nat} {os : OsState}
/-- the first field that is stored in a new error -/
theorem osaW {K : Frag} {nam : Str} {tk : Tok} {vv : Value} {x C : Addr} {fv : Array Value} {cd : ClassData} (X : K.In hp) (hx : hp.get? x = some { cls := .ref C, data := .fields fv }) (hcd : clsIn K C = some cd) (hob : cd.mro.contains (.type "object") = true) (hne : cd.mro.isEmpty = false)
    (hps : ∀ self : Value, refuseLoop self "__setattr__" cd.mro = pure ()) (hh : cd.hasDict = true) (ha : findIn K (.ref C) nam = some none)
    (hq : ∀ h' tk' dx, (∀ b o, b ≠ x → hp.get? b = some o → h'.get? b = some o) → hp.objs.size ≤ dx → dx ≠ x → h'.get? x = some { cls := .ref C, dict := some dx, data := .fields fv } → h'.Ns1 dx (fun y => if y = nam then some vv else none) → R (.ok (.ret .none)) ⟨h', g, dr, tk', os⟩) :
    codeAny (model prog w) A (.call (.builtin "object.__setattr__") ⟨[.ref x, .str nam tk, vv], []⟩) R ⟨hp, g, dr, t, os⟩ := by
  have IA : InstAt hp x { cls := .ref C, data := .fields fv } C none := ⟨hx, rfl, rfl, trivial⟩
  have nx : x ≠ hp.objs.size := Nat.ne_of_lt (Heap.lt_size hx)
  have isO : Looks (model prog w) hp (isInstance (.ref x) (.type "object")) true := IA.type.andThen (looks_mroIn X (by unfold mroIn; rw [hcd, Option.bind_some, if_neg (by rw [hne]; decide), hob]))
  have lc : Looks (model prog w) hp (classData C) cd := looks_clsIn X hcd
  refine codeAny_call_builtin F.store_object.slot.plain F.store_object.entry (@check_slot (model prog w) _ _ ⟨hp, g, dr, t, os⟩ "object.__setattr__" "object" "__setattr__" (.ref x) [.str nam tk, vv] [] _ F.store_object.kind F.store_object.split isO (F.store_object.args (.ref x) (.str nam tk) vv) ?_)
  have lm : Looks (model prog w) hp (mroOf (.ref C)) cd.mro := lc.andThen .now
  have ln : Looks (model prog w) hp (storeTaker? none) none := .now
  rw [osa_eq, refuse_eq]
  refine wpAny_bind (wpAny_bind (IA.type.at (wpAny_bind (lm.at ?_))))
  rw [hps]
  refine wpAny_pure (wpAny_bind (IA.type.at (wpAny_bind ((looks_findIn X ha).at (wpAny_bind (ln.at ?_))))))
  show wpAny _ _ (storeInOwnDict (.ref x) (.ref C) (.str nam tk) nam vv false) _ _ _
  obtain ⟨c1, c2, c3, c4, c5, c6, c7, c8, c9, c10, c11⟩ := cd
  dsimp only at hh
  subst hh
  unfold storeInOwnDict ownDictForStores
  repeat (first | with_reducible refine store_in_new ?_ ?_ | with_reducible refine wpAny_loadPart_at hx ?_ | with_reducible refine lc.at ?_ | wp_step)
  · refine ⟨_, #[], _, (Heap.get?_update_ne _ _ _ _ nx.symm).trans (Heap.get?_push_at rfl rfl), rfl, ?_, fun _ => rfl⟩
    exact fun e he => absurd he (by simp)
  · intro h' tk' hn' sb
    have hx1 : (hp.push { cls := .type "dict", data := .dict #[] }).get? x = some { cls := .ref C, data := .fields fv } := Heap.get?_push_of_some _ hx
    refine hq h' tk' hp.objs.size (fun b o nb eb => ?_) (Nat.le_refl _) nx.symm ((sb.2 x nx).trans (Heap.get?_update_self _ hx1 rfl)) hn'
    rw [sb.2 b (Nat.ne_of_lt (Heap.lt_size eb)), Heap.get?_update_ne _ _ _ _ nb]
    exact Heap.get?_push_of_some _ eb
end
section
variable {prog : Program} {w : World} {A : Around} {R : Result → Shared → Prop} {s : Shared} {K : Frag} {C fI : Addr}
theorem wone (v : Value) : [v].length ≤ sizeLine := by
  rw [sizeLine_eq]
  exact Nat.le_of_ble_eq_true rfl
theorem wld {M : Model} {u : Shared} {qn : Str} {sc : Scope} {L f : Addr} {cd : Value} {mm : Str → Option Value} {y : Str} {pos : Pos} {vv : Value} {Q : Value → Shared → Prop} {B : Around} {E : Value → Shared → Prop} (hn : u.heap.Ns L mm) (hv : mm y = some vv) (q : Q vv u) (hk : sc.kind = .function := by rfl)
    (hl : (envOfC qn sc L f cd).kindOf y = some .local := by rfl) (hd : (y == ("__debug__" : Str)) = false := by decide) : wpAny M B (eval (.Name y pos) (envOfC qn sc L f cd)) Q E u :=
  wpAny_Name (wpAny_loadName_local hk hl hn hv q) hd
/-- the class is called: a new error at e, its dict at dx holds what -/
theorem whMade (T : ErrR K C fI) {vv : Value} (X : K.In s.heap) (nl : s.heap.NoLimit) (room : A.depth + 1 < recursionLimit)
    (hq : ∀ (h' : Heap) (tk : Nat) (e dx : Addr), (∀ b o, s.heap.get? b = some o → h'.get? b = some o) → s.heap.objs.size ≤ e → s.heap.objs.size ≤ dx → dx ≠ e →
      (∃ t1 : Addr, h'.get? e = some ({ cls := .ref C, dict := some dx, data := .fields #[.ref t1, .none, .none, .none, .bool false, .none] } : Obj)) → h'.Ns1 dx (fun y => if y = "what" then some vv else none) → R (.ok (.ret (.ref e))) { s with heap := h', toks := tk }) :
    codeAny (model prog w) A (.call (.ref C) ⟨[vv], []⟩) R s := by
  obtain ⟨Bn, newId, initId, bm, nm, q, N, bs, sn, sub, ab, col, dd, k0, k1, k2, k3, k5, FB, hC, hob, hps⟩ := T.cls
  obtain ⟨qual, oc, od, doc, pm, an, cdv, ct, osl, p1, p2, q1, q2, q3, q4, ho, hcd⟩ := T.fn
  have hcl : clsIn K C = some { name := nm, bases := bs, mro := .ref C :: bm, ns := N, qualname := q, hasDict := true, slotNames := sn, subclasses := sub, abstract := ab, collection := col, hasDel := false } := by
    unfold clsIn
    rw [hC] <;> rfl
  obtain ⟨hp, g, dr, tk0, os⟩ := s
  have grow : ∀ b o, hp.get? b = some o → ((hp.push (kdv_tup [vv])).push (excO C hp.objs.size)).get? b = some o := fun b o z => Heap.get?_push_of_some _ (Heap.get?_push_of_some _ z)
  have isE : ((hp.push (kdv_tup [vv])).push (excO C hp.objs.size)).get? (hp.objs.size + 1) = some (excO C hp.objs.size) := by heap_get
  refine call_own FB (fun _ => rfl) (X _ _ hC) (looks_findIn X T.iC) (fun self => bind_fn X self T.tC) (wone vv) ?_
  -- __init__ runs
  refine Att.call_fn (binds := [("self", .ref (hp.objs.size + 1)), ("what", vv)]) (X.keeps grow) (nl.keeps grow) ho hcd room (BindsTo.of_eq (by first | rfl | with_unfolding_all rfl)) (by first | rfl | decide | with_unfolding_all rfl) (fun s1 IC => ?_) rfl rfl rfl
  obtain ⟨h1, tk1, rfl⟩ := IC.toInCall.same
  have up1 : ∀ b o, ((hp.push (kdv_tup [vv])).push (excO C hp.objs.size)).get? b = some o → h1.get? b = some o := IC.toInCall.keep
  have ns1 := IC.toInCall.ns
  have X1 : K.In h1 := (X.keeps grow).keeps up1
  have isE1 := up1 _ _ isE
  have big : hp.objs.size + 1 + 1 ≤ h1.objs.size := by
    have z : ((hp.push (kdv_tup [vv])).push (excO C hp.objs.size)).objs.size < h1.objs.size := ns1.lt
    rw [Heap.size_push, Heap.size_push] at z
    exact Nat.le_of_lt z
  show wpAny _ _ (execs _ _) _ _ _
  refine wpAny_execs_cons (plainObj_wpAny_Assign_Attribute ?_)
  refine wld (vv := vv) ns1 (by first | rfl | with_unfolding_all rfl | kernel_rfl) ?_
  refine wld (vv := .ref (hp.objs.size + 1)) ns1 (by first | rfl | with_unfolding_all rfl | kernel_rfl) ?_
  refine set_plain X1 (ox := excO C hp.objs.size) (od := none) ⟨isE1, rfl, rfl, trivial⟩ T.sa ?_
  refine osaW X1 isE1 hcl (by rw [List.contains_cons, hob, Bool.or_true]) rfl (fun self => by rw [refuseLoop_ref]; exact hps self) rfl T.noN fun h3 tk3 dx up3 dbig dne isE3 ns3 => ?_
  show wpAny _ _ (execs _ _) _ _ _
  refine wpAny_execs_nil ⟨rfl, ?_⟩
  refine hq h3 tk3 (hp.objs.size + 1) dx (fun b o z => ?_) (Nat.le_succ _) ?_ dne ⟨_, isE3⟩ ns3
  · exact up3 b o (Nat.ne_of_lt (Nat.lt_succ_of_lt (Heap.lt_size z))) (up1 b o (grow b o z))
  have z : h1.objs.size ≤ dx := dbig
  show hp.objs.size ≤ dx
  omega
end
end WhX
end PySem
namespace L2
open PySem PySem.Spec PyProof.Rows
/-- C(e), C an error's class -/
def tMkW (C : Addr) (ta : TA) : St → Hp → XK → Prop := fun σ H Q => ta σ H fun vs H1 => ∃ v, vs = [v] ∧ ∀ d, H1 d = none → Q (.ref C) (some d) (upd H1 d (.xd [(("what" : Str), v)]))
theorem relW {v : V} {u : Value} (r : RelV v u) (f : Str) : RelO (List.lookup f [(("what" : Str), v)]) (if f = "what" then some u else none) := by
  by_cases c : f = "what"
  · subst c
    rw [if_pos rfl, show List.lookup ("what" : Str) [(("what" : Str), v)] = some v by simp [List.lookup]]
    exact r
  · have c2 : (f == ("what" : Str)) = false := by simpa using c
    rw [if_neg c, show List.lookup f [(("what" : Str), v)] = none by simp [List.lookup, c2]]
    trivial
theorem pmk_what {X : Cx} {C fI : Addr} {x : Str} {a : Expr} {ta : TA} {p pos : Pos} {k : Nat} (T : PySem.WhX.ErrR X.K C fI) (hr : Room k X.A) (hk : 0 < k) (gC : X.mg x = some (.ref C)) (hg : Gl X x) (ha : PA X [a] ta) (hdb : (x == ("__debug__" : Str)) = false := by decide)
    (he : starEach (a :: []) X.env = (false, eval a X.env) :: starEach [] X.env := by rfl) (hpl : (backTo pos (starEach [] X.env)).any (·.1) = false := by rfl) : PMk X (.Call (.Name x p) [a] [] pos) (tMkW C ta) := by
  intro pz u0 τ G0 Q I h
  refine wpAny_Call_Name_kw (ld_glob I hg gC ?_ hdb)
  refine PySem.W.callWith_K (h₀ := X.base) I.ok.mod.kin T.kC (thn (ha.run pos pz u0 τ G0 _ I h) fun us s1 hh => ?_) he hpl
  obtain ⟨vs, H1, I1, r1, v, rfl, q1⟩ := hh
  refine ⟨I1.kIn, ?_⟩
  match us, r1 with
  | [vv], .cons rv .nil =>
    show wpAny _ _ (call (.ref C) [vv]) _ _ _
    have nl := I1.nolimit
    obtain ⟨hp, g, dr, tk, os⟩ := s1
    refine wpAny_call (PySem.WhX.whMade T I1.kIn nl (by have := hr.dp; omega) fun h' tk' e dx old ebig dbig dne ise ns => ?_)
    show MkP X pz τ Q (.ref e) ⟨h', g, dr, tk', os⟩
    obtain ⟨t1, ise⟩ := ise
    obtain ⟨G', g1, g2⟩ := restrict h' fun b => decide (b ≠ e)
    have gk : ∀ b, b ≠ e → G'.get? b = h'.get? b := fun b nb => g1 b (decide_eq_true nb)
    have ge : G'.get? e = none := g2 e (decide_eq_false fun z => z rfl)
    have oldG : ∀ b o, hp.get? b = some o → G'.get? b = some o := fun b o z => by
      rw [gk b (Nat.ne_of_lt (Nat.lt_of_lt_of_le (Heap.lt_size z) ebig))]
      exact old b o z
    have okd : ObjOk X.prog X.w (upd H1 dx (.xd [(("what" : Str), v)])) G' dx (.xd [(("what" : Str), v)]) := ⟨_, ns.at (fun o z => (gk dx dne).trans z), fun f => relW rv f⟩
    have J : Inv X pz τ (upd H1 dx (.xd [(("what" : Str), v)])) ⟨G', g, dr, tk', os⟩ := I1.laid (t' := tk') oldG dbig okd
    refine ⟨e, _, _, ⟨G', g, dr, tk', os⟩, _, .ref C, some dx, rfl, J, fun b o z => ?_, ge, ise, ⟨rfl, rfl⟩, rfl, rfl, ?_, rfl, I1.bare, raises_own T.exC T.tyC, q1 dx (I1.hok.fresh dbig)⟩
    · by_cases nb : b = e
      · have z' : G'.get? b = some o := z
        rw [nb, ge] at z'
        cases z'
      · exact (gk b nb).symm.trans z
    · rw [upd_ne (Ne.symm dne)]
      exact I1.hok.fresh ebig
end L2
namespace L2
open PySem PySem.Spec PyProof.Rows
/-! ### an error that was caught and is kept behind the try -/
/-- at a: an error of the class cls, its dict d -/
def Exk (a : Addr) (cls : Value) (d : Option Addr) : HO := .ext fun h => ∃ (oe : Obj) (vs : Array Value), h.get? a = some oe ∧ Zc cls d oe ∧ oe.data = .fields vs
theorem exk_ok {P : Program} {w : World} {H : Hp} {h : Heap} {a : Addr} {cls : Value} {d : Option Addr} {oe : Obj} {vs : Array Value} (e : h.get? a = some oe) (z : Zc cls d oe) (dd : oe.data = .fields vs) : ObjOk P w H h a (Exk a cls d) :=
  ⟨⟨oe, vs, e, z, dd⟩, ⟨oe, e⟩, fun _ _ ⟨o1, v1, e1, r⟩ k => ⟨o1, v1, k o1 e1, r⟩⟩
/-- a thing that was not there when the def began is told of -/
theorem Inv.track {X : Cx} {pz : List (Addr × Obj)} {τ : St} {H : Hp} {u0 : Shared} {a : Addr} {o : HO} (I : Inv X pz τ H u0) (na : H a = none) (n0 : X.s_0.heap.get? a = none) (nL : a ≠ X.env.locals) (nC : ∀ x c, X.env.cells.lookup x = some c → c ≠ a)
    (nP : ∀ p ∈ X.pn ++ pz, p.1 ≠ a) (new : ObjOk X.prog X.w (upd H a o) u0.heap a o) : Inv X pz τ (upd H a o) u0 where
  ok := I.ok
  os := I.os
  bare := I.bare
  base := {
    keep := I.base.keep
    slot := I.base.slot
    free := fun b ob q n hx => by
      rw [upd_ne (fun z => by rw [z, n0] at q; cases q)]
      exact I.base.free b ob q n hx
    there := I.base.there
    tups := fun b xs q => by
      have q2 := I.base.tups b xs q
      rw [upd_ne (ne_of_none q2 na)]
      exact q2
    frzs := fun b ob v q => by
      have q2 := I.base.frzs b ob v q
      rw [upd_ne (ne_of_none q2 na)]
      exact q2
    tbls := fun b ps q => by
      obtain ⟨more, q2⟩ := I.base.tbls b ps q
      exact ⟨more, by rw [upd_ne (ne_of_none q2 na)]; exact q2⟩ }
  loc := I.loc
  cell := I.cell
  free := by
    rw [upd_ne nL.symm]
    exact I.free
  freeC := fun x c e => by
    rw [upd_ne (nC x c e)]
    exact I.freeC x c e
  pin := fun p hp => by
    obtain ⟨z1, z2, z3⟩ := I.pin p hp
    refine ⟨z1, ?_, z3⟩
    rw [upd_ne (nP p hp)]
    exact z2
  hok := fun b ob e => by
    by_cases nb : b = a
    · subst nb
      rw [upd_same] at e
      cases e
      exact new
    · rw [upd_ne nb] at e
      exact (I.hok b ob e).stay (fun _ _ _ z => z) (fun c z => by rw [upd_ne (ne_of_none z na)]; exact z) (fun c xs z => by rw [upd_ne (ne_of_none z na)]; exact z)
  len := I.len
/-- what is wished of an error of the body: it is caught; the suite runs; the error is told of behind it -/
def wKp (K : PySem.W.Frag) (c : Value) (i : Nat) (ts : Addr → Value → Option Addr → TS) (D : Ends) : WX := fun cls d τ H => PySem.W.exmOne K cls c = some true ∧
  ∀ a, H a = none → ts a cls d { nx := fun τ' H' => D.nx (τ'.set i none) (upd H' a (Exk a cls d)), rt := fun _ _ => False, bk := fun _ _ => False, ct := fun _ _ => False } (τ.set i (some (.ref a))) H
theorem ps_try_keep {X : Cx} {x n : Str} {c : Value} {i : Nat} {body suite : List Stmt} {b0 : Stmt} {np pos pos' : Pos} {tb : WX → TS} {ts : Addr → Value → Option Addr → TS} (hs : X.stack = X.env :: X.outer) (hf : X.env.frame = some X.env.locals) (hex : X.ex = []) (hN : X.N.Nodup) (hi : X.N[i]? = some n)
    (hln : X.env.kindOf n = some .local) (hc : Names X x c)
    (hb : ∀ (W : WX) (pn : List (Addr × Obj)) (xe : Value → Shared → Prop), Takes (X.tr pn xe) W → PassesOwn (model X.prog X.w) X.A X.env xe → PSs (X.tr pn xe) body (tb W))
    (hsu : ∀ (a : Addr) (oe : Obj) (cls : Value) (d : Option Addr) (pn : List (Addr × Obj)), Zc cls d oe → (∃ vs, oe.data = .fields vs) → PSs (X.suite a ((a, oe) :: pn)) (b0 :: suite) (ts a cls d)) :
    PS X (.Try body [.ExceptHandler (some (.Name x np)) (some n) (b0 :: suite) pos'] [] [] pos) (fun D τ H => tb (wKp X.K c i ts D) D τ H) := by
  constructor
  intro pz u0 τ H D I h
  have ok := I.ok
  have frA : X.A.frames = some (X.env :: X.outer) := ok.frames.trans (congrArg some hs)
  refine wpAny_Try_except (wpAny_mono ((hb (wKp X.K c i ts D) (X.pn ++ pz) _ (fun u s1 xx => ?caught) PassesOwn.looking).run [] u0 τ H D (I.toTry _) h) (fun f s1 z => ?fine) (fun _ _ z => z))
  case fine =>
    cases f with
    | next =>
      obtain ⟨τ1, H1, J1, q1⟩ := z
      exact wpAny_execs_nil ⟨τ1, H1, J1.ofTry ok, q1⟩
    | brk =>
      obtain ⟨τ1, H1, J1, q1⟩ := z
      exact ⟨τ1, H1, J1.ofTry ok, q1⟩
    | cont =>
      obtain ⟨τ1, H1, J1, q1⟩ := z
      exact ⟨τ1, H1, J1.ofTry ok, q1⟩
    | ret v1 =>
      obtain ⟨v, τ1, H1, J1, r1, q1⟩ := z
      exact ⟨v, τ1, H1, J1.ofTry ok, r1, q1⟩
  case caught =>
    obtain ⟨a, Bh, sI, pI, τ1, H1, cls, d, rfl, J0, nb, up, sky, na, eos, bare, mt, goes⟩ := xx
    have J : Inv X pz τ1 H1 sI := J0.ofTry ok
    rw [show (X.tr (X.pn ++ pz) _).stack = X.env :: X.outer from hs] at sky
    show wpAny (model X.prog X.w) X.A (noteFrame (.ref a) X.env) _ _ _
    refine Sky.land Zc.steady frA hf sky fun h3 fl3 up3 => ?_
    have J3 : Inv X pz τ1 H1 { s1 with heap := h3 } := J.landed nb fl3.1 (up.trans up3) eos bare
    obtain ⟨oe3, vs3, at3, z3, dt3⟩ := fl3.there
    have noFr : a ∉ frs (X.env :: X.outer) := fun hm => by
      obtain ⟨_, o1, e1, n1⟩ := fl3.2.2.1.mem hm
      rw [at3] at e1
      cases e1
      exact n1 _ dt3
    have nL : a ≠ X.env.locals := fun z => noFr (List.mem_filterMap.mpr ⟨X.env, List.mem_cons_self, by rw [hf, z]⟩)
    have nF : a ∉ X.fs := fun hm => by
      obtain ⟨e1, m1, q1⟩ := List.mem_filterMap.mp hm
      exact noFr (List.mem_filterMap.mpr ⟨e1, List.mem_cons_of_mem _ m1, q1⟩)
    -- it was not there before
    have newA : sI.heap.get? a = none := by
      cases q : sI.heap.get? a with
      | none => rfl
      | some o1 =>
        have z := nb a o1 q (by rw [show frs (X.tr (X.pn ++ pz) _).stack = frs (X.env :: X.outer) from congrArg frs hs]; exact noFr)
        rw [fl3.2.1] at z
        cases z
    have new0 : X.s_0.heap.get? a = none := by
      cases q : X.s_0.heap.get? a with
      | none => rfl
      | some o1 =>
        obtain ⟨o2, z⟩ := J.base.there a o1 q (by rw [hex]; exact fun z => nomatch z)
        rw [newA] at z
        cases z
    have S3 := J3.suite at3 dt3 na nL nF
    refine wpAny_handleBy_cons (codeAny_handlers_test ?_) (by intro q; cases q)
    have isC : PySem.W.Looks (model X.prog X.w) h3 (typeOf (.ref a)) cls := fun A1 Q1 E1 s2 k2 q2 => wpAny_typeOf_ref (k2 _ _ at3) (by rw [z3.1]; exact q2)
    have meets := PySem.W.exm_one (M := model X.prog X.w) J3.kIn isC mt
    have named : ∀ {Q1 : Value → Shared → Prop} {E1 : Value → Shared → Prop}, Q1 c { s1 with heap := h3 } → wpAny (model X.prog X.w) (X.A.mark (some (.ref a))) (eval (.Name x np) X.env) Q1 E1 { s1 with heap := h3 } := fun {Q1 E1} q1 => by
      obtain ⟨g1, g2, g3 | ⟨g3, g4, g5⟩⟩ := hc
      · exact ld_glob (X := X.suite a ((a, oe3) :: (X.pn ++ pz))) S3 g1 g3 q1 g2
      · exact ld_blt (X := X.suite a ((a, oe3) :: (X.pn ++ pz))) S3 g1 g3 g4 q1 g5 g2
    refine named (meets.here (codeAny_handlers_suite_as (HandSPX.lands_againZ fl3 fun h4 fl4 up4 => ?_)))
    have J4 : Inv X pz τ1 H1 { s1 with heap := h4 } := J.landed nb fl4.1 ((up.trans up3).trans up4) eos bare
    obtain ⟨oe4, vs4, at4, z4, dt4⟩ := fl4.there
    refine store_ok (X := X.suite a ((a, oe4) :: (X.pn ++ pz))) (v := .ref a) (J4.suite at4 dt4 na nL nF) hN hi (.inl hln) rfl (fun s5 S5 => ?_) (.inr hln)
    refine wpAny_mono ((hsu a oe4 cls d (X.pn ++ pz) z4 ⟨_, dt4⟩).run [] s5 _ H1 _ S5 (goes a na)) (fun f s6 z => ?_) (fun _ _ z => z.elim)
    cases f with
    | brk => exact (z.choose_spec.choose_spec.2).elim
    | cont => exact (z.choose_spec.choose_spec.2).elim
    | ret v1 => exact (z.choose_spec.choose_spec.choose_spec.2.2).elim
    | next =>
      obtain ⟨τ6, H6, S6, q6⟩ := z
      obtain ⟨at6, na6, _⟩ := S6.pin (a, oe4) (List.mem_append_left _ List.mem_cons_self)
      have J6 : Inv X pz τ6 H6 s6 := S6.unsuite ok
      have K6 : Inv X pz τ6 (upd H6 a (Exk a cls d)) s6 := by
        refine J6.track na6 new0 nL (fun y cc e => ?_) (fun p hp => ?_) (exk_ok at6 z4 dt4)
        · obtain ⟨v, oc, hoc, _⟩ := J.cell y cc e
          exact fun z => by rw [z, newA] at hoc; cases hoc
        · obtain ⟨z1, _⟩ := J.pin p hp
          exact fun z => by rw [z, newA] at z1; cases z1
      exact gone_ok K6 hN hi hln fun s7 J7 => ⟨_, _, J7, q6⟩
end L2
namespace L2
open PySem PySem.Spec PyProof.Rows
/-- at a: a caught error of the class at C that holds what = v -/
def EkAt (H : Hp) (a C : Addr) (v : V) : Prop := ∃ dd, H a = some (Exk a (.ref C) (some dd)) ∧ H dd = some (.xd [(("what" : Str), v)])
theorem ek_inst {X : Cx} {pz : List (Addr × Obj)} {τ : St} {H : Hp} {u0 : Shared} {a C : Addr} {v : V} (I : Inv X pz τ H u0) (e : EkAt H a C v) :
    ∃ (oe od : Obj) (u : Value), PySem.W.InstAt u0.heap a oe C (some od) ∧ RelV v u ∧ PySem.W.lookIn "what" od = some (some u) := by
  obtain ⟨dd, ea, ed⟩ := e
  obtain ⟨⟨oe, vs, hget, hz, hdat⟩, _⟩ := I.hok a _ ea
  obtain ⟨mA, hns, hr⟩ := (show ObjOk X.prog X.w H u0.heap dd (.xd [(("what" : Str), v)]) from I.hok dd _ ed)
  obtain ⟨od, ho, hl⟩ := lookIn_ns hns
  obtain ⟨u, hu, ru⟩ := RelO.some_of (v := v) (o := mA "what") (by rw [← show List.lookup ("what" : Str) [(("what" : Str), v)] = some v by simp [List.lookup]]; exact hr "what")
  refine ⟨oe, od, u, ⟨hget, hz.1, by unfold PySem.W.notCls; rw [hdat] <;> rfl, by rw [hz.2]; exact ho⟩, ru, by rw [hl, hu]⟩
/-- e.what of a caught error -/
def tWhat (K : PySem.W.Frag) (te : TE) : TE := fun σ H Q => te σ H fun x H1 => ∃ (a C : Addr) (v : V), x = .ref a ∧ PySem.WhX.ErrC K C ∧ EkAt H1 a C v ∧ Q v H1
theorem pe_what {X : Cx} {e : Expr} {te : TE} {pos : Pos} (he : PE X e te) (hb : attributeBase e "what" X.env (eval e X.env) = eval e X.env := by rfl) : PE X (.Attribute e "what" pos) (tWhat X.K te) := by
  constructor
  intro pz u0 τ H Q I h
  refine attr_of hb (thn (he.run pz u0 τ H _ I h) fun u s1 hh => ?_)
  obtain ⟨x, H1, I1, rx, a, C, v, rfl, T, ek, q⟩ := hh
  obtain rfl : u = Value.ref a := rx
  obtain ⟨oe, od, u1, J, ru, hl⟩ := ek_inst I1 ek
  exact HandSPX.exc_get I1.kIn J T.ga T.gg T.exC (PySem.W.findObj_own T.hdC T.noN rfl hl) (handed_of ru) ⟨v, H1, I1.tok _, ru, q⟩
/-- isinstance of a caught error: one class; a tuple of classes -/
def rIsW (K : PySem.W.Frag) : List V → Hp → VK → Prop := fun xs H Q => ∃ (a C : Addr) (v c : V) (u : Value) (b : Bool), xs = [.ref a, c] ∧ PySem.WhX.ErrC K C ∧ EkAt H a C v ∧ ClsV c u ∧ PySem.W.kitOne K (.ref C) u = some b ∧ Q (.bl b) H
def rIsWT (K : PySem.W.Frag) : List V → Hp → VK → Prop := fun xs H Q => ∃ (a C tp : Addr) (v : V) (cs : List V) (us : List Value) (b : Bool), xs = [.ref a, .ref tp] ∧ PySem.WhX.ErrC K C ∧ EkAt H a C v ∧ H tp = some (.tup cs) ∧ Paired ClsV cs us ∧ PySem.W.kitAny K (.ref C) us = some b ∧ Q (.bl b) H
theorem has_cls {K : PySem.W.Frag} {C : Addr} (h : PySem.W.hasDictIn K C = true) : (PySem.W.clsIn K C).isSome = true := by
  obtain ⟨cd, hc, _⟩ := PySem.W.any_some h
  rw [hc]
  rfl
section
variable {X : Cx}
theorem call_isW : CallR X (.builtin "isinstance") (rIsW X.K) := by
  intro pz u0 τ H xs us Q I r h
  obtain ⟨a, C, v, c, u, b, rfl, T, ek, k, e, q⟩ := h
  obtain ⟨u1, u2, rfl, r1, r2⟩ := vals2 r
  cases (show u1 = Value.ref a from r1)
  have e2 := k.eq r2
  subst e2
  obtain ⟨oe, od, _, J, _⟩ := ek_inst I ek
  exact PySem.W.kia_one (PySem.W.kitx_exc (has_cls T.hdC) T.ga T.gg T.exC T.cl T.sp T.tk T.mr) I.kIn J e (fun z => nomatch z) fun tk => ⟨.bl b, H, I.tok tk, rfl, q⟩
theorem call_isWT : CallR X (.builtin "isinstance") (rIsWT X.K) := by
  intro pz u0 τ H xs us Q I r h
  obtain ⟨a, C, tp, v, cs, ws, b, rfl, T, ek, hT, k, e, q⟩ := h
  obtain ⟨u1, u2, rfl, r1, r2⟩ := vals2 r
  cases (show u1 = Value.ref a from r1)
  cases (show u2 = Value.ref tp from r2)
  obtain ⟨oe, od, _, J, _⟩ := ek_inst I ek
  obtain ⟨_, its, rv, o, h1, h2, n, h3⟩ := (show ObjOk X.prog X.w H u0.heap tp (.tup cs) from I.hok tp _ hT)
  have e3 := ClsV.all k rv
  subst e3
  obtain ⟨oc, od1, dt, sl⟩ := o
  simp only at h2 h3
  subst h2 h3
  exact PySem.W.kia_tup (PySem.W.kitx_exc (has_cls T.hdC) T.ga T.gg T.exC T.cl T.sp T.tk T.mr) I.kIn J h1 e (fun z => nomatch z) fun tk => ⟨.bl b, H, I.tok tk, rfl, q⟩
end
end L2
namespace L2
open PySem PySem.Spec PyProof.Rows
/-! ### a call with keywords whose errors go to a try; promises side by side -/
def tCallNS (n m : Nat) (sp : Sp) (gV : List V → List V → List V) (E : St → XK) (t tk : TA) : TE := fun σ H Q => t σ H fun vs H1 => tk σ H1 fun zs H2 => vs.length = n ∧ zs.length = m ∧ sp (gV vs zs) H2 Q (E σ)
section
variable {X : Cx} {CX : CXT} {k n : Nat} {f : Addr} {fd : FuncData} {ps ks : List Str} {sp : Sp} {E : St → XK} {x : Str} {p pos : Pos} {e : Expr} {es : List Expr} {kws : List Keyword} {t tk : TA} {g : List Value → List Value → List Value} {gV : List V → List V → List V}
theorem pe_callNS (F : FnOk X.prog X.w X.K X.mg X.base CX k f fd ps sp) (hr : Room k X.A) (hg : Gl X x) (hm : X.mg x = some (.ref f)) (hk : PySem.W.keepIn X.K (.ref f) = true) (hb : KBn X.K fd ps n ks g gV) (hx : ∀ σ, PassesAt CX X σ (E σ)) (ha : PA X (e :: es) t) (hkw : PK X kws tk)
    (hall : (backToKw pos (keywordEach kws X.env)).all (·.1.isSome) = true := by rfl) (hks : (backToKw pos (keywordEach kws X.env)).filterMap (·.1) = ks := by rfl) (hdb : (x == ("__debug__" : Str)) = false := by decide)
    (he : starEach (e :: es) X.env = (false, eval e X.env) :: starEach es X.env := by rfl) (hpl : ((backTo pos (starEach (e :: es) X.env)).any (·.1) || (backToKw pos (keywordEach kws X.env)).any (·.1.isNone)) = false := by rfl) :
    PE X (.Call (.Name x p) (e :: es) kws pos) (tCallNS n ks.length sp gV E t tk) := by
  constructor
  intro pz u0 τ H Q I h
  refine wpAny_Call_Name_kw (ld_glob I hg hm (PySem.W.callWith_KW (h₀ := X.base) I.ok.mod.kin hk hall (thn (ha.run pos pz u0 τ H _ I h) fun us s1 z => ?_) hpl he) hdb)
  obtain ⟨vs, H1, I1, r1, q1⟩ := z
  refine thn (hkw.run pos pz s1 τ H1 _ I1 q1) fun ws s2 z => ?_
  obtain ⟨zs, H2, I2, r2, l1, l2, q2⟩ := z
  refine ⟨I2.kIn, ?_⟩
  rw [hks]
  refine wpAny_call (codeAny_mono (F.run X.A X.stack s2 H2 ⟨us, ks.zip ws⟩ (g us ws) (gV vs zs) Q (E τ) hr I2.env0 (hb.to s2 us ws I2.kIn (r1.length.symm.trans l1) (r2.length.symm.trans l2)) (hb.rel r1 r2) q2) fun r s3 z => ?_)
  match r with
  | .error er => exact hx τ pz H2 s2 er s3 I2 z
  | .ok (.ret v) => exact I2.after z
  | .ok .next => exact z.elim
  | .ok .brk => exact z.elim
  | .ok .cont => exact z.elim
end
section
variable {P : Program} {w : World} {K : PySem.W.Frag} {mg : Str → Option Value} {base : Heap} {k : Nat} {f : Addr} {fd : FuncData} {ps : List Str} {sp sq : Sp}
theorem fn_lift {CX : CXT} (F : FnOk P w K mg base CX0 k f fd ps sp) : FnOk P w K mg base CX k f fd ps sp := ⟨F.len, fun A outer s H args us vs Q E hr e0 hb hv hs => codeAny_mono (F.run A outer s H args us vs Q E hr e0 hb hv hs) fun r s1 z => by
  match r with
  | .error er => exact False.elim z
  | .ok (.ret v) => exact z
  | .ok .next => exact z
  | .ok .brk => exact z
  | .ok .cont => exact z⟩
theorem fn_or {CX : CXT} (F : FnOk P w K mg base CX k f fd ps sp) (G : FnOk P w K mg base CX k f fd ps sq) : FnOk P w K mg base CX k f fd ps (fun vs H Q E => sp vs H Q E ∨ sq vs H Q E) :=
  ⟨fun vs H Q E h => h.elim (F.len vs H Q E) (G.len vs H Q E), fun A outer s H args us vs Q E hr e0 hb hv hs => hs.elim (F.run A outer s H args us vs Q E hr e0 hb hv) (G.run A outer s H args us vs Q E hr e0 hb hv)⟩
end
end L2
namespace GZ
open PySem PySem.Spec PyProof.Rows L2
theorem kit_self {K : PySem.W.Frag} {C : Addr} : PySem.W.kitOne K (.ref C) (.ref C) = some true := by
  unfold PySem.W.kitOne
  rw [if_pos (beq_self_eq_true _)]
theorem kit_own {K : PySem.W.Frag} {C D : Addr} {b : Bool} (n : (Value.ref C == Value.ref D) = false) (hd : PySem.W.hasDictIn K D = true) (ty : PySem.W.typeIn K (.ref D) = some (.type "type")) (su : PySem.W.subIn K (.ref C) (.ref D) = some b) : PySem.W.kitOne K (.ref C) (.ref D) = some b := by
  unfold PySem.W.kitOne PySem.W.kitCls
  rw [if_neg (by rw [n]; decide)]
  dsimp only
  rw [if_pos (by rw [has_cls hd, ty] <;> rfl)]
  exact su
theorem kit_bt {K : PySem.W.Frag} {C : Addr} {T : String} {b : Bool} (su : PySem.W.subIn K (.ref C) (.type T) = some b) (km : PySem.W.kitMeta T = true := by decide +kernel) : PySem.W.kitOne K (.ref C) (.type T) = some b := by
  unfold PySem.W.kitOne PySem.W.kitCls
  rw [if_neg (show ¬ ((Value.ref C == Value.type T) = true) from Bool.false_ne_true)]
  dsimp only
  rw [if_pos km]
  exact su
end GZ
namespace L2
open PySem PySem.Spec PyProof.Rows
/-! ### except (A, B, ..) as n: the error is kept behind the try -/
theorem fly_keeps {B h h' : Heap} {l : List Env} {a : Addr} {Z : Obj → Prop} (f : HandSPX.FlyingZ B l a Z h) (k : ∀ b o, h.get? b = some o → h'.get? b = some o) : HandSPX.FlyingZ B l a Z h' := by
  obtain ⟨f1, f2, f3, oe, vs, T, oT, ts, he, hz, hd, h1, hn, hT, hT2, hd2, h3⟩ := f
  exact ⟨fun b o e => k _ _ (f1 b o e), f2, f3.of_keeps (fun b o e _ => ⟨o, k _ _ e, rfl⟩), oe, vs, T, oT, ts, k _ _ he, hz, hd, h1, hn, hT, k _ _ hT2, hd2, h3⟩
theorem wp_forIn1 {M : Model} {A : Around} {β : Type} {E : Value → Shared → Prop} {s : Shared} {f : Value → β → Sem (ForInStep β)} {i0 : β} : ∀ (cs : List Value) {Q : β → Shared → Prop}, (∀ c ∈ cs, ∀ Q1 : ForInStep β → Shared → Prop, Q1 (.yield i0) s → wpAny M A (f c i0) Q1 E s) → Q i0 s → wpAny M A (forIn cs i0 f) Q E s
  | [], Q, _, q => by
    rw [List.forIn_nil]
    exact wpAny_pure q
  | c :: cs, Q, h, q => by
    rw [List.forIn_cons]
    refine wpAny_bind (h c List.mem_cons_self _ ?_)
    exact wp_forIn1 cs (fun d hd => h d (List.mem_cons_of_mem _ hd)) q
theorem wp_forIn2 {M : Model} {A : Around} {β : Type} {E : Value → Shared → Prop} {s : Shared} {f : Value → β → Sem (ForInStep β)} {i0 d0 : β} {K : PySem.W.Frag} {cls : Value}
    (h : ∀ c b, PySem.W.exmOne K cls c = some b → ∀ Q1 : ForInStep β → Shared → Prop, Q1 (if b = true then .done d0 else .yield i0) s → wpAny M A (f c i0) Q1 E s) :
    ∀ (cs : List Value) (b : Bool) {Q : β → Shared → Prop}, PySem.W.exmAny K cls cs = some b → Q (if b = true then d0 else i0) s → wpAny M A (forIn cs i0 f) Q E s
  | [], b, Q, e, q => by
    cases e
    rw [List.forIn_nil]
    exact wpAny_pure q
  | c :: cs, b, Q, e, q => by
    obtain ⟨b1, d1, e1, e2, rfl⟩ := PySem.W.exmAny_cons e
    rw [List.forIn_cons]
    refine wpAny_bind (h c b1 e1 _ ?_)
    cases b1 with
    | true => exact wpAny_pure q
    | false =>
      rw [Bool.false_or] at q
      exact wp_forIn2 h cs d1 e2 q
theorem exmAny_mem {K : PySem.W.Frag} {cls : Value} : ∀ {cs : List Value} {b : Bool}, PySem.W.exmAny K cls cs = some b → ∀ c ∈ cs, ∃ d, PySem.W.exmOne K cls c = some d
  | [], _, _, _, h => nomatch h
  | c :: cs, b, e, x, h => by
    obtain ⟨b1, d1, e1, e2, _⟩ := PySem.W.exmAny_cons e
    rcases List.mem_cons.mp h with z | z
    · subst z
      exact ⟨_, e1⟩
    · exact exmAny_mem e2 x z
theorem exm_tupL {M : Model} {K : PySem.W.Frag} {cs : List Value} {cls : Value} {tp e : Addr} {b : Bool} {h : Heap} (X : K.In h) (LT : PySem.W.Looks M h (typeOf (.ref e)) cls) (hp : h.get? tp = some { cls := .type "tuple", data := .seq cs.toArray }) (hx : PySem.W.exmAny K cls cs = some b) :
    PySem.W.Looks M h (excMatches (.ref e) (.ref tp)) b := by
  intro A Q E s k₀ q
  obtain ⟨hh, g, d, tk, os⟩ := s
  have k : ∀ b o, h.get? b = some o → hh.get? b = some o := k₀
  have LT0 : PySem.W.Looks M h (isInstance (.ref tp) (.type "tuple")) true := ((PySem.W.Looks.ld hp).andThen .now).andThen (PySem.W.Looks.of_pure isSubtype_tuple_tuple)
  have LT := LT.keeps k
  have LT0 := LT0.keeps k
  have hp' := k _ _ hp
  unfold excMatches
  refine wpAny_bind (LT0.at ?_)
  dsimp only
  rw [if_pos rfl]
  first
    | refine wpAny_bind (wpAny_seqItems hp' rfl ?_)
    | refine wpAny_bind (wpAny_bind (wpAny_seqItems hp' rfl (wpAny_pure ?_)))
  dsimp only [Option.getD_some, Option.getD]
  refine wpAny_bind (wpAny_pure ?_)
  refine wpAny_bind (wp_forIn1 cs (fun c hc Q1 q1 => ?_) ?_)
  · obtain ⟨v, hv⟩ := exmAny_mem hx c hc
    obtain ⟨e1, _⟩ := PySem.W.exm_cls (M := M) X hv
    refine wpAny_bind ((e1.keeps k).at ?_)
    exact wpAny_pure q1
  refine wpAny_bind (LT.at ?_)
  refine wpAny_bind (wp_forIn2 (K := K) (cls := cls) (d0 := ⟨some true, ⟨⟩⟩) (fun c v hv Q1 q1 => ?_) cs b hx ?_)
  · obtain ⟨_, S1⟩ := PySem.W.exm_cls (M := M) X hv
    refine wpAny_bind ((S1.keeps k).at ?_)
    cases v
    · exact wpAny_pure q1
    · exact wpAny_pure q1
  cases b
  · exact wpAny_pure q
  · exact wpAny_pure q
inductive NamesL (X : Cx) : List Expr → List Value → Prop
  | nil : NamesL X [] []
  | cons {x : Str} {c : Value} {np : Pos} {es : List Expr} {cs : List Value} (h : Names X x c) (r : NamesL X es cs) : NamesL X (.Name x np :: es) (c :: cs)
theorem NamesL.len {X : Cx} {es : List Expr} {cs : List Value} (h : NamesL X es cs) : cs.length = es.length := by
  induction h with
  | nil => rfl
  | cons _ _ ih => rw [List.length_cons, List.length_cons, ih]
/-- what is wished of an error of the body: it is one of these; the suite runs; the error is told of behind it -/
def wKpT (K : PySem.W.Frag) (cs : List Value) (i : Nat) (ts : Addr → Value → Option Addr → TS) (D : Ends) : WX := fun cls d τ H => PySem.W.exmAny K cls cs = some true ∧
  ∀ a, H a = none → ts a cls d { nx := fun τ' H' => D.nx (τ'.set i none) (upd H' a (Exk a cls d)), rt := fun _ _ => False, bk := fun _ _ => False, ct := fun _ _ => False } (τ.set i (some (.ref a))) H
theorem ps_try_keepT {X : Cx} {n : Str} {es : List Expr} {cs : List Value} {kk : Nat} {i : Nat} {body suite : List Stmt} {b0 : Stmt} {tpos pos pos' : Pos} {tb : WX → TS} {ts : Addr → Value → Option Addr → TS} (hs : X.stack = X.env :: X.outer) (hf : X.env.frame = some X.env.locals) (hex : X.ex = []) (hN : X.N.Nodup) (hi : X.N[i]? = some n)
    (hln : X.env.kindOf n = some .local) (hc : NamesL X es cs) (hle : cs.length ≤ 100)
    (hb : ∀ (W : WX) (pn : List (Addr × Obj)) (xe : Value → Shared → Prop), Takes (X.tr pn xe) W → PassesOwn (model X.prog X.w) X.A X.env xe → PSs (X.tr pn xe) body (tb W))
    (hsu : ∀ (a : Addr) (oe : Obj) (cls : Value) (d : Option Addr) (pn : List (Addr × Obj)), Zc cls d oe → (∃ vs, oe.data = .fields vs) → PSs (X.suite a ((a, oe) :: pn)) (b0 :: suite) (ts a cls d)) :
    PS X (.Try body [.ExceptHandler (some (.Tuple es kk tpos)) (some n) (b0 :: suite) pos'] [] [] pos) (fun D τ H => tb (wKpT X.K cs i ts D) D τ H) := by
  constructor
  intro pz u0 τ H D I h
  have ok := I.ok
  have frA : X.A.frames = some (X.env :: X.outer) := ok.frames.trans (congrArg some hs)
  refine wpAny_Try_except (wpAny_mono ((hb (wKpT X.K cs i ts D) (X.pn ++ pz) _ (fun u s1 xx => ?caught) PassesOwn.looking).run [] u0 τ H D (I.toTry _) h) (fun f s1 z => ?fine) (fun _ _ z => z))
  case fine =>
    cases f with
    | next =>
      obtain ⟨τ1, H1, J1, q1⟩ := z
      exact wpAny_execs_nil ⟨τ1, H1, J1.ofTry ok, q1⟩
    | brk =>
      obtain ⟨τ1, H1, J1, q1⟩ := z
      exact ⟨τ1, H1, J1.ofTry ok, q1⟩
    | cont =>
      obtain ⟨τ1, H1, J1, q1⟩ := z
      exact ⟨τ1, H1, J1.ofTry ok, q1⟩
    | ret v1 =>
      obtain ⟨v, τ1, H1, J1, r1, q1⟩ := z
      exact ⟨v, τ1, H1, J1.ofTry ok, r1, q1⟩
  case caught =>
    obtain ⟨a, Bh, sI, pI, τ1, H1, cls, d, rfl, J0, nb, up, sky, na, eos, bare, mt, goes⟩ := xx
    have J : Inv X pz τ1 H1 sI := J0.ofTry ok
    rw [show (X.tr (X.pn ++ pz) _).stack = X.env :: X.outer from hs] at sky
    show wpAny (model X.prog X.w) X.A (noteFrame (.ref a) X.env) _ _ _
    refine Sky.land Zc.steady frA hf sky fun h3 fl3 up3 => ?_
    have J3 : Inv X pz τ1 H1 { s1 with heap := h3 } := J.landed nb fl3.1 (up.trans up3) eos bare
    obtain ⟨oe3, vs3, at3, z3, dt3⟩ := fl3.there
    have noFr : a ∉ frs (X.env :: X.outer) := fun hm => by
      obtain ⟨_, o1, e1, n1⟩ := fl3.2.2.1.mem hm
      rw [at3] at e1
      cases e1
      exact n1 _ dt3
    have nL : a ≠ X.env.locals := fun z => noFr (List.mem_filterMap.mpr ⟨X.env, List.mem_cons_self, by rw [hf, z]⟩)
    have nF : a ∉ X.fs := fun hm => by
      obtain ⟨e1, m1, q1⟩ := List.mem_filterMap.mp hm
      exact noFr (List.mem_filterMap.mpr ⟨e1, List.mem_cons_of_mem _ m1, q1⟩)
    -- it was not there before
    have newA : sI.heap.get? a = none := by
      cases q : sI.heap.get? a with
      | none => rfl
      | some o1 =>
        have z := nb a o1 q (by rw [show frs (X.tr (X.pn ++ pz) _).stack = frs (X.env :: X.outer) from congrArg frs hs]; exact noFr)
        rw [fl3.2.1] at z
        cases z
    have new0 : X.s_0.heap.get? a = none := by
      cases q : X.s_0.heap.get? a with
      | none => rfl
      | some o1 =>
        obtain ⟨o2, z⟩ := J.base.there a o1 q (by rw [hex]; exact fun z => nomatch z)
        rw [newA] at z
        cases z
    have S3 := J3.suite at3 dt3 na nL nF
    refine wpAny_handleBy_cons (codeAny_handlers_test ?_) (by intro q; cases q)
    have kp : ∀ q o, h3.get? q = some o → (h3.push { cls := .type "tuple", data := .seq cs.toArray }).get? q = some o := fun _ _ z => Heap.get?_push_of_some _ z
    have isC : PySem.W.Looks (model X.prog X.w) h3 (typeOf (.ref a)) cls := fun A1 Q1 E1 s2 k2 q2 => wpAny_typeOf_ref (k2 _ _ at3) (by rw [z3.1]; exact q2)
    have meets := exm_tupL (M := model X.prog X.w) (J3.kIn.keeps kp) (isC.keeps kp) (Heap.get?_push_size h3 rfl) mt
    have named : ∀ {x : Str} {c : Value} {np : Pos}, Names X x c → ∀ {Q1 : Value → Shared → Prop} {E1 : Value → Shared → Prop}, Q1 c { s1 with heap := h3 } → wpAny (model X.prog X.w) (X.A.mark (some (.ref a))) (eval (.Name x np) X.env) Q1 E1 { s1 with heap := h3 } := fun {x c np} hc {Q1 E1} q1 => by
      obtain ⟨g1, g2, g3 | ⟨g3, g4, g5⟩⟩ := hc
      · exact ld_glob (X := X.suite a ((a, oe3) :: (X.pn ++ pz))) S3 g1 g3 q1 g2
      · exact ld_blt (X := X.suite a ((a, oe3) :: (X.pn ++ pz))) S3 g1 g3 g4 q1 g5 g2
    have items : ∀ {es : List Expr} {cs : List Value}, NamesL X es cs → ∀ {Q1 : List Value → Shared → Prop} {E1 : Value → Shared → Prop}, Q1 cs { s1 with heap := h3 } → wpAny (model X.prog X.w) (X.A.mark (some (.ref a))) (spliced (backTo tpos (starEach es X.env))) Q1 E1 { s1 with heap := h3 } := fun {es cs} hc => by
      induction hc with
      | nil =>
        intro Q1 E1 q1
        exact wpAny_items_nil q1
      | cons hx _ ih =>
        intro Q1 E1 q1
        exact wpAny_items_cons (named hx (ih q1)) (by rfl)
    refine wpAny_Tuple (items hc ⟨?_, ?_⟩)
    · rw [sizeLine_eq]
      omega
    refine meets.here (codeAny_handlers_suite_as (HandSPX.lands_againZ (fly_keeps fl3 kp) fun h4 fl4 up4 => ?_))
    have J4 : Inv X pz τ1 H1 { s1 with heap := h4 } := J.landed nb fl4.1 ((up.trans up3).trans ((Heap.UpToSlots.of_keeps kp).trans up4)) eos bare
    obtain ⟨oe4, vs4, at4, z4, dt4⟩ := fl4.there
    refine store_ok (X := X.suite a ((a, oe4) :: (X.pn ++ pz))) (v := .ref a) (J4.suite at4 dt4 na nL nF) hN hi (.inl hln) rfl (fun s5 S5 => ?_) (.inr hln)
    refine wpAny_mono ((hsu a oe4 cls d (X.pn ++ pz) z4 ⟨_, dt4⟩).run [] s5 _ H1 _ S5 (goes a na)) (fun f s6 z => ?_) (fun _ _ z => z.elim)
    cases f with
    | brk => exact (z.choose_spec.choose_spec.2).elim
    | cont => exact (z.choose_spec.choose_spec.2).elim
    | ret v1 => exact (z.choose_spec.choose_spec.choose_spec.2.2).elim
    | next =>
      obtain ⟨τ6, H6, S6, q6⟩ := z
      obtain ⟨at6, na6, _⟩ := S6.pin (a, oe4) (List.mem_append_left _ List.mem_cons_self)
      have J6 : Inv X pz τ6 H6 s6 := S6.unsuite ok
      have K6 : Inv X pz τ6 (upd H6 a (Exk a cls d)) s6 := by
        refine J6.track na6 new0 nL (fun y cc e => ?_) (fun p hp => ?_) (exk_ok at6 z4 dt4)
        · obtain ⟨v, oc, hoc, _⟩ := J.cell y cc e
          exact fun z => by rw [z, newA] at hoc; cases hoc
        · obtain ⟨z1, _⟩ := J.pin p hp
          exact fun z => by rw [z, newA] at z1; cases z1
      exact gone_ok K6 hN hi hln fun s7 J7 => ⟨_, _, J7, q6⟩
end L2
namespace L2
open PySem PySem.Spec PyProof.Rows
/-- o.m(), its error goes to a try -/
def tMeth0S (C : Addr) (m : Str) (sp : Sp) (E : St → XK) (ta : TE) : TE := fun σ H Q => ta σ H fun x H1 => ∃ a dx fs, x = .ref a ∧ H1 a = some (.ins C dx fs) ∧ fs.lookup m = none ∧ sp [x] H1 Q (E σ)
theorem pe_meth0S {X : Cx} {CX : CXT} {k : Nat} {f C : Addr} {fd : FuncData} {ps : List Str} {sp : Sp} {E : St → XK} {m : Str} {pos apos : Pos} {o : Expr} {ta : TE} {pl : Sem Bool} (he : PE X o ta) (c : Cls X.K C) (hm : Meth X.K C m f) (F : FnOk X.prog X.w X.K X.mg X.base CX k f fd ps sp) (hr : Room k X.A) (hb : Binds X.K fd ps []) (hx : ∀ σ, PassesAt CX X σ (E σ))
    (ht : eval (.Call (.Attribute o m apos) [] [] pos) X.env = (do
      let ov ← eval o X.env
      standAt apos.atName
      let (f, first) ← holding [ov] (getMethod ov m pl)
      callWith pos f first (backTo pos (starEach [] X.env)) (backToKw pos (keywordEach [] X.env))) := by rfl) :
    PE X (.Call (.Attribute o m apos) [] [] pos) (tMeth0S C m sp E ta) := by
  refine ⟨fun pins s σ H Q I h => ?_⟩
  refine PySem.W.methodCall_KW (pl := pl) (thn (he.run pins s σ H _ I h) fun u s1 ⟨x, H1, I1, rx, a, dx, fs, ex, ea, l, q⟩ => ?_) ht
  subst ex
  obtain rfl : u = Value.ref a := rx
  refine getmeth_ok I1 ea c hm l ?_
  exact PySem.W.callWith_K0 (first := [.ref a]) I1.kIn hm.kp (run_fnS (us := [.ref a]) (vs := [.ref a]) F hr hb (hx σ) I1 (.cons rfl .nil) q)
end L2
namespace GZ
open PySem PySem.Spec PyProof.Rows L2
def pkz {α : Type} : α → List α → Nat → α
  | a, _, 0 => a
  | a, _, 1 => a
  | a, [], _ => a
  | _, b :: xs, n + 2 => pkz b xs (n + 1)
theorem val0 (t : Tok) : Vals [V.int 0] [Value.int 0 t] := .cons ⟨_, rfl⟩ .nil
/-! ### keyword-only parameters -/
theorem kbn_of {K : PySem.W.Frag} {x qual : Str} {st : Stmt} {D : Addr} {an : Option Addr} {doc pm cdv ct : Value} {ps ks : List Str} {n : Nat} {ml : List (Str × Value)} {g : List Value → List Value → List Value} {gV : List V → List V → List V} (hml : ∀ q ∈ ml, PySem.W.nsIn K D q.1 = some (some q.2))
    (h : ∀ us ws : List Value, us.length = n → ws.length = ks.length → KwChain D ml (bindArgs (PySem.W.fnOf x qual (defArgs st) (defBody st) (defScope st) .none (.ref D) doc pm an cdv ct) ⟨us, ks.zip ws⟩) (ps.zip (g us ws)))
    (rel : ∀ {vs : List V} {us : List Value} {zs : List V} {ws : List Value}, vs.length = n → zs.length = ks.length → Vals vs us → Vals zs ws → Vals (gV vs zs) (g us ws)) :
    ∀ (s : Shared) (us ws : List Value), K.In s.heap → us.length = n → ws.length = ks.length → BindsTo s (PySem.W.fnOf x qual (defArgs st) (defBody st) (defScope st) .none (.ref D) doc pm an cdv ct) ⟨us, ks.zip ws⟩ (ps.zip (g us ws)) :=
  fun s us ws X l1 l2 => BindsTo.of_looks fun M => KwChain.looks X hml (h us ws l1 l2)
theorem bnd_of {K : PySem.W.Frag} {x qual : Str} {st : Stmt} {D : Addr} {an : Option Addr} {doc pm cdv ct : Value} {ps : List Str} {ml : List (Str × Value)} {ds : List Value} (hml : ∀ q ∈ ml, PySem.W.nsIn K D q.1 = some (some q.2))
    (h : ∀ us : List Value, us.length + ds.length = ps.length → KwChain D ml (bindArgs (PySem.W.fnOf x qual (defArgs st) (defBody st) (defScope st) .none (.ref D) doc pm an cdv ct) ⟨us, []⟩) (ps.zip (us ++ ds))) :
    Binds K (PySem.W.fnOf x qual (defArgs st) (defBody st) (defScope st) .none (.ref D) doc pm an cdv ct) ps ds := fun s us X hl => by
  rw [List.length_append] at hl
  exact BindsTo.of_looks fun M => KwChain.looks X hml (h us hl)
/-! ### a def whose defaults aren't asked for -/
structure FunA (K : PySem.W.Frag) (x qual : Str) (st : Stmt) (f : Addr) (fd : FuncData) : Prop where
  ex : ∃ (oc : Value) (od : Option Addr) (dV kV doc pm : Value) (an : Option Addr) (cdv ct : Value) (osl : Array (Option Value)),
    fd = PySem.W.fnOf x qual (defArgs st) (defBody st) (defScope st) dV kV doc pm an cdv ct ∧ K.lookup f = some ⟨oc, od, .func fd, osl⟩ ∧ PySem.W.codeIn K cdv qual = true
  kp : PySem.W.keepIn K (.ref f) = true
theorem FunA.ok {P : Program} {w : World} {K : PySem.W.Frag} {mg : Str → Option Value} {base : Heap} {x qual : Str} {st : Stmt} {f : Addr} {fd : FuncData} {N ps : List Str} {k : Nat} {sp : Sp} (F : FunA K x qual st f fd) (S : FnScope N ps (defScope st)) (len : ∀ vs H Q E, sp vs H Q E → vs.length = ps.length)
    (hbody : ∀ (cdv : Value) (A : Around) (outer : List Env) (s : Shared) (H : Hp) (vs : List V) (Q : VK) (E : XK), Room k (A.deeper (envOfC qual (defScope st) s.heap.objs.size f cdv)) → sp vs H Q E →
      ∃ t, PSs (cxOf CX0 P w K mg base N qual (defScope st) f cdv A outer s H E).nox (defBody st) t ∧ t { nx := fun _ H' => Q .non H', rt := Q } (start N vs) H) : FnOk P w K mg base CX0 (k + 1) f fd ps sp := by
  obtain ⟨oc, od, dV, kV, doc, pm, an, cdv, ct, osl, rfl, lk, hcd⟩ := F.ex
  refine fn_of lk hcd S len fun A outer s H vs Q E hr hsp => ?_
  obtain ⟨t, h, q⟩ := hbody cdv A outer s H vs Q E hr hsp
  exact ⟨t, h.nox, q⟩
theorem bindsA {K : PySem.W.Frag} {x qual : Str} {st : Stmt} {f T : Addr} {oc oT vT : Value} {od an dT : Option Addr} {osl sT : Array (Option Value)} {kV doc pm cdv ct : Value} {nT : Nat} {ps : List Str} (l : K.lookup f = some ⟨oc, od, .func (PySem.W.fnOf x qual (defArgs st) (defBody st) (defScope st) (.ref T) kV doc pm an cdv ct), osl⟩)
    (lT : K.lookup T = some ⟨oT, dT, .seq #[vT] nT, sT⟩)
    (h : ∀ (kV doc pm : Value) (an : Option Addr) (cdv ct : Value) (us : List Value), us.length = ps.length → ∃ k, bindArgs (PySem.W.fnOf x qual (defArgs st) (defBody st) (defScope st) (.ref T) kV doc pm an cdv ct) ⟨us, []⟩ = seqItems? (.ref T) >>= k ∧ k (some #[vT]) = pure (ps.zip us)) : Binds K (PySem.W.fnOf x qual (defArgs st) (defBody st) (defScope st) (.ref T) kV doc pm an cdv ct) ps [] := by
  intro s us X hl
  rw [List.append_nil] at hl ⊢
  obtain ⟨k, e1, e2⟩ := h kV doc pm an cdv ct us hl
  refine BindsTo.of_looks fun M => ?_
  rw [e1]
  exact looks_items X lT rfl (.of_pure e2)
theorem bindsAD {K : PySem.W.Frag} {x qual : Str} {st : Stmt} {f T : Addr} {oc oT vT : Value} {od an dT : Option Addr} {osl sT : Array (Option Value)} {kV doc pm cdv ct : Value} {nT : Nat} {ps : List Str} (l : K.lookup f = some ⟨oc, od, .func (PySem.W.fnOf x qual (defArgs st) (defBody st) (defScope st) (.ref T) kV doc pm an cdv ct), osl⟩)
    (lT : K.lookup T = some ⟨oT, dT, .seq #[vT] nT, sT⟩)
    (h : ∀ (kV doc pm : Value) (an : Option Addr) (cdv ct : Value) (us : List Value), us.length + 1 = ps.length → ∃ k, bindArgs (PySem.W.fnOf x qual (defArgs st) (defBody st) (defScope st) (.ref T) kV doc pm an cdv ct) ⟨us, []⟩ = seqItems? (.ref T) >>= k ∧ k (some #[vT]) = pure (ps.zip (us ++ [vT]))) : Binds K (PySem.W.fnOf x qual (defArgs st) (defBody st) (defScope st) (.ref T) kV doc pm an cdv ct) ps [vT] := by
  intro s us X hl
  rw [List.length_append] at hl
  obtain ⟨k, e1, e2⟩ := h kV doc pm an cdv ct us hl
  refine BindsTo.of_looks fun M => ?_
  rw [e1]
  exact looks_items X lT rfl (.of_pure e2)
theorem kbindsA {x1 : Str} {K : PySem.W.Frag} {x qual : Str} {st : Stmt} {f T : Addr} {oc oT vT : Value} {od an dT : Option Addr} {osl sT : Array (Option Value)} {kV doc pm cdv ct : Value} {nT : Nat} {ps : List Str} (l : K.lookup f = some ⟨oc, od, .func (PySem.W.fnOf x qual (defArgs st) (defBody st) (defScope st) (.ref T) kV doc pm an cdv ct), osl⟩)
    (lT : K.lookup T = some ⟨oT, dT, .seq #[vT] nT, sT⟩)
    (h : ∀ (kV doc pm : Value) (an : Option Addr) (cdv ct u w : Value), ∃ k, bindArgs (PySem.W.fnOf x qual (defArgs st) (defBody st) (defScope st) (.ref T) kV doc pm an cdv ct) ⟨[u], [(x1, w)]⟩ = seqItems? (.ref T) >>= k ∧ k (some #[vT]) = pure (ps.zip [u, w])) : KBn K (PySem.W.fnOf x qual (defArgs st) (defBody st) (defScope st) (.ref T) kV doc pm an cdv ct) ps 1 [x1] (fun us ws => us ++ ws) (fun us ws => us ++ ws) := by
  refine ⟨fun s us ws X l1 l2 => ?_, fun r1 r2 => r1.append r2⟩
  match us, ws, l1, l2 with
  | [u], [w], _, _ =>
    obtain ⟨k, e1, e2⟩ := h kV doc pm an cdv ct u w
    refine BindsTo.of_looks fun M => ?_
    show PySem.W.Looks M s.heap (bindArgs (PySem.W.fnOf x qual (defArgs st) (defBody st) (defScope st) (.ref T) kV doc pm an cdv ct) ⟨[u], [(x1, w)]⟩) (ps.zip [u, w])
    rw [e1]
    exact looks_items X lT rfl (.of_pure e2)
theorem funA_mk {K : PySem.W.Frag} {x qual : Str} {st : Stmt} {f : Addr} {oc : Value} {od an : Option Addr} {osl : Array (Option Value)} {dV kV doc pm cdv ct : Value} (l : K.lookup f = some ⟨oc, od, .func (PySem.W.fnOf x qual (defArgs st) (defBody st) (defScope st) dV kV doc pm an cdv ct), osl⟩)
    (c : PySem.W.codeIn K cdv qual = true) (k : PySem.W.keepIn K (.ref f) = true) : FunA K x qual st f (PySem.W.fnOf x qual (defArgs st) (defBody st) (defScope st) dV kV doc pm an cdv ct) := ⟨⟨oc, od, dV, kV, doc, pm, an, cdv, ct, osl, rfl, l, c⟩, k⟩
section
variable {P : Program} {w : World} {K : PySem.W.Frag} {mg : Str → Option Value} {base : Heap}
theorem cutG {Cd A : Int → Int → Hp → Prop} {B : Prop} (h1 : ∀ n p H, Cd n p H → A n p H) (h2 : (∀ n p H, Cd n p H → A n p H) → B) : B := h2 h1
theorem cutA {Cd A : Addr → Hp → Prop} {B : Prop} (h1 : ∀ a H, Cd a H → A a H) (h2 : (∀ a H, Cd a H → A a H) → B) : B := h2 h1
theorem cutH {H : Hp} {A : Hp → Prop} {B : Prop} (h1 : ∀ H', Same H H' → A H') (h2 : (∀ H', Same H H' → A H') → B) : B := h2 h1
theorem cutP {A B : Prop} (h1 : A) (h2 : A → B) : B := h2 h1
theorem gB {i : Nat} {v u : Bool} {σ : L2.St} {H : Hp} {D : L2.St → Hp → Prop} (e : v = u) (h : gName i (V.bl u) σ H D) : gName i (V.bl v) σ H D := e ▸ h
theorem gI {i : Nat} {v u : Int} {σ : L2.St} {H : Hp} {D : L2.St → Hp → Prop} (e : v = u) (h : gName i (V.int u) σ H D) : gName i (V.int v) σ H D := e ▸ h
theorem dvi (a b : Int) : decide (V.int a = V.int b) = decide (a = b) := by
  by_cases c : a = b
  · rw [decide_eq_true c, decide_eq_true (congrArg V.int c)]
  · rw [decide_eq_false c, decide_eq_false (fun z => c (V.int.inj z))]
theorem dvs (a b : Str) : decide (V.str a = V.str b) = decide (a = b) := by
  by_cases c : a = b
  · rw [decide_eq_true c, decide_eq_true (congrArg V.str c)]
  · rw [decide_eq_false c, decide_eq_false (fun z => c (V.str.inj z))]
theorem bx1 {c : Int} {H : Hp} {b : Addr} (h : BoxAt (c + 2 ^ (1 - 1)) H b) : BoxAt (c + 1) H b := h
theorem Keep.none {b p : Addr} {H H' : Hp} (k : Keep b H H') (n : p ≠ b) (h : H' p = none) : H p = none := by
  cases q : H p with
  | none => rfl
  | some o =>
    rw [k p o q n] at h
    cases h
theorem dp_ints {H : Hp} : ∀ ds : List Int, DpAll K H (ds.map V.int) (ds.map PyData.int)
  | [] => .nil
  | d :: ds => .cons (.int d) (dp_ints ds)
theorem eqv_ints (ds : List Int) : PyData.eqv (.list (ds.map PyData.int)) (.list (ds.map PyData.int)) = true := PySem.SeqAt.eqv_refl _ (PySem.SeqAt.canLay_of_shaped (PySem.W.shaped_ints ds))
/-! ### a form -/
/-- at x stands a Form of these two -/
def FAt (C : Addr) (H : Hp) (x : Addr) (sc tl : Nat) : Prop := ∃ dx, H x = some (.ins C dx [("scale", .int (sc : Int)), ("tail", .int (tl : Int))]) ∧ 2 ≤ sc ∧ sc ≤ 8 ∧ 1 ≤ tl ∧ tl ≤ 24
theorem FAt.keep {C : Addr} {b : Addr} {H H' : Hp} {x : Addr} {sc tl : Nat} (h : FAt C H x sc tl) (k : Keep b H H') (n : x ≠ b) : FAt C H' x sc tl := by
  obtain ⟨dx, e, r⟩ := h
  exact ⟨dx, k _ _ e n, r⟩
theorem FAt.same {C : Addr} {H H' : Hp} {x : Addr} {sc tl : Nat} (h : FAt C H x sc tl) (s : Same H H') : FAt C H' x sc tl := by
  obtain ⟨dx, e, r⟩ := h
  exact ⟨dx, s _ _ e, r⟩
structure FT (K : PySem.W.Frag) (mg : Str → Option Value) (C : Addr) : Prop where
  cl : Cls K C
  ns : NoAttr K C "scale"
  nt : NoAttr K C "tail"
  mgC : mg "Form" = some (.ref C)
theorem fl_s (a b : V) : List.lookup ("scale" : Str) ([("scale", a), ("tail", b)] : List (Str × V)) = some a := rfl
theorem fl_t (a b : V) : List.lookup ("tail" : Str) ([("scale", a), ("tail", b)] : List (Str × V)) = some b := rfl
/-- Form(scale, tail) makes one -/
theorem made {C : Addr} {H : Hp} {x dx : Addr} (nx : H x = none) (nd : H dx = none) (ne : dx ≠ x) {H' : Hp} (k : ∀ p o, (upd (upd H dx (.own x)) x (.ins C dx [])) p = some o → p ≠ x → H' p = some o) : Same H H' := fun p o e =>
  k p o (by rw [upd_ne (ne_of_none e nx), upd_ne (ne_of_none e nd)]; exact e) (ne_of_none e nx)
structure LL (K : PySem.W.Frag) (mg : Str → Option Value) (C : Addr) (za : Nat → Addr) (zl : Nat → FuncData) (t21 : Tok) (E_BadText I_BadText E_BadForm E_BadRow E_Unfit : Addr) : Prop where
  F_spelled : Fun K "spelled" "spelled" s_spelled (za 1) (zl 1)
  m_spelled : mg "spelled" = some (.ref (za 1))
  b_spelled : Binds K (zl 1) ["form", "word"] []
  F_bits_text : Fun K "bits_text" "bits_text" s_bits_text (za 2) (zl 2)
  m_bits_text : mg "bits_text" = some (.ref (za 2))
  b_bits_text : Binds K (zl 2) ["number", "many"] []
  F_word_in : Fun K "word_in" "word_in" s_word_in (za 3) (zl 3)
  m_word_in : mg "word_in" = some (.ref (za 3))
  b_word_in : Binds K (zl 3) ["form", "text"] []
  F_is_number : Fun K "is_number" "is_number" s_is_number (za 4) (zl 4)
  m_is_number : mg "is_number" = some (.ref (za 4))
  b_is_number : Binds K (zl 4) ["thing"] []
  F_is_number_in : Fun K "is_number_in" "is_number_in" s_is_number_in (za 5) (zl 5)
  m_is_number_in : mg "is_number_in" = some (.ref (za 5))
  b_is_number_in : Binds K (zl 5) ["least", "greatest", "thing"] []
  F__law_box : Fun K "_law_box" "_law_box" sBox (za 6) (zl 6)
  m__law_box : mg "_law_box" = some (.ref (za 6))
  b__law_box : Binds K (zl 6) ["_law_script", "_law_k"] []
  F__law_take : Fun K "_law_take" "_law_take" sTake (za 7) (zl 7)
  m__law_take : mg "_law_take" = some (.ref (za 7))
  b__law_take : Binds K (zl 7) ["_law_box_here", "_law_size"] []
  F__law_folded : Fun K "_law_folded" "_law_folded" sFolded (za 8) (zl 8)
  m__law_folded : mg "_law_folded" = some (.ref (za 8))
  b__law_folded : Binds K (zl 8) ["_law_script", "_law_size"] []
  F__law_same : Fun K "_law_same" "_law_same" sSame (za 9) (zl 9)
  m__law_same : mg "_law_same" = some (.ref (za 9))
  b__law_same : Binds K (zl 9) ["_law_found", "_law_due"] []
  F__law_form : Fun K "_law_form" "_law_form" s__law_form (za 10) (zl 10)
  m__law_form : mg "_law_form" = some (.ref (za 10))
  b__law_form : Binds K (zl 10) ["_law_box_here"] []
  F__law_word : Fun K "_law_word" "_law_word" s__law_word (za 11) (zl 11)
  m__law_word : mg "_law_word" = some (.ref (za 11))
  b__law_word : Binds K (zl 11) ["_law_box_here", "_law_scale", "_law_tail"] []
  F__law_text : Fun K "_law_text" "_law_text" s__law_text (za 12) (zl 12)
  m__law_text : mg "_law_text" = some (.ref (za 12))
  b__law_text : Binds K (zl 12) ["_law_word_here", "_law_scale", "_law_tail"] []
  F__law_read : Fun K "_law_read" "_law_read" s__law_read (za 13) (zl 13)
  m__law_read : mg "_law_read" = some (.ref (za 13))
  b__law_read : Binds K (zl 13) ["_law_text_here", "_law_scale", "_law_tail"] []
  F__law_told : Fun K "_law_told" "_law_told" s__law_told (za 14) (zl 14)
  m__law_told : mg "_law_told" = some (.ref (za 14))
  b__law_told : Binds K (zl 14) ["_law_form_here", "_law_text_here"] []
  F__law_bent : Fun K "_law_bent" "_law_bent" s__law_bent (za 15) (zl 15)
  m__law_bent : mg "_law_bent" = some (.ref (za 15))
  b__law_bent : Binds K (zl 15) ["_law_box_here", "_law_text_here"] []
  F__law_right : Fun K "_law_right" "_law_right" s__law_right (za 16) (zl 16)
  m__law_right : mg "_law_right" = some (.ref (za 16))
  b__law_right : Binds K (zl 16) ["_law_box_here"] []
  T : FT K mg C
  M : Mk K C (za 17)
  F_Form___init__ : Fun K "__init__" "Form.__init__" s_Form___init__ (za 17) (zl 17)
  b_Form___init__ : Binds K (zl 17) ["self", "scale", "tail"] []
  F_Form_top : Fun K "top" "Form.top" s_Form_top (za 18) (zl 18)
  b_Form_top : Binds K (zl 18) ["self"] []
  M_Form_top : Meth K C "top" (za 18)
  F_Form_parts : Fun K "parts" "Form.parts" s_Form_parts (za 19) (zl 19)
  b_Form_parts : Binds K (zl 19) ["self", "word"] []
  M_Form_parts : Meth K C "parts" (za 19)
  F_Form_word_of : Fun K "word_of" "Form.word_of" s_Form_word_of (za 20) (zl 20)
  b_Form_word_of : Binds K (zl 20) ["self", "sign", "scale", "tail"] []
  M_Form_word_of : Meth K C "word_of" (za 20)
  F_Form_greatest : FunA K "greatest" "Form.greatest" s_Form_greatest (za 21) (zl 21)
  b_Form_greatest : Binds K (zl 21) ["self", "sign"] []
  M_Form_greatest : Meth K C "greatest" (za 21)
  d_Form_greatest : Binds K (zl 21) ["self", "sign"] [.int 0 t21]
  g_BadText : mg "BadText" = some (.ref E_BadText)
  R_BadText : PySem.WhX.ErrR K E_BadText I_BadText
  x_BadText : PySem.W.exmOne K (.ref E_BadText) (.ref E_BadText) = some true
  g_BadForm : mg "BadForm" = some (.ref E_BadForm)
  g_BadRow : mg "BadRow" = some (.ref E_BadRow)
  g_Unfit : mg "Unfit" = some (.ref E_Unfit)
  z_ValueError : mg "ValueError" = none
  q_BadText_BadText : PySem.W.kitOne K (.ref E_BadText) (.ref E_BadText) = some true
  q_BadText_ValueError : PySem.W.kitOne K (.ref E_BadText) (.type "ValueError") = some true
  y_BadText_BadForm : PySem.W.exmOne K (.ref E_BadText) (.ref E_BadForm) = some false
  y_BadText_BadRow : PySem.W.exmOne K (.ref E_BadText) (.ref E_BadRow) = some false
  y_BadText_Unfit : PySem.W.exmOne K (.ref E_BadText) (.ref E_Unfit) = some false
variable {C : Addr} {za : Nat → Addr} {zl : Nat → FuncData} {t21 : Tok} {E_BadText I_BadText E_BadForm E_BadRow E_Unfit : Addr}

/-! ### is_number, is_number_in -/
inductive Th (K : PySem.W.Frag) (H : Hp) : V → Prop
  | non : Th K H .non
  | bl (b : Bool) : Th K H (.bl b)
  | int (i : Int) : Th K H (.int i)
  | str (x : Str) : Th K H (.str x)
def isI : V → Bool
  | .int _ => true
  | _ => false
def numIn (a b : Int) : V → Bool
  | .int z => decide (a ≤ z) && decide (z ≤ b)
  | _ => false
def spNum (K : PySem.W.Frag) : Sp := fun vs H Q _ => ∃ x : V, vs = [x] ∧ Th K H x ∧ Q (.bl (isI x)) H
theorem ok_is_number (B : Bl mg) (L : LL K mg C za zl t21 E_BadText I_BadText E_BadForm E_BadRow E_Unfit) : FnOk P w K mg base CX0 1 (za 4) (zl 4) ["thing"] (spNum K) := by
  refine L.F_is_number.ok sc_is_number (fun vs H Q E h => ?_) (fun cdv A outer s H vs Q E hr h => ?_)
  · obtain ⟨x, rfl, _⟩ := h
    rfl
  obtain ⟨x, rfl, hx, q⟩ := h
  refine ⟨_, (pss_one (ps_ret (pe_and (pe_callB call_isi (by rfl) B.isinstance boot_isinstance (pa_cons (pv 0) (pa_cons (pe_bltn (v := .ty "int") (by rfl) B.int PyProof.Rows.boot_int rfl) pa_nil))) (pe_one (pe_not (pe_callB call_isi (by rfl) B.isinstance boot_isinstance (pa_cons (pv 0) (pa_cons (pe_bltn (v := .ty "bool") (by rfl) B.bool PyProof.Rows.boot_bool rfl) pa_nil)))))))), ?_⟩
  cases hx with
  | non => exact ⟨_, rfl, _, _, _, _, _, rfl, .ty _, .base .non, kit_ty (by decide +kernel : kitB "NoneType" "int" = some false), _, rfl, iteF q⟩
  | bl b =>
    refine ⟨_, rfl, _, _, _, _, _, rfl, .ty _, .base (.bl _), kit_ty (by decide +kernel : kitB "bool" "int" = some true), _, rfl, iteT ?_⟩
    exact ⟨_, rfl, _, _, _, _, _, rfl, .ty _, .base (.bl _), kit_ty (by decide +kernel : kitB "bool" "bool" = some true), _, rfl, q⟩
  | int i =>
    refine ⟨_, rfl, _, _, _, _, _, rfl, .ty _, .base (.int _), kit_ty (by decide +kernel : kitB "int" "int" = some true), _, rfl, iteT ?_⟩
    exact ⟨_, rfl, _, _, _, _, _, rfl, .ty _, .base (.int _), kit_ty (by decide +kernel : kitB "int" "bool" = some false), _, rfl, q⟩
  | str z => exact ⟨_, rfl, _, _, _, _, _, rfl, .ty _, .base (.str _), kit_ty (by decide +kernel : kitB "str" "int" = some false), _, rfl, iteF q⟩
def spNumIn (K : PySem.W.Frag) : Sp := fun vs H Q _ => ∃ (a b : Int) (x : V), vs = [.int a, .int b, x] ∧ Th K H x ∧ Q (.bl (numIn a b x)) H
theorem ok_is_number_in (B : Bl mg) (L : LL K mg C za zl t21 E_BadText I_BadText E_BadForm E_BadRow E_Unfit) : FnOk P w K mg base CX0 2 (za 5) (zl 5) ["least", "greatest", "thing"] (spNumIn K) := by
  have G_is_number : FnOk P w K mg base CX0 1 (za 4) (zl 4) ["thing"] (spNum K) := (ok_is_number B L).mono (by decide)
  refine L.F_is_number_in.ok sc_is_number_in (fun vs H Q E h => ?_) (fun cdv A outer s H vs Q E hr h => ?_)
  · obtain ⟨a, b, x, rfl, _⟩ := h
    rfl
  obtain ⟨a, b, x, rfl, hx, q⟩ := h
  refine ⟨_, (pss_one (ps_ret (pe_and (pe_call G_is_number hr (by rfl) L.m_is_number L.F_is_number.kp L.b_is_number .nil pass0 (pa_cons (pv 2) pa_nil)) (pe_one (pe_chain op_le op_le (pv 0) (pv 2) (pv 1)))))), ?_⟩
  refine ⟨_, rfl, _, rfl, hx, _, rfl, ?_⟩
  cases hx with
  | non => exact iteF q
  | bl b => exact iteF q
  | str z => exact iteF q
  | int z =>
    refine iteT ?_
    refine ⟨_, rfl, _, rfl, _, _, rfl, rfl, _, rfl, ite2 (fun c => ?_) (fun c => ?_)⟩
    · refine ⟨_, rfl, _, _, rfl, rfl, ?_⟩
      rw [show numIn a b (.int z) = decide (z ≤ b) by show (decide (a ≤ z) && decide (z ≤ b)) = _; rw [c]; rfl] at q
      exact q
    · rw [show numIn a b (.int z) = false by show (decide (a ≤ z) && decide (z ≤ b)) = _; rw [Bool.eq_false_iff.mpr c]; rfl] at q
      exact q
/-! ### Form(scale, tail) and its words -/
def spInit (C : Addr) : Sp := fun vs H Q _ => ∃ (x dx : Addr) (sc tl : Nat), vs = [.ref x, .int (sc : Int), .int (tl : Int)] ∧ H x = some (.ins C dx []) ∧ 2 ≤ sc ∧ sc ≤ 8 ∧ 1 ≤ tl ∧ tl ≤ 24 ∧
  ∀ H', FAt C H' x sc tl → (∀ p o, H p = some o → p ≠ x → H' p = some o) → Q .non H'
theorem numIn_t {a b z : Int} (h1 : a ≤ z) (h2 : z ≤ b) : numIn a b (.int z) = true := by
  show (decide (a ≤ z) && decide (z ≤ b)) = true
  rw [decide_eq_true h1, decide_eq_true h2]
  rfl
theorem ok_Form___init__ (B : Bl mg) (L : LL K mg C za zl t21 E_BadText I_BadText E_BadForm E_BadRow E_Unfit) : FnOk P w K mg base CX0 3 (za 17) (zl 17) ["self", "scale", "tail"] (spInit C) := by
  have G_is_number_in : FnOk P w K mg base CX0 2 (za 5) (zl 5) ["least", "greatest", "thing"] (spNumIn K) := (ok_is_number_in B L).mono (by decide)
  refine L.F_Form___init__.ok sc_Form___init__ (fun vs H Q E h => ?_) (fun cdv A outer s H vs Q E hr h => ?_)
  · obtain ⟨x, dx, sc, tl, rfl, _⟩ := h
    rfl
  obtain ⟨x, dx, sc, tl, rfl, hx, h1, h2, h3, h4, q⟩ := h
  refine ⟨_, (pss_cons (ps_if (pt_not (pt_val (pe_call G_is_number_in hr (by rfl) L.m_is_number_in L.F_is_number_in.kp L.b_is_number_in .nil pass0 (pa_cons pe_int (pa_cons pe_int (pa_cons (pv 1) pa_nil)))))) (pss_one ps_never) pss_nil)
    (pss_cons (ps_if (pt_not (pt_val (pe_call G_is_number_in hr (by rfl) L.m_is_number_in L.F_is_number_in.kp L.b_is_number_in .nil pass0 (pa_cons pe_int (pa_cons pe_int (pa_cons (pv 2) pa_nil)))))) (pss_one ps_never) pss_nil)
    (pss_cons (ps_fld (pv 0) (pv 1) rfl)
    (pss_one (ps_fld (pv 0) (pv 2) rfl))))), ?_⟩
  refine ⟨_, rfl, _, _, _, rfl, .int _, ?_⟩
  rw [numIn_t (by omega) (by omega)]
  refine ⟨_, rfl, iteF ?_⟩
  refine ⟨_, rfl, _, _, _, rfl, .int _, ?_⟩
  rw [numIn_t (by omega) (by omega)]
  refine ⟨_, rfl, iteF ?_⟩
  refine ⟨_, rfl, _, rfl, x, C, dx, _, rfl, hx, L.T.cl, L.T.ns, (by decide), ?_⟩
  refine ⟨_, rfl, _, rfl, x, C, dx, _, rfl, upd_same, L.T.cl, L.T.nt, (by show 1 < 1000; decide), ?_⟩
  refine q _ ⟨dx, upd_same, h1, h2, h3, h4⟩ fun p o e n => ?_
  rw [upd_ne n, upd_ne n]
  exact e
def spTop (C : Addr) : Sp := fun vs H Q _ => ∃ (x : Addr) (sc tl : Nat), vs = [.ref x] ∧ FAt C H x sc tl ∧ Q (.int (2 ^ sc - 1)) H
theorem ok_Form_top (B : Bl mg) (L : LL K mg C za zl t21 E_BadText I_BadText E_BadForm E_BadRow E_Unfit) : FnOk P w K mg base CX0 1 (za 18) (zl 18) ["self"] (spTop C) := by
  refine L.F_Form_top.ok sc_Form_top (fun vs H Q E h => ?_) (fun cdv A outer s H vs Q E hr h => ?_)
  · obtain ⟨x, sc, tl, rfl, _⟩ := h
    rfl
  obtain ⟨x, sc, tl, rfl, ⟨dx, hx, h1, h2, h3, h4⟩, q⟩ := h
  refine ⟨_, (pss_one (ps_ret (pe_op op_sub (pe_op op_oneShl pe_int (pe_fld (pv 0) rfl)) pe_int))), ?_⟩
  exact ⟨_, rfl, x, C, dx, _, _, rfl, hx, L.T.cl, L.T.ns, fl_s _ _, sc, rfl, rfl, by omega, _, _, rfl, rfl, q⟩
end
section
variable {P : Program} {w : World} {K : PySem.W.Frag} {mg : Str → Option Value} {base : Heap}
variable {C : Addr} {za : Nat → Addr} {zl : Nat → FuncData} {t21 : Tok} {E_BadText I_BadText E_BadForm E_BadRow E_Unfit : Addr}
/-! ### parts, sorts and worths of words -/
def spParts (C : Addr) : Sp := fun vs H Q _ => ∃ (x : Addr) (sc tl : Nat) (v : Int), vs = [.ref x, .int v] ∧ FAt C H x sc tl ∧
  ∀ p, H p = none → Q (.ref p) (upd H p (.tup [.int (GM.sgn sc tl v), .int (GM.scl sc tl v), .int (GM.tlp tl v)]))
theorem ok_Form_parts (B : Bl mg) (L : LL K mg C za zl t21 E_BadText I_BadText E_BadForm E_BadRow E_Unfit) : FnOk P w K mg base CX0 2 (za 19) (zl 19) ["self", "word"] (spParts C) := by
  have G_Form_top : FnOk P w K mg base CX0 1 (za 18) (zl 18) ["self"] (spTop C) := (ok_Form_top B L).mono (by decide)
  refine L.F_Form_parts.ok sc_Form_parts (fun vs H Q E h => ?_) (fun cdv A outer s H vs Q E hr h => ?_)
  · obtain ⟨x, sc, tl, v, rfl, _⟩ := h
    rfl
  obtain ⟨x, sc, tl, v, rfl, hF, q⟩ := h
  obtain ⟨dx, hx, h1, h2, h3, h4⟩ := id hF
  refine ⟨_, (pss_cons (ps_set (i := 2) sc_Form_parts.nd rfl (.inl rfl) (pe_op op_andM (pe_op op_shrN (pv 1) (pe_op op_add (pe_fld (pv 0) rfl) (pe_fld (pv 0) rfl))) pe_int))
    (pss_cons (ps_set (i := 3) sc_Form_parts.nd rfl (.inl rfl) (pe_op op_andM (pe_op op_shrN (pv 1) (pe_fld (pv 0) rfl)) (pe_meth0 (pv 0) L.T.cl L.M_Form_top G_Form_top hr L.b_Form_top .nil pass0)))
    (pss_cons (ps_set (i := 4) sc_Form_parts.nd rfl (.inl rfl) (pe_op op_andM (pv 1) (pe_op op_sub (pe_op op_oneShl pe_int (pe_fld (pv 0) rfl)) pe_int)))
    (pss_one (ps_ret (pe_tup (pa_cons (pv 2) (pa_cons (pv 3) (pa_cons (pv 4) pa_nil))))))))), ?_⟩
  refine ⟨_, rfl, _, rfl, x, C, dx, _, _, rfl, hx, L.T.cl, L.T.ns, fl_s _ _, _, rfl, x, C, dx, _, _, rfl, hx, L.T.cl, L.T.nt, fl_t _ _, _, _, rfl, rfl, _, sc + tl, rfl, rfl, _, 1, rfl, rfl, ?_⟩
  refine ⟨_, rfl, _, rfl, x, C, dx, _, _, rfl, hx, L.T.cl, L.T.nt, fl_t _ _, _, tl, rfl, rfl, _, rfl, x, dx, _, rfl, hx, rfl, x, sc, tl, rfl, hF, _, sc, rfl, rfl, ?_⟩
  refine ⟨_, rfl, _, rfl, x, C, dx, _, _, rfl, hx, L.T.cl, L.T.nt, fl_t _ _, tl, rfl, rfl, by omega, _, _, rfl, rfl, _, tl, rfl, rfl, ?_⟩
  refine ⟨_, rfl, _, rfl, _, rfl, (by show 3 ≤ sizeLine; decide), fun p np => ?_⟩
  exact q p np
end
theorem gset_if2 {i : Nat} {v : V} {σ : L2.St} {H : Hp} {c : TT} {t u r : TS} {D : Ends} (h : tIfS c t u { D with nx := r D } (σ.set i (some v)) H) : gName i v σ H ({ D with nx := tSeq (tIfS c t u) r D } : Ends).nx := h
theorem gset_if {σ : L2.St} {H : Hp} {c : TT} {t u r : TS} {D : Ends} (h : tIfS c t u { D with nx := r D } σ H) : tSeq (tIfS c t u) r D σ H := h
theorem ifS_cut {c : TT} {t u : TS} {D : Ends} {σ : L2.St} {H : Hp} (R : L2.St → Hp → Prop) (h : ∀ D' : Ends, (∀ σ' H', R σ' H' → D'.nx σ' H') → tIfS c t u D' σ H) (q : ∀ σ' H', R σ' H' → D.nx σ' H') : tIfS c t u D σ H := h D q
theorem ifS_ev {c : TT} {t u : TS} {D : Ends} {σ : L2.St} {H : Hp} (R : Bool → Hp → Prop) (h : ∀ Q : Bool → Hp → Prop, (∀ z H', R z H' → Q z H') → c σ H Q) (q1 : ∀ H', R true H' → t D σ H') (q2 : ∀ H', R false H' → u D σ H') : tIfS c t u D σ H := h _ fun z H' r => by
  cases z with
  | true => exact q1 H' r
  | false => exact q2 H' r
theorem and_ev {ta tb : TE} {σ : L2.St} {H : Hp} {Q : VK} (R : V → Hp → Prop) (h : ∀ Q : VK, (∀ z H', R z H' → Q z H') → tAndV ta tb σ H Q) (q : ∀ z H', R z H' → Q z H') : tAndV ta tb σ H Q := h Q q
theorem or_ev {ta tb : TE} {σ : L2.St} {H : Hp} {Q : VK} (R : V → Hp → Prop) (h : ∀ Q : VK, (∀ z H', R z H' → Q z H') → tOrV ta tb σ H Q) (q : ∀ z H', R z H' → Q z H') : tOrV ta tb σ H Q := h Q q
theorem ifset_ev {c : TT} {e : TE} {k : Nat} {D : Ends} {σ : L2.St} {H : Hp} {old : V} (hσ : σ.set k (some old) = σ) (R : V → Hp → Prop) (h : ∀ Q : VK, (∀ z H', R z H' → Q z H') → c σ H (fun b H1 => if b = true then e σ H1 Q else Q old H1)) (q : ∀ z H', R z H' → D.nx (σ.set k (some z)) H') : tIfS c (tAsg e (gName k)) tNext D σ H := by
  have t := h (fun z H' => D.nx (σ.set k (some z)) H') q
  rw [hσ] at t
  exact t
theorem two_cut {t : TE} {g : TG} {c : TT} {a b r : TS} {D : Ends} {σ : L2.St} {H : Hp} (R : L2.St → Hp → Prop) (h : ∀ D' : Ends, (∀ σ' H', R σ' H' → D'.nx σ' H') → tSeq (tAsg t g) (tIfS c a b) D' σ H) (q : ∀ σ' H', R σ' H' → r D σ' H') : tSeq (tAsg t g) (tSeq (tIfS c a b) r) D σ H := h { D with nx := r D } q
theorem org80 {ta tb : TE} {σ : L2.St} {H : Hp} {Q : VK} {c d : Bool} (ha : ∀ Q : VK, Q (.bl c) H → ta σ H Q) (hb : ∀ Q : VK, Q (.bl d) H → tb σ H Q) (h : Q (.bl (c || d)) H) : tOrV ta tb σ H Q := by
  refine ha _ ⟨c, rfl, ?_⟩
  cases c
  · exact hb _ h
  · exact h
theorem gnext_if18 {σ : L2.St} {H : Hp} {c : TT} {t u : TS} {r : TS} {D : Ends} (h : tIfS c t u { D with nx := r D } σ H) : tNext ({ D with nx := tSeq (tIfS c t u) r D } : Ends) σ H := h
theorem ret_if18 {c : TT} {ta tb : TE} {D : Ends} {σ : L2.St} {H : Hp} (R : Bool → Hp → Prop) (h : ∀ Q : Bool → Hp → Prop, (∀ z H', R z H' → Q z H') → c σ H Q) (q1 : ∀ H', R true H' → ta σ H' D.rt) (q2 : ∀ H', R false H' → tb σ H' D.rt) : tRet (tIf c ta tb) D σ H := h _ fun z H' r => by
  cases z with
  | true => exact q1 H' r
  | false => exact q2 H' r
theorem gset_if3 {i : Nat} {v : V} {σ : L2.St} {H : Hp} {c : TT} {t u r : TS} {D : Ends} (h : tIfS c t u { D with nx := r D } (σ.set i (some v)) H) : gName i v σ H (tSeq (tIfS c t u) r D) := h
theorem asg_ev {t : TE} {i : Nat} {r : TS} {D : Ends} {σ : L2.St} {H : Hp} (R : V → Hp → Prop) (h : ∀ Q : VK, (∀ z H', R z H' → Q z H') → t σ H Q) (q : ∀ z H', R z H' → r D (σ.set i (some z)) H') : tSeq (tAsg t (gName i)) r D σ H := h _ q
end GZ
namespace GZ
open PySem PySem.Spec PyProof.Rows L2
/-! ### {n:b} -/
def binT (n : Nat) : Str := ⟨((Nat.toDigits 2 n).map Char.toNat).toArray⟩
theorem digc2_ne : ∀ (fuel n : Nat) (ds : List Char), ds ≠ [] → Nat.toDigitsCore 2 fuel n ds ≠ []
  | 0, _, _, h => h
  | fuel + 1, n, ds, h => by
    unfold Nat.toDigitsCore
    simp only
    split
    · exact List.cons_ne_nil _ _
    · exact digc2_ne fuel _ _ (List.cons_ne_nil _ _)
theorem dig2_ne (n : Nat) : Nat.toDigits 2 n ≠ [] := by
  unfold Nat.toDigits Nat.toDigitsCore
  simp only
  split
  · exact List.cons_ne_nil _ _
  · exact digc2_ne _ _ _ (List.cons_ne_nil _ _)
theorem fmt_b {prog : Program} {w : World} {A : Around} {E : Value → Shared → Prop} {s : Shared} {n : Nat} {t : Tok} {Q : Value → Shared → Prop} (hl : (binT n).length ≤ sizeLine)
    (h : Q (.str (binT n) (s.toks + 1)) { s with toks := s.toks + 1 + 1 }) : wpAny (model prog w) A (formatField (.int (n : Int) t) "b") Q E s := by
  show wpAny _ _ (holding [.int (n : Int) t] (pyFormat (.int (n : Int) t) "b")) Q E s; refine wpAny_holding ?_; unfold pyFormat
  refine wpAny_bind (wpAny_mkStr ?_ (by decide))
  refine wpAny_bind (m := callSpecial? (.int (n : Int) t) (Str.ofString "__format__") [.str "b" s.toks]) (wpAny_callSpecial?_slot (name := Str.ofString "__format__") (typeIs_int _ (n : Int) t) slot_int_format ?_)
  refine wpAny_call (codeAny_call_builtin slot_int_format.plain entry_int_format (slot_int_format.check _ _ _ _ _ _ _ _ (typeIs_int _ (n : Int) t) (args_int_format _ _) ?_))
  unfold Builtin.«int.__format__»
  simp only [selfAndOne, noKeywords, Builtin.Int.intOfSelf, asInt?, asStr?, List.isEmpty_nil, if_true, pure_bind, bind_pure, bind_assoc, show (((Str.ofString "b").length == 0) = false) by decide, show ((((Str.ofString "b").cps.toList.drop 1).any (· ≥ 128) || ((Str.ofString "b").cps.getD 0 0 ≥ 128 && !([60, 62, 61, 94] : List Nat).contains ((Str.ofString "b").cps.getD 1 0))) = false) by decide, Bool.false_eq_true, if_false, show (Value.str "b" s.toks == Value.none) = false from rfl]
  refine wpAny_bind (wpAny_typeNameOf (T := "str") (typeIs_str _ _ _) (by decide) fun _ => wpAny_bind (wpAny_typeNameOfCut_int ?_))
  have hp : Builtin.Float.parseFormatSpec (Str.ofString "b").cps.toList "int" 62 = .ok { align := 62, type := some 98 } := by rfl
  simp only [hp, Option.getD_some]
  rw [if_pos (by decide)]
  have hne : (((Nat.toDigits 2 n).map Char.toNat).isEmpty) = false := by
    cases q : Nat.toDigits 2 n with
    | nil => exact absurd q (dig2_ne n)
    | cons _ _ => rfl
  refine (id (?_ : wpAny _ _ (bind _ _) _ _ _))
  have key : ∀ {A' : Around} {E' : Value → Shared → Prop} {Q' : Fin → Shared → Prop} {s' : Shared} (y : Str), y = binT n → Q' (.done (.ret (.str (binT n) s'.toks))) { s' with toks := s'.toks + 1 } → wpAny (model prog w) A' (mkStr y >>= fun v => ret v) Q' E' s' := fun y e q => by
    rw [e]
    exact wpAny_bind (wpAny_mkStr (wpAny_pure q) hl)
  refine key _ ?_ ?_
  · have e0 : decide (((n : Nat) : Int) < 0) = false := decide_eq_false (by omega)
    rw [e0]
    conv => lhs; arg 4; change ((Nat.toDigits 2 n).map Char.toNat)
    unfold binT
    generalize (Nat.toDigits 2 n).map Char.toNat = ds at hne ⊢
    cases ds with
    | nil => cases hne
    | cons d r =>
      conv => lhs; whnf
      simp
      omega
  · exact wpAny_bind (wpAny_isInstance (typeIs_str _ _ _) isSubtype_str_str (wpAny_pure h))
def tFmtB (te ts : TE) : TE := fun σ H Q => te σ H fun x H1 => ts σ H1 fun y H2 => ∃ n : Nat, x = .int (n : Int) ∧ y = .str "b" ∧ (binT n).length ≤ sizeLine ∧ Q (.str (binT n)) H2
theorem pe_fmtB {X : Cx} {e spec : Expr} {te ts : TE} {pos : Pos} (he : PE X e te) (hs : PE X spec ts) : PE X (.FormattedValue e (-1) (some spec) pos) (tFmtB te ts) := by
  refine ⟨fun pins s σ H Q I h => ?_⟩
  refine PySem.wpAny_FormattedValue_spec (thn (he.run pins s σ H _ I h) fun v s1 ⟨x, H1, I1, r1, q1⟩ => thn (hs.run pins s1 σ H1 _ I1 q1) fun u s2 ⟨y, H2, I2, r2, q2⟩ => ?_)
  obtain ⟨n, rfl, rfl, hl, q⟩ := q2
  obtain ⟨t, rfl⟩ := r1
  obtain ⟨t2, rfl⟩ := r2
  exact ⟨_, _, rfl, fmt_b hl ⟨.str (binT n), H2, I2.tok _, ⟨_, rfl⟩, q⟩⟩
/-! ### bits of a number as a text -/
def bitsL : Nat → Nat → List Nat
  | 0, _ => []
  | k + 1, n => bitsL k (n / 2) ++ [48 + n % 2]
def bt (k n : Nat) : Str := ⟨(bitsL k n).toArray⟩
theorem tl_bt (k n : Nat) : TL.tl (bt k n) = bitsL k n := rfl
theorem bitsL_len : ∀ k n, (bitsL k n).length = k
  | 0, _ => rfl
  | k + 1, n => by
    show (bitsL k (n / 2) ++ [48 + n % 2]).length = k + 1
    rw [List.length_append, bitsL_len k]
    rfl
theorem bitsL_01 : ∀ k n c, c ∈ bitsL k n → c = 48 ∨ c = 49
  | 0, _, _, h => nomatch h
  | k + 1, n, c, h => by
    rcases List.mem_append.mp h with h | h
    · exact bitsL_01 k _ c h
    · have := List.mem_singleton.mp h
      omega
theorem bitsL_zero : ∀ k, bitsL k 0 = List.replicate k 48
  | 0 => rfl
  | k + 1 => by
    show bitsL k 0 ++ [48] = _
    rw [bitsL_zero k, List.replicate_succ']
theorem bitsL_fold : ∀ k n a, n < 2 ^ k → (bitsL k n).foldl (fun n c => 2 * n + (c - 48)) a = a * 2 ^ k + n
  | 0, n, a, h => by
    have : n = 0 := by simpa using h
    subst this
    simp [bitsL]
  | k + 1, n, a, h => by
    show (bitsL k (n / 2) ++ [48 + n % 2]).foldl _ a = _
    rw [List.foldl_append, bitsL_fold k (n / 2) a (by rw [Nat.pow_succ] at h; omega)]
    show 2 * (a * 2 ^ k + n / 2) + (48 + n % 2 - 48) = _
    rw [Nat.pow_succ, ← Nat.mul_assoc]
    omega
/-- the bits of two parts, behind each other -/
theorem bitsL_app : ∀ j k a b, b < 2 ^ j → bitsL k a ++ bitsL j b = bitsL (k + j) (a * 2 ^ j + b)
  | 0, k, a, b, h => by
    have : b = 0 := by simpa using h
    subst this
    simp [bitsL]
  | j + 1, k, a, b, h => by
    show bitsL k a ++ (bitsL j (b / 2) ++ [48 + b % 2]) = bitsL (k + j) ((a * 2 ^ (j + 1) + b) / 2) ++ [48 + (a * 2 ^ (j + 1) + b) % 2]
    have e1 : (a * 2 ^ (j + 1) + b) / 2 = a * 2 ^ j + b / 2 := by
      rw [Nat.pow_succ, ← Nat.mul_assoc]
      omega
    have e2 : (a * 2 ^ (j + 1) + b) % 2 = b % 2 := by
      rw [Nat.pow_succ, ← Nat.mul_assoc]
      omega
    rw [e1, e2, ← List.append_assoc, bitsL_app j k a (b / 2) (by rw [Nat.pow_succ] at h; omega)]
theorem dig2_nat : ∀ d : Nat, d < 2 → (Nat.digitChar d).toNat = 48 + d := by decide
theorem tlb_lt {n : Nat} (h : n < 2) : TL.tl (binT n) = [48 + n] := by
  show (Nat.toDigits 2 n).map Char.toNat = _
  rw [Nat.toDigits_of_lt_base h]
  show [(Nat.digitChar n).toNat] = _
  rw [dig2_nat n h]
theorem tlb_step {n : Nat} (h : 2 ≤ n) : TL.tl (binT n) = TL.tl (binT (n / 2)) ++ [48 + n % 2] := by
  have hm : n % 2 < 2 := Nat.mod_lt n (by decide)
  have t : Nat.toDigits 2 (n / 2) ++ Nat.toDigits 2 (n % 2) = Nat.toDigits 2 (2 * (n / 2) + n % 2) := Nat.toDigits_append_toDigits (by decide) (by omega) hm
  rw [Nat.div_add_mod] at t
  show (Nat.toDigits 2 n).map Char.toNat = (Nat.toDigits 2 (n / 2)).map Char.toNat ++ _
  rw [← t, List.map_append, Nat.toDigits_of_lt_base hm]
  show _ ++ [(Nat.digitChar (n % 2)).toNat] = _
  rw [dig2_nat _ hm]
theorem tlb_bits : ∀ k n, n < 2 ^ (k + 1) → (TL.tl (binT n)).length ≤ k + 1 ∧ List.replicate (k + 1 - (TL.tl (binT n)).length) 48 ++ TL.tl (binT n) = bitsL (k + 1) n
  | 0, n, h => by
    have h : n < 2 := by simpa using h
    rw [tlb_lt h]
    refine ⟨Nat.le_refl _, ?_⟩
    show [48 + n] = [48 + n % 2]
    rw [Nat.mod_eq_of_lt h]
  | k + 1, n, h => by
    by_cases c : n < 2
    · rw [tlb_lt c]
      refine ⟨by show 1 ≤ _; omega, ?_⟩
      show List.replicate (k + 1) 48 ++ [48 + n] = bitsL (k + 1) (n / 2) ++ [48 + n % 2]
      rw [Nat.mod_eq_of_lt c, show n / 2 = 0 by omega, bitsL_zero]
    · have ih := tlb_bits k (n / 2) (by rw [Nat.pow_succ] at h; omega)
      rw [tlb_step (by omega), List.length_append]
      refine ⟨by show _ + 1 ≤ _; omega, ?_⟩
      show List.replicate (k + 1 + 1 - ((TL.tl (binT (n / 2))).length + 1)) 48 ++ (TL.tl (binT (n / 2)) ++ [48 + n % 2]) = bitsL (k + 1) (n / 2) ++ [48 + n % 2]
      rw [← List.append_assoc, ← ih.2, Nat.add_sub_add_right]
theorem bin_len {k n : Nat} (hk : 1 ≤ k) (h : n < 2 ^ k) : (binT n).length ≤ k := by
  obtain ⟨j, rfl⟩ : ∃ j, k = j + 1 := ⟨k - 1, by omega⟩
  rw [TL.len_tl]
  exact (tlb_bits j n h).1
theorem tl_zfilled {x : Str} {more : Nat} (h : ∀ c ∈ TL.tl x, c = 48 ∨ c = 49) : TL.tl (zfilled x more) = List.replicate more 48 ++ TL.tl x := by
  have pd : TL.tl (Builtin.Str.padded x more 0 48) = List.replicate more 48 ++ TL.tl x := by
    show ((Array.replicate more 48 ++ x.cps) ++ Array.replicate 0 48).toList = _
    rw [Array.toList_append, Array.toList_append, Array.toList_replicate, Array.toList_replicate]
    show _ ++ _ ++ [] = _
    rw [List.append_nil]
  have g : ∀ c, x.cps[0]? = some c → c = 48 ∨ c = 49 := fun c e => h c (List.mem_of_getElem? (i := 0) (by show x.cps.toList[0]? = _; rw [Array.getElem?_toList]; exact e))
  unfold zfilled
  split
  · rename_i e
    have := g _ e
    omega
  · rename_i e
    have := g _ e
    omega
  · exact pd
theorem zb_bits {k n : Nat} (hk : 1 ≤ k) (h : n < 2 ^ k) : Txt.zfill (binT n) (k : Int) = bt k n := by
  obtain ⟨j, rfl⟩ : ∃ j, k = j + 1 := ⟨k - 1, by omega⟩
  obtain ⟨h1, h2⟩ := tlb_bits j n h
  refine TL.ext_tl ?_
  rw [tl_bt, ← h2]
  unfold Txt.zfill
  split
  · rename_i c
    rw [TL.len_tl] at c
    rw [show j + 1 - (TL.tl (binT n)).length = 0 by omega]
    rfl
  · rename_i c
    rw [TL.len_tl] at c ⊢
    rw [tl_zfilled fun c hc => bitsL_01 (j + 1) n c (by rw [← h2]; exact List.mem_append_right _ hc)]
    rfl
def gN (sc tl : Nat) (v : Nat) : Nat := v / 2 ^ (sc + tl) % 2
def mN (sc tl : Nat) (v : Nat) : Nat := v / 2 ^ tl % 2 ^ sc
def tN (tl : Nat) (v : Nat) : Nat := v % 2 ^ tl
def spP (sc tl : Nat) (v : Nat) : List Str := [bt 1 (gN sc tl v), bt sc (mN sc tl v), bt tl (tN tl v)]
def spT (sc tl : Nat) (v : Nat) : Str := Str.join " " (spP sc tl v)
theorem sp_bits {sc tl v : Nat} (hv : v < 2 ^ (1 + sc + tl)) : bitsL 1 (gN sc tl v) ++ (bitsL sc (mN sc tl v) ++ bitsL tl (tN tl v)) = bitsL (1 + sc + tl) v := by
  have p1 : 0 < 2 ^ tl := Nat.pow_pos (by decide)
  have p2 : 0 < 2 ^ sc := Nat.pow_pos (by decide)
  rw [bitsL_app tl sc (mN sc tl v) (tN tl v) (Nat.mod_lt _ p1)]
  have e1 : mN sc tl v * 2 ^ tl + tN tl v = v % 2 ^ (sc + tl) := by
    unfold mN tN
    rw [Nat.pow_add, Nat.mul_comm (2 ^ sc), Nat.mod_mul, Nat.mul_comm, Nat.add_comm]
  rw [e1, bitsL_app (sc + tl) 1 (gN sc tl v) (v % 2 ^ (sc + tl)) (Nat.mod_lt _ (Nat.pow_pos (by decide))), Nat.add_assoc 1 sc tl]
  have e2 : gN sc tl v = v / 2 ^ (sc + tl) := by
    unfold gN
    refine Nat.mod_eq_of_lt (Nat.div_lt_of_lt_mul ?_)
    rw [show (2 : Nat) = 2 ^ 1 from rfl, ← Nat.pow_mul, ← Nat.pow_add]
    simpa [Nat.add_comm, Nat.add_assoc, Nat.add_left_comm] using hv
  rw [e2, Nat.div_add_mod']
theorem sp_split {sc tl v : Nat} (hv : v < 2 ^ (1 + sc + tl)) : Txt.split (spT sc tl v) " " = spP sc tl v := by
  have := TL.split_join (y := " ") (s := 32) (S := []) rfl (by decide +kernel) (parts := spP sc tl v) (by unfold spP; simp) (fun p hp => by
    have no : ∀ k n, 32 ∉ TL.tl (bt k n) := fun k n h => by
      have := bitsL_01 k n 32 h
      omega
    unfold spP at hp
    simp only [List.mem_cons, List.not_mem_nil, or_false] at hp
    rcases hp with rfl | rfl | rfl <;> exact no _ _)
  rw [TL.join_eq] at this
  exact this
theorem spP_len (sc tl v : Nat) : (spP sc tl v).map (·.length) = [1, sc, tl] := by
  have h : ∀ k n, (bt k n).length = k := fun k n => by rw [TL.len_tl, tl_bt, bitsL_len]
  unfold spP
  simp only [List.map_cons, List.map_nil, h]
theorem spJ {sc tl v : Nat} (hv : v < 2 ^ (1 + sc + tl)) : TL.tl (Txt.join "" (spP sc tl v)) = bitsL (1 + sc + tl) v := by
  rw [TL.join_eq, TL.tl_join, ← sp_bits hv]
  rfl
theorem spT_len (sc tl v : Nat) : (spT sc tl v).length = 1 + sc + tl + 2 := by
  rw [TL.len_tl]
  unfold spT
  rw [TL.tl_join]
  show (bitsL 1 _ ++ ([32] ++ (bitsL sc _ ++ ([32] ++ bitsL tl _)))).length = _
  simp only [List.length_append, bitsL_len, List.length_cons, List.length_nil]
  omega
/-! ### a text so many times -/
def strRep (x : Str) (n : Nat) : Str := ⟨(List.replicate n x.cps).foldl (· ++ ·) #[]⟩
theorem strRep_len (x : Str) (n : Nat) : (strRep x n).length = n * x.length := by
  have key : ∀ (n : Nat) (a : Array Nat), ((List.replicate n x.cps).foldl (· ++ ·) a).size = a.size + n * x.cps.size := by
    intro n
    induction n with
    | zero => intro a; simp
    | succ k ih =>
      intro a
      rw [List.replicate_succ, List.foldl_cons, ih, Array.size_append, Nat.add_mul, Nat.one_mul]
      omega
  have := key n #[]
  show ((List.replicate n x.cps).foldl (· ++ ·) #[]).size = n * x.cps.size
  rw [this]
  simp
theorem op_mul_str {X : Cx} : OpR X (binaryOp .Mult) (fun x y H Q => ∃ (i : Str) (n : Nat), x = .str i ∧ y = .int (n : Int) ∧ i.length ≤ 1000 ∧ n ≤ 1000 ∧ Q (.str (strRep i n)) H) := by
  intro pins s σ H x y v u Q I rx ry h
  obtain ⟨i, n, rfl, rfl, h1, h2, q⟩ := h
  obtain ⟨t, rfl⟩ := rx
  obtain ⟨t', rfl⟩ := ry
  have hm : i.length * n ≤ 1000 * 1000 := Nat.mul_le_mul h1 h2
  refine P.mul_str (by rw [decide_eq_false (by omega), decide_eq_false (by omega)]; rfl) (fun c _ => ?_) (fun c _ => ?_) ?_
  · have : (1 : Int) ≤ n := by omega
    have hd : ((2 ^ 63 - 1 : Int)) / 1000 ≤ (2 ^ 63 - 1) / (n : Int) := by
      refine Int.le_ediv_of_mul_le (by omega) ?_
      have : ((2 ^ 63 - 1 : Int) / 1000) * n ≤ (2 ^ 63 - 1) / 1000 * 1000 := Int.mul_le_mul_of_nonneg_left (by omega) (by decide)
      have e : ((2 ^ 63 - 1 : Int) / 1000) * 1000 ≤ 2 ^ 63 - 1 := by decide
      omega
    have e2 : (1000 : Int) ≤ (2 ^ 63 - 1) / 1000 := by decide
    omega
  · rw [Int.toNat_natCast]
    unfold Builtin.Str.tooLong
    have : (1000 * 1000 : Nat) ≤ sizeLine := by decide
    simp only [decide_eq_false_iff_not]
    omega
  · have fin : ∀ (tk : Nat), EP X pins σ Q (.str (strRep i n) tk) s := fun tk => ⟨.str (strRep i n), H, I, ⟨_, rfl⟩, q⟩
    by_cases c : (n : Int) < 1
    · rw [if_pos c]
      have n0 : n = 0 := by omega
      subst n0
      exact ⟨by decide, ⟨.str (strRep i 0), H, I.tok _, ⟨_, rfl⟩, q⟩⟩
    · rw [if_neg c]
      by_cases c2 : ((n : Int) == 1 || i.length == 0) = true
      · rw [if_pos c2]
        have e : strRep i n = i := by
          rcases Bool.or_eq_true_iff.mp c2 with z | z
          · have n1 : n = 1 := by
              have := beq_iff_eq.mp z
              omega
            subst n1
            show (⟨#[] ++ i.cps⟩ : Str) = i
            rw [Array.empty_append]
          · have l0 : (strRep i n).length = 0 := by rw [strRep_len, beq_iff_eq.mp z, Nat.mul_zero]
            have a : (strRep i n).cps = #[] := Array.eq_empty_of_size_eq_zero l0
            have b : i.cps = #[] := Array.eq_empty_of_size_eq_zero (beq_iff_eq.mp z)
            show strRep i n = i
            cases h5 : strRep i n
            cases i
            rw [h5] at a
            dsimp only at a b
            rw [a, b]
        rw [e] at q
        exact ⟨.str i, H, I, ⟨_, rfl⟩, q⟩
      · rw [if_neg c2]
        refine ⟨?_, ⟨.str (strRep i n), H, I.tok _, ⟨_, rfl⟩, q⟩⟩
        have := strRep_len i n
        have : (1000 * 1000 : Nat) ≤ sizeLine := by decide
        show (strRep i n).length ≤ sizeLine
        rw [strRep_len, Nat.mul_comm]
        omega
end GZ
namespace L2
open PySem PySem.Spec PyProof.Rows
/-! ### text[::-1] -/
def tRevS (te : TE) : TE := fun τ H Q => te τ H fun x G1 => ∃ z : Str, x = .str z ∧ z.length ≤ sizeLine ∧ ∀ y : Str, y.length ≤ z.length → Q (.str y) G1
theorem pe_revS {X : Cx} {e : Expr} {te : TE} {k : Nat} {p1 p2 p3 pos : Pos} (he : PE X e te) : PE X (.Subscript e (.Slice none none (some (.UnaryOp .USub (.Constant (.int 1) k p1) p2)) p3) pos) (tRevS te) := by
  refine ⟨fun pz s τ H Q I h => ?_⟩
  refine Subscript_ (thn (he.run pz s τ H _ I h) fun v a1 ⟨x, G1, J1, r1, q1⟩ => ?_)
  obtain ⟨z, ex, hz, q⟩ := q1
  subst ex
  obtain ⟨t, rfl⟩ := r1
  have neg1 : PO X (some (.UnaryOp .USub (.Constant (.int 1) k p1) p2)) (tPart (tUn (rU fun i => .int (-i)) (tC (.int 1)))) := po_some (pe_un un_neg pe_int)
  refine wpAny_Slice (thn (po_none.run pz a1 τ G1 (fun o G2 => o = none ∧ G2 = G1) J1 ⟨rfl, rfl⟩) fun vl a2 ⟨l, G2, J2, pl, el, e2⟩ => ?_)
  subst el e2
  refine thn (po_none.run pz a2 τ G2 (fun o G3 => o = none ∧ G3 = G2) J2 ⟨rfl, rfl⟩) fun vu a3 ⟨u, G3, J3, pu, eu, e3⟩ => ?_
  subst eu e3
  refine thn (neg1.run pz a3 τ G3 (fun o G4 => o = some (-1) ∧ G4 = G3) J3 ⟨1, rfl, -1, rfl, rfl, rfl⟩) fun vs a4 ⟨o, G4, J4, ps, eo, e4⟩ => ?_
  subst eo e4
  have J5 : Inv X pz τ G4 { a4 with heap := a4.heap.push { cls := .type "slice", data := .fields #[vl, vu, vs] } } := J4.kept (t' := a4.toks) fun b ob q => Heap.get?_push_of_some _ q
  obtain ⟨l0, rfl, el⟩ := IsPart.raw pl
  obtain ⟨u0, rfl, eu⟩ := IsPart.raw pu
  obtain ⟨st, rfl, es⟩ := IsPart.raw ps
  cases l0 with
  | some l0 => cases el
  | none =>
    cases u0 with
    | some u0 => cases eu
    | none =>
      cases st with
      | none => cases es
      | some st =>
        obtain ⟨st, ut⟩ := st
        have es : some st = some (-1 : Int) := es
        cases es
        refine tail_any (ops := [.str z t, .ref a4.heap.objs.size]) (typeIs_str _ _ _) F.slot_str_getitem.lookup ?_ (by with_unfolding_all rfl)
        refine wpAny_getItem_str_slice (l := none) (u := none) (st := some (-1, ut)) ⟨_, Heap.get?_push_size _ rfl, rfl, rfl⟩ rfl ?_
        exact post_val_or_str ⟨Nat.le_trans (PySem.Txt.sliceBy_le z none none (-1, ut) (by show (-1 : Int) ≠ 0; decide)) hz, fun t' c => ⟨.str _, G4, J5.tok c, ⟨t', rfl⟩, q _ (PySem.Txt.sliceBy_le z none none (-1, ut) (by show (-1 : Int) ≠ 0; decide))⟩⟩
/-! ### behind it a token is out -/
def PEU (X : Cx) (e : Expr) (t : TE) : Prop := ∀ (pz : List (Addr × Obj)) (s : Shared) (τ : St) (H : Hp) (Q : VK), Inv X pz τ H s → t τ H Q → wpAny (model X.prog X.w) X.A (eval e X.env) (fun v s' => 1 ≤ s'.toks ∧ EP X pz τ Q v s') X.xe s
def PSU (X : Cx) (st : Stmt) (t : TS) : Prop := ∀ (pz : List (Addr × Obj)) (s : Shared) (τ : St) (H : Hp) (D : Ends), Inv X pz τ H s → t D τ H → wpAny (model X.prog X.w) X.A (exec st X.env) (fun f s' => 1 ≤ s'.toks ∧ SP X pz D f s') X.xe s
def PSsU (X : Cx) (st : List Stmt) (t : TS) : Prop := ∀ (pz : List (Addr × Obj)) (s : Shared) (τ : St) (H : Hp) (D : Ends), Inv X pz τ H s → t D τ H → wpAny (model X.prog X.w) X.A (execs st X.env) (fun f s' => 1 ≤ s'.toks ∧ SP X pz D f s') X.xe s
section
variable {X : Cx} {st : Stmt} {rest : List Stmt} {t u : TS}
theorem psu_set {i : Nat} {x : Str} {e : Expr} {te : TE} {pos' pos : Pos} (hN : X.N.Nodup) (hi : X.N[i]? = some x) (hx : Loc X.env.scope x) (he : PEU X e te) (sole : swapsWith e (some (.Name x pos')) pos.line X.env = pure false := by rfl)
    (loc : X.fn x = true ∨ X.env.scope.names.lookup x = some .local := by first | exact .inl rfl | exact .inr rfl | assumption) : PSU X (.Assign [.Name x pos'] e pos) (tAsg te (gName i)) := by
  intro pz s τ H D I h
  refine wpAny_Assign_Name (wpAny_mono (he pz s τ H _ I h) (fun v a1 q => ?_) fun _ _ z => z) sole
  obtain ⟨hk, y, G1, J1, r1, q1⟩ := q
  refine wpAny_mono (PySem.wpAny_toks (store_ok (Q := fun _ a2 => Inv X pz (τ.set i (some y)) G1 a2) J1 hN hi hx r1 (fun _ J2 => J2) loc)) (fun _ a2 q2 => ?_) fun _ _ z => z.2
  have hk2 : a1.toks ≤ a2.toks := q2.1
  exact ⟨by omega, _, G1, q2.2, q1⟩
theorem pss_upT (h1 : PSU X st t) (h2 : PSsT X rest u) : PSs X (st :: rest) (tSeq t u) := by
  refine ⟨fun pz s τ H D I h => ?_⟩
  refine wpAny_execs_cons (wpAny_mono (h1 pz s τ H { D with nx := u D } I h) (fun f a1 q => ?_) fun _ _ x => x)
  obtain ⟨hk, q⟩ := q
  cases f with
  | next =>
    obtain ⟨τ', H', I', q⟩ := q
    exact h2 pz a1 τ' H' D hk I' q
  | ret v => exact q
  | brk => exact q
  | cont => exact q
/-- a block that begins by storing a written text -/
theorem pssu_str {i j : Nat} {x c : Str} {cpos pos' pos : Pos} (hN : X.N.Nodup) (hi : X.N[i]? = some x) (hx : Loc X.env.scope x) (h2 : PSs X rest u)
    (sole : swapsWith (.Constant (.str c) j cpos) (some (.Name x pos')) pos.line X.env = pure false := by rfl) (loc : X.fn x = true ∨ X.env.scope.names.lookup x = some .local := by first | exact .inl rfl | exact .inr rfl | assumption) :
    PSsU X (.Assign [.Name x pos'] (.Constant (.str c) j cpos) pos :: rest) (tSeq (tAsg (tC (.str c)) (gName i)) u) := by
  intro pz s τ H D I h
  refine wpAny_execs_cons (wpAny_Assign_Name (Calls.Constant_str ?_) sole)
  refine wpAny_mono (PySem.wpAny_toks (store_ok (v := V.str c) (u := Value.str c s.toks) (Q := fun _ a2 => Inv X pz (τ.set i (some (V.str c))) H a2) (I.tok (s.toks + 1)) hN hi hx ⟨s.toks, rfl⟩ (fun _ J2 => J2) loc)) (fun _ a2 q => ?_) fun _ _ z => z.2
  have hk : s.toks + 1 ≤ a2.toks := q.1
  refine wpAny_mono (PySem.wpAny_toks (h2.run pz a2 _ H D q.2 h)) (fun f a3 q3 => ?_) fun _ _ z => z.2
  have hk3 : a2.toks ≤ a3.toks := q3.1
  exact ⟨by omega, q3.2⟩
theorem pst_set {i : Nat} {x : Str} {e : Expr} {te : TE} {pos' pos : Pos} (hN : X.N.Nodup) (hi : X.N[i]? = some x) (hx : Loc X.env.scope x) (he : PET X e te) (sole : swapsWith e (some (.Name x pos')) pos.line X.env = pure false := by rfl)
    (loc : X.fn x = true ∨ X.env.scope.names.lookup x = some .local := by first | exact .inl rfl | exact .inr rfl | assumption) : PST X (.Assign [.Name x pos'] e pos) (tAsg te (gName i)) := by
  intro pz s τ H D h0 I h
  refine wpAny_Assign_Name (thn (he pz s τ H _ h0 I h) fun v a1 ⟨y, G1, J1, r1, q1⟩ => ?_) sole
  exact store_ok J1 hN hi hx r1 (fun a2 J2 => ⟨_, G1, J2, q1⟩) loc
end
def CRU (CX : CXT) (ou : List Env) (P : Program) (w : World) (H : Hp) (u : Shared) (Q : VK) (E : XK) (r : Result) (t2 : Shared) : Prop :=
  match r with
  | .ok y => 1 ≤ t2.toks ∧ CR CX ou P w H u Q E (.ok y) t2
  | .error e => CR CX ou P w H u Q E (.error e) t2
structure FnOkU (P : Program) (w : World) (K : PySem.W.Frag) (mg : Str → Option Value) (base : Heap) (CX : CXT) (k : Nat) (f : Addr) (fd : FuncData) (ps : List Str) (sp : Sp) : Prop where
  lenU : ∀ vs H Q E, sp vs H Q E → vs.length = ps.length
  runU : ∀ (B : Around) (ou : List Env) (u : Shared) (H : Hp) (ar : Args) (us : List Value) (vs : List V) (Q : VK) (E : XK), Room k B → Env0 P w K mg base B ou u H → BindsTo u fd ar (ps.zip us) → Vals vs us → sp vs H Q E → codeAny (model P w) B (.call (.ref f) ar) (CRU CX ou P w H u Q E) u
theorem fnU_of {CX : CXT} {P : Program} {w : World} {K : PySem.W.Frag} {mg : Str → Option Value} {base : Heap} {k : Nat} {f : Addr} {nm qu : Str} {pr : Arguments} {bd : List Stmt} {sc : Scope} {dV kV doc pm cdv ct oc : Value} {an od : Option Addr}
    {osl : Array (Option Value)} {N ps : List Str} {sp : Sp} (lk : K.lookup f = some ⟨oc, od, .func (PySem.W.fnOf nm qu pr bd sc dV kV doc pm an cdv ct), osl⟩) (hcd : PySem.W.codeIn K cdv qu = true) (S : FnScope N ps sc)
    (ln : ∀ vs H Q E, sp vs H Q E → vs.length = ps.length)
    (hb : ∀ (B : Around) (ou : List Env) (u : Shared) (H : Hp) (vs : List V) (Q : VK) (E : XK), Room k (B.deeper (envOfC qu sc u.heap.objs.size f cdv)) → sp vs H Q E →
      ∃ t, PSsU (cxOf CX P w K mg base N qu sc f cdv B ou u H E) bd t ∧ t { nx := fun _ G => Q .non G, rt := Q } (start N vs) H) :
    FnOkU P w K mg base CX (k + 1) f (PySem.W.fnOf nm qu pr bd sc dV kV doc pm an cdv ct) ps sp := by
  refine ⟨ln, fun B ou u H ar us vs Q E rm e0 bi rv sole => ?_⟩
  have lv := ln _ _ _ _ sole
  have XK : K.In u.heap := e0.mod.kin.keeps fun b o e => (e0.bs b o e).1
  have NL : u.heap.NoLimit := e0.mod.nolimit.keeps fun b o e => (e0.bs b o e).1
  have kd : ∀ y ∈ ps.zip us, sc.names.lookup y.1 = some .local ∨ (sc.names.lookup y.1 = some .cell ∧ ((cellsFrom (u.heap.objs.size + 1) sc.names []).lookup y.1).isSome = true) := fun ⟨n, v⟩ hy => (S.par n (List.of_mem_zip hy).1).elim .inl fun q => .inr ⟨q, PySem.W.cellsFrom_some _ _ _ (.inl q)⟩
  refine codeAny_call_function rm.depth (XK _ _ lk) rfl S.co S.gen rfl (PySem.W.codeRec_of XK hcd) (bi _ _ _ _ ?_)
  refine wpAny_newFunctionEnv_cells S.kind kd fun en he t1 xc => ?_
  subst he
  refine ⟨NL.keeps xc.toInCall.keep, codeAny_func ?_⟩
  obtain ⟨t, ht, hq⟩ := hb B ou u H vs Q E (rm.deeper _) sole
  have J0 : Inv (cxOf CX P w K mg base N qu sc f cdv B ou u H E) [] (start N vs) H t1 := inv_start S rm.hd e0 lv rv xc
  refine wpAny_mono (ht [] t1 (start N vs) H _ J0 hq) (fun fl t2 z0 => ?_) fun _ _ z => z
  obtain ⟨kt, z⟩ := z0
  have done : ∀ {τ2 : St} {G2 : Hp} {v : V} {y : Value}, Inv (cxOf CX P w K mg base N qu sc f cdv B ou u H E) [] τ2 G2 t2 → RelV v y → Q v G2 → CRU CX ou P w H u Q E (.ok (.ret y)) t2 := fun {τ2 G2 v y} J rl q => ⟨kt, v, G2, J.os, J.bare, J.base, J.hok, rl, q⟩
  match fl, z with
  | .ret y, ⟨v, τ2, G2, J, rl, q⟩ => exact done J rl q
  | .next, ⟨τ2, G2, J, q⟩ => exact done (v := V.non) (y := Value.none) J rfl q
  | .brk, ⟨_, _, _, q⟩ => exact q.elim
  | .cont, ⟨_, _, _, q⟩ => exact q.elim
theorem PSsU.nox {X : Cx} {st : List Stmt} {t : TS} (h : PSsU X.nox st t) : PSsU X st t := fun pz s τ H D I hw =>
  wpAny_mono (h pz s τ H D (I.wish _) hw) (fun _ _ q => ⟨q.1, q.2.unwish⟩) fun _ _ z => False.elim z
theorem FnOkU.toOk {P : Program} {w : World} {K : PySem.W.Frag} {mg : Str → Option Value} {base : Heap} {CX : CXT} {k : Nat} {f : Addr} {fd : FuncData} {ps : List Str} {sp : Sp} (F : FnOkU P w K mg base CX k f fd ps sp) : FnOk P w K mg base CX k f fd ps sp :=
  ⟨F.lenU, fun A ou s H ar us vs Q E r e b v h => codeAny_mono (F.runU A ou s H ar us vs Q E r e b v h) fun r _ z => match r, z with | .ok _, z => z.2 | .error _, z => z⟩
theorem FnOkU.mono {P : Program} {w : World} {K : PySem.W.Frag} {mg : Str → Option Value} {base : Heap} {CX : CXT} {j k : Nat} {f : Addr} {fd : FuncData} {ps : List Str} {sp : Sp} (F : FnOkU P w K mg base CX j f fd ps sp) (l : j ≤ k) : FnOkU P w K mg base CX k f fd ps sp :=
  ⟨F.lenU, fun A ou s H ar us vs Q E r => F.runU A ou s H ar us vs Q E (r.mono l)⟩
theorem Fun.okU {P : Program} {w : World} {K : PySem.W.Frag} {mg : Str → Option Value} {base : Heap} {x qu : Str} {st : Stmt} {f : Addr} {fd : FuncData} {N ps : List Str} {k : Nat} {sp : Sp} (F : Fun K x qu st f fd) (S : FnScope N ps (defScope st)) (ln : ∀ vs H Q E, sp vs H Q E → vs.length = ps.length)
    (hb : ∀ (cdv : Value) (B : Around) (ou : List Env) (u : Shared) (H : Hp) (vs : List V) (Q : VK) (E : XK), Room k (B.deeper (envOfC qu (defScope st) u.heap.objs.size f cdv)) → sp vs H Q E →
      ∃ t, PSsU (cxOf CX0 P w K mg base N qu (defScope st) f cdv B ou u H E).nox (defBody st) t ∧ t { nx := fun _ G => Q .non G, rt := Q } (start N vs) H) : FnOkU P w K mg base CX0 (k + 1) f fd ps sp := by
  obtain ⟨oc, od, kV, doc, pm, an, cdv, ct, osl, rfl, lk, hc⟩ := F.ex
  refine fnU_of lk hc S ln fun B ou u H vs Q E rm sole => ?_
  obtain ⟨t, h, q⟩ := hb cdv B ou u H vs Q E rm sole
  exact ⟨t, h.nox, q⟩
section
variable {X : Cx} {CX : CXT} {k : Nat} {f : Addr} {fd : FuncData} {ps : List Str} {sp : Sp} {dvs : List V} {ds : List Value} {E : XK} {x : Str} {p pos : Pos} {e : Expr} {es : List Expr} {t : TA}
theorem runU_fn {pz : List (Addr × Obj)} {τ : St} {H : Hp} {u0 : Shared} {Q : VK} {us : List Value} {vs : List V} (F : FnOkU X.prog X.w X.K X.mg X.base CX k f fd ps sp) (hr : Room k X.A) (hb : Binds X.K fd ps ds) (hd : Vals dvs ds) (hx : Passes CX X E)
    (I : Inv X pz τ H u0) (r : Vals vs us) (h : sp (vs ++ dvs) H Q E) : wpAny (model X.prog X.w) X.A (call (.ref f) us) (fun v t1 => 1 ≤ t1.toks ∧ EP X pz τ Q v t1) X.xe u0 := by
  have ra : Vals (vs ++ dvs) (us ++ ds) := r.append hd
  have la : (us ++ ds).length = ps.length := ra.length.symm.trans (F.lenU _ _ _ _ h)
  refine wpAny_call (codeAny_mono (F.runU X.A X.stack u0 H ⟨us, []⟩ (us ++ ds) (vs ++ dvs) Q E hr I.env0 (hb u0 us I.kIn la) ra h) fun r1 t1 z => ?_)
  match r1, z with
  | .error er, z => exact hx pz τ H u0 er t1 I z
  | .ok (.ret y), ⟨g, z⟩ => exact ⟨g, I.after z⟩
  | .ok .next, ⟨_, z⟩ => exact z.elim
  | .ok .brk, ⟨_, z⟩ => exact z.elim
  | .ok .cont, ⟨_, z⟩ => exact z.elim
theorem pe_callU (F : FnOkU X.prog X.w X.K X.mg X.base CX k f fd ps sp) (hr : Room k X.A) (hg : Gl X x) (hm : X.mg x = some (.ref f)) (hk : PySem.W.keepIn X.K (.ref f) = true) (hb : Binds X.K fd ps ds) (hd : Vals dvs ds) (hx : Passes CX X E)
    (ha : PA X (e :: es) t) (nodb : (x == ("__debug__" : Str)) = false := by decide) (he : starEach (e :: es) X.env = (false, eval e X.env) :: starEach es X.env := by rfl) (plain : (backTo pos (starEach es X.env)).any (·.1) = false := by rfl) :
    PEU X (.Call (.Name x p) (e :: es) [] pos) (tCall sp dvs E t) := by
  intro pz u0 τ H Q I h
  refine wpAny_Call_Name_kw (ld_glob I hg hm (PySem.W.callWith_K (h₀ := X.base) I.ok.mod.kin hk (thn (ha.run pos pz u0 τ H _ I h) fun us t1 z => ?_) he plain) nodb)
  obtain ⟨vs, G1, J1, r, q⟩ := z
  exact ⟨J1.kIn, runU_fn F hr hb hd hx J1 r q⟩
end
theorem PAT.of {X : Cx} {es : List Expr} {ta : TA} (h : PA X es ta) : PAT X es ta := fun ps pz u0 τ G Q _ I q => h.run ps pz u0 τ G Q I q
/-- two names set at once to two values, a token being out -/
theorem pst_par {X : Cx} {i j : Nat} {x y : Str} {a b : Expr} {ta : TA} {px py pt pos : Pos} {kt k2 pt2} (calm : X.calm = true) (dis : X.N.Nodup) (ei : X.N[i]? = some x) (ej : X.N[j]? = some y) (ne : i ≠ j)
    (kx : X.env.scope.names.lookup x = some .local) (ky : X.env.scope.names.lookup y = some .local) (both : PAT X [a, b] ta) (sw : swappedStores [.Tuple [.Name x px, .Name y py] kt pt] (.Tuple [a, b] k2 pt2) X.env = pure (some [x, y]))
    (so : swapsWithSole [.Tuple [.Name x px, .Name y py] kt pt] (.Tuple [a, b] k2 pt2) pos.line X.env = pure false := by rfl) : PST X (.Assign [.Tuple [.Name x px, .Name y py] kt pt] (.Tuple [a, b] k2 pt2) pos) (tPar i j ta) := by
  intro pz u0 τ G D one I h
  rw [exec_Assign_arm]; refine wpAny_bind (wpAny_standAt ?_); rw [so]; refine wpAny_bind (wpAny_pure ?_); rw [if_neg (by decide)]
  refine wpAny_bind (Tuple_ (thn (both _ pz u0 τ G _ one I h) fun us a1 ⟨vs, G1, J1, r1, v, w, ev, q1⟩ => ?_))
  subst ev
  obtain ⟨m, n, rfl, rm, rn⟩ : ∃ m n, us = [m, n] ∧ RelV v m ∧ RelV w n := by cases r1 with | cons p q => cases q with | cons p' q' => cases q'; exact ⟨_, _, rfl, p, p'⟩
  refine wpAny_newObj_type ?_ (by show 2 ≤ sizeLine; decide)
  have J2 : Inv X pz τ G1 { a1 with heap := a1.heap.push { cls := .type "tuple", data := .seq [m, n].toArray } } := J1.kept (t' := a1.toks) fun d o e => Heap.get?_push_of_some _ e
  rw [sw]; refine wpAny_bind (wpAny_pure ?_)
  show wpAny (model X.prog X.w) X.A (do rule "assign.swapped-stores"; let its ← unpackItems (.ref a1.heap.objs.size) 2 none; assignInOrder [fun v => bindName X.env y v, fun v => bindName X.env x v] its.reverse; pure Flow.next) _ _ _
  refine wpAny_bind (wpAny_rule (wpAny_bind (unpackItems_tuple (items := #[m, n]) (I.ok.hd calm) (IsTup.new a1.heap _) fun hp kp => ?_)))
  have J3 := J2.kept (h' := hp) (t' := a1.toks) fun d o e => kp d o (Nat.ne_of_lt (Heap.lt_size e)) e
  show wpAny _ _ (assignInOrder [fun v => bindName X.env y v, fun v => bindName X.env x v] [n, m] >>= fun _ => pure Flow.next) _ _ _
  refine wpAny_bind (assignInOrder_cons (wpAny_bindName (store_ok J3 dis ej (.inl ky) rn (fun a2 J4 => ?_) (.inr ky))))
  refine assignInOrder_cons (wpAny_bindName (store_ok J4 dis ei (.inl kx) rm (fun a3 J5 => assignInOrder_nil (wpAny_pure ?_)) (.inr kx)))
  rw [List.set_comm _ _ (Ne.symm ne)] at J5; exact ⟨_, G1, J5, q1⟩
end L2
namespace GZ
open PySem PySem.Spec PyProof.Rows L2
/-! ### == and != of things that read as data, whatever their texts -/
theorem op_nePl {X : Cx} (hu : X.A.units + 64 < cLine) : OpR X (compareOp .NotEq) (fun x y H Q => ∃ d e, Dp X.K H x d ∧ Dp X.K H y e ∧ d.plain = true ∧ e.plain = true ∧ d.depth ≤ 64 ∧ Q (.bl (!PyData.eqv d e)) H) := by
  intro pins s σ H x y v u Q I rx ry h
  obtain ⟨d, e, hd, he, sd, se, dd, q⟩ := h
  obtain ⟨as, r1⟩ := Dp.reads I d x v hd rx
  obtain ⟨bs, r2⟩ := Dp.reads I e y u he ry
  refine SeqAt.ne_plain r1 r2 sd se ?_ ⟨.bl _, H, I, rfl, q⟩
  have := Nat.min_le_left d.depth e.depth
  omega
theorem op_eqPl {X : Cx} (hu : X.A.units + 64 < cLine) : OpR X (compareOp .Eq) (fun x y H Q => ∃ d e, Dp X.K H x d ∧ Dp X.K H y e ∧ d.plain = true ∧ e.plain = true ∧ d.depth ≤ 64 ∧ Q (.bl (PyData.eqv d e)) H) := by
  intro pins s σ H x y v u Q I rx ry h
  obtain ⟨d, e, hd, he, sd, se, dd, q⟩ := h
  obtain ⟨as, r1⟩ := Dp.reads I d x v hd rx
  obtain ⟨bs, r2⟩ := Dp.reads I e y u he ry
  refine SeqAt.eq_plain r1 r2 sd se ?_ ⟨.bl _, H, I, rfl, q⟩
  have := Nat.min_le_left d.depth e.depth
  omega
theorem pl_all : ∀ ds : List PyData, (∀ d ∈ ds, d.plain = true ∧ d.depth ≤ 50) → PyData.plainAll ds = true ∧ PyData.depthAll ds ≤ 50
  | [], _ => ⟨rfl, by simp [PyData.depthAll]⟩
  | d :: ds, h => by
    obtain ⟨a, b⟩ := pl_all ds fun e he => h e (List.mem_cons_of_mem _ he)
    obtain ⟨a1, b1⟩ := h d (List.mem_cons_self ..)
    refine ⟨by rw [PyData.plainAll, a1, a]; rfl, ?_⟩
    simp only [PyData.depthAll]
    omega
theorem pl_list {ds : List PyData} (h : ∀ d ∈ ds, d.plain = true ∧ d.depth ≤ 50) : (PyData.list ds).plain = true ∧ (PyData.list ds).depth ≤ 64 := by
  obtain ⟨a, b⟩ := pl_all ds h
  refine ⟨a, ?_⟩
  simp only [PyData.depth]
  omega
section
variable {P : Program} {w : World} {K : PySem.W.Frag} {mg : Str → Option Value} {base : Heap}
variable {C : Addr} {za : Nat → Addr} {zl : Nat → FuncData} {t21 : Tok} {E_BadText I_BadText E_BadForm E_BadRow E_Unfit : Addr}
def spForm : Sp := fun vs H Q _ => ∃ (b : Addr) (c : Int), vs = [.ref b] ∧ BoxAt c H b ∧ c ≤ 900000000 ∧
  ∀ (p : Addr) (sc tl : Nat) (H' : Hp), H' p = some (.tup [.int (sc : Int), .int (tl : Int)]) → 2 ≤ sc → sc ≤ 8 → 1 ≤ tl → tl ≤ 24 → BoxAt (c + 5) H' b → Keep b H H' → Q (.ref p) H'
theorem ok__law_form (B : Bl mg) (L : LL K mg C za zl t21 E_BadText I_BadText E_BadForm E_BadRow E_Unfit) : FnOk P w K mg base CX0 2 (za 10) (zl 10) ["_law_box_here"] spForm := by
  have G__law_take : FnOk P w K mg base CX0 1 (za 7) (zl 7) ["_law_box_here", "_law_size"] (spTake 1) := (ok_take L.F__law_take L.b__law_take L.m__law_take B 1).mono (by decide)
  refine L.F__law_form.ok sc__law_form (fun vs H Q E h => ?_) (fun cdv A outer s H vs Q E hr h => ?_)
  · obtain ⟨b, c, rfl, _⟩ := h
    rfl
  obtain ⟨b, c, rfl, hB, hc, q⟩ := h
  refine ⟨_, (pss_cons (ps_set (i := 1) sc__law_form.nd rfl (.inl rfl) (pe_lst (pa_cons (pe_tup (pa_cons (pe_op op_add pe_int (pe_call G__law_take hr (by rfl) L.m__law_take L.F__law_take.kp L.b__law_take .nil pass0 (pa_cons (pv 0) (pa_cons pe_int pa_nil)))) (pa_cons (pe_op op_add pe_int (pe_call G__law_take hr (by rfl) L.m__law_take L.F__law_take.kp L.b__law_take .nil pass0 (pa_cons (pv 0) (pa_cons pe_int pa_nil)))) pa_nil))) (pa_cons (pe_tup (pa_cons (pe_op op_add pe_int (pe_call G__law_take hr (by rfl) L.m__law_take L.F__law_take.kp L.b__law_take .nil pass0 (pa_cons (pv 0) (pa_cons pe_int pa_nil)))) (pa_cons (pe_op op_add pe_int (pe_call G__law_take hr (by rfl) L.m__law_take L.F__law_take.kp L.b__law_take .nil pass0 (pa_cons (pv 0) (pa_cons pe_int pa_nil)))) pa_nil))) (pa_cons (pe_tup (pa_cons pe_int (pa_cons pe_int pa_nil))) pa_nil)))))
    (pss_one (ps_ret (pe_ix ix_list (pv 1) (pe_ix ix_list (pe_lst (pa_cons pe_int (pa_cons pe_int (pa_cons pe_int (pa_cons pe_int (pa_cons pe_int (pa_cons pe_int pa_nil))))))) (pe_call G__law_take hr (by rfl) L.m__law_take L.F__law_take.kp L.b__law_take .nil pass0 (pa_cons (pv 0) (pa_cons pe_int pa_nil))) (fun _ _ => rfl)) (fun _ _ => rfl))))), ?_⟩
  refine ⟨_, rfl, b, _, _, rfl, hB, (by decide), (by decide), (by decide), (by omega), (by decide), fun r1 H1 a1 a1' B1 k1 => ?_⟩
  replace B1 := bx1 B1
  refine ⟨_, _, rfl, rfl, _, rfl, b, _, _, rfl, B1, (by decide), (by decide), (by decide), (by omega), (by decide), fun r2 H2 a2 a2' B2 k2 => ?_⟩
  replace B2 := bx1 B2
  refine ⟨_, _, rfl, rfl, (by show 2 ≤ sizeLine; decide), fun t1 n1 => ?_⟩
  have n1b : t1 ≠ b := (B2.ne n1).symm
  refine ⟨_, rfl, b, _, _, rfl, B2.same (same_upd n1), (by decide), (by decide), (by decide), (by omega), (by decide), fun r3 H3 a3 a3' B3 k3 => ?_⟩
  replace B3 := bx1 B3
  have e1 := k3 _ _ upd_same n1b
  refine ⟨_, _, rfl, rfl, _, rfl, b, _, _, rfl, B3, (by decide), (by decide), (by decide), (by omega), (by decide), fun r4 H4 a4 a4' B4 k4 => ?_⟩
  replace B4 := bx1 B4
  have e1' := k4 _ _ e1 n1b
  refine ⟨_, _, rfl, rfl, (by show 2 ≤ sizeLine; decide), fun t2 n2 => ?_⟩
  refine ⟨(by show 2 ≤ sizeLine; decide), fun t3 n3 => ?_⟩
  refine ⟨(by show 3 ≤ sizeLine; decide), fun so nso => ?_⟩
  refine ⟨_, rfl, (by show 6 ≤ sizeLine; decide), fun ix nix => ?_⟩
  have s1 := same_upd (o := .tup [.int (2 + r3), .int (1 + r4)]) n2
  have s2 := same_upd (o := .tup [.int 8, .int 23]) n3
  have s3 := same_upd (o := .lst [.ref t1, .ref t2, .ref t3]) nso
  have s4 := same_upd (o := .lst [.int 0, .int 0, .int 1, .int 1, .int 1, .int 2]) nix
  have B5 := (((B4.same s1).same s2).same s3).same s4
  have n2b : t2 ≠ b := (B4.ne n2).symm
  have n3b : t3 ≠ b := ((B4.same s1).ne n3).symm
  have nsb : so ≠ b := (((B4.same s1).same s2).ne nso).symm
  have nxb : ix ≠ b := ((((B4.same s1).same s2).same s3).ne nix).symm
  refine ⟨_, rfl, b, _, _, rfl, B5, (by decide), (by decide), (by decide), (by omega), (by decide), fun r5 H5 a5 a5' B6 k5 => ?_⟩
  replace B6 := bx1 B6
  have ex := k5 _ _ upd_same nxb
  have es := k5 _ _ (s4 _ _ upd_same) nsb
  have f1 := k5 _ _ (s4 _ _ (s3 _ _ (s2 _ _ (s1 _ _ e1')))) n1b
  have f2 := k5 _ _ (s4 _ _ (s3 _ _ (s2 _ _ upd_same))) n2b
  have f3 := k5 _ _ (s4 _ _ (s3 _ _ upd_same)) n3b
  have kk : Keep b H H5 := (((k1.trans k2).trans ((Keep.new n1).trans k3)).trans k4).trans ((Keep.ofSame (s1.trans (s2.trans (s3.trans s4)))).trans k5)
  obtain ⟨j, hj, hj3⟩ : ∃ j : Nat, atI ([.int 0, .int 0, .int 1, .int 1, .int 1, .int 2] : List V) r5 = some (.int (j : Int)) ∧ j < 3 := by
    have c3 : r5 = 0 ∨ r5 = 1 ∨ r5 = 2 ∨ r5 = 3 ∨ r5 = 4 ∨ r5 = 5 := by omega
    rcases c3 with z | z | z | z | z | z <;> subst z
    · exact ⟨0, rfl, by decide⟩
    · exact ⟨0, rfl, by decide⟩
    · exact ⟨1, rfl, by decide⟩
    · exact ⟨1, rfl, by decide⟩
    · exact ⟨1, rfl, by decide⟩
    · exact ⟨2, rfl, by decide⟩
  obtain ⟨p, sc, tl, hp, ep, b1, b2, b3, b4⟩ : ∃ (p : Addr) (sc tl : Nat), atI ([.ref t1, .ref t2, .ref t3] : List V) (j : Int) = some (.ref p) ∧ H5 p = some (.tup [.int (sc : Int), .int (tl : Int)]) ∧ 2 ≤ sc ∧ sc ≤ 8 ∧ 1 ≤ tl ∧ tl ≤ 24 := by
    match j, hj3 with
    | 0, _ => exact ⟨t1, (2 + r1).toNat, (1 + r2).toNat, rfl, by rw [Int.toNat_of_nonneg (by omega), Int.toNat_of_nonneg (by omega)]; exact f1, by omega, by omega, by omega, by omega⟩
    | 1, _ => exact ⟨t2, (2 + r3).toNat, (1 + r4).toNat, rfl, by rw [Int.toNat_of_nonneg (by omega), Int.toNat_of_nonneg (by omega)]; exact f2, by omega, by omega, by omega, by omega⟩
    | 2, _ => exact ⟨t3, 8, 23, rfl, f3, by omega, by omega, by omega, by omega⟩
  refine ⟨ix, _, _, _, rfl, rfl, SqL.of ex, hj, ?_⟩
  refine ⟨so, _, _, _, rfl, rfl, SqL.of es, hp, ?_⟩
  exact q p sc tl H5 ep b1 b2 b3 b4 (B6.mono (by omega)) kk
theorem bx2 {c : Int} {H : Hp} {b : Addr} (h : BoxAt (c + 2 ^ (2 - 1)) H b) : BoxAt (c + 2) H b := h
def spWord : Sp := fun vs H Q _ => ∃ (b : Addr) (sc tl : Nat) (c : Int), vs = [.ref b, .int (sc : Int), .int (tl : Int)] ∧ 2 ≤ sc ∧ sc ≤ 8 ∧ 1 ≤ tl ∧ tl ≤ 24 ∧ BoxAt c H b ∧ c ≤ 900000000 ∧
  ∀ (r : Int) (H' : Hp), 0 ≤ r → r < 2 ^ (1 + sc + tl) → BoxAt (c + 20) H' b → Keep b H H' → Q (.int r) H'
theorem all8 {a0 a1 a2 a3 a4 a5 a6 a7 M : Int} {j : Nat} (hj : j < 8) (h0 : a0 < M) (h1 : a1 < M) (h2 : a2 < M) (h3 : a3 < M) (h4 : a4 < M) (h5 : a5 < M) (h6 : a6 < M) (h7 : a7 < M) :
    ∃ v : Int, atI ([.int a0, .int a1, .int a2, .int a3, .int a4, .int a5, .int a6, .int a7] : List V) (j : Int) = some (.int v) ∧ v < M := by
  match j, hj with
  | 0, _ => exact ⟨a0, rfl, h0⟩
  | 1, _ => exact ⟨a1, rfl, h1⟩
  | 2, _ => exact ⟨a2, rfl, h2⟩
  | 3, _ => exact ⟨a3, rfl, h3⟩
  | 4, _ => exact ⟨a4, rfl, h4⟩
  | 5, _ => exact ⟨a5, rfl, h5⟩
  | 6, _ => exact ⟨a6, rfl, h6⟩
  | 7, _ => exact ⟨a7, rfl, h7⟩
theorem at12 {r : Int} (h0 : 0 ≤ r) (h1 : r < 12) : ∃ j : Nat, atI ([.int 0, .int 0, .int 0, .int 0, .int 1, .int 2, .int 3, .int 4, .int 5, .int 6, .int 6, .int 7] : List V) r = some (.int (j : Int)) ∧ j < 8 := by
  obtain ⟨n, rfl⟩ : ∃ n : Nat, r = (n : Int) := ⟨r.toNat, by omega⟩
  have hn : n < 12 := by omega
  match n, hn with
  | 0, _ => exact ⟨0, rfl, by decide⟩
  | 1, _ => exact ⟨0, rfl, by decide⟩
  | 2, _ => exact ⟨0, rfl, by decide⟩
  | 3, _ => exact ⟨0, rfl, by decide⟩
  | 4, _ => exact ⟨1, rfl, by decide⟩
  | 5, _ => exact ⟨2, rfl, by decide⟩
  | 6, _ => exact ⟨3, rfl, by decide⟩
  | 7, _ => exact ⟨4, rfl, by decide⟩
  | 8, _ => exact ⟨5, rfl, by decide⟩
  | 9, _ => exact ⟨6, rfl, by decide⟩
  | 10, _ => exact ⟨6, rfl, by decide⟩
  | 11, _ => exact ⟨7, rfl, by decide⟩
theorem ok__law_word (B : Bl mg) (L : LL K mg C za zl t21 E_BadText I_BadText E_BadForm E_BadRow E_Unfit) : FnOk P w K mg base CX0 3 (za 11) (zl 11) ["_law_box_here", "_law_scale", "_law_tail"] spWord := by
  have G__law_take : FnOk P w K mg base CX0 2 (za 7) (zl 7) ["_law_box_here", "_law_size"] (spTake 2) := (ok_take L.F__law_take L.b__law_take L.m__law_take B 2).mono (by decide)
  refine L.F__law_word.ok sc__law_word (fun vs H Q E h => ?_) (fun cdv A outer s H vs Q E hr h => ?_)
  · obtain ⟨b, sc, tl, c, rfl, _⟩ := h
    rfl
  obtain ⟨b, sc, tl, c, rfl, h1, h2, h3, h4, hB, hc, q⟩ := h
  refine ⟨_, (pss_cons (ps_set (i := 3) sc__law_word.nd rfl (.inl rfl) (pe_op op_add (pe_op op_mul pe_int pe_int) (pe_op op_shlN (pe_op op_sub (pe_op op_oneShl pe_int (pv 1)) pe_int) (pv 2))))
    (pss_cons (ps_set (i := 4) sc__law_word.nd rfl (.inl rfl) (pe_lst (pa_cons (pe_call G__law_take hr (by rfl) L.m__law_take L.F__law_take.kp L.b__law_take .nil pass0 (pa_cons (pv 0) (pa_cons (pv 3) pa_nil))) (pa_cons (pe_call G__law_take hr (by rfl) L.m__law_take L.F__law_take.kp L.b__law_take .nil pass0 (pa_cons (pv 0) (pa_cons pe_int pa_nil))) (pa_cons (pe_op op_add (pe_op op_sub (pe_op op_oneShl pe_int (pv 2)) pe_int) (pe_call G__law_take hr (by rfl) L.m__law_take L.F__law_take.kp L.b__law_take .nil pass0 (pa_cons (pv 0) (pa_cons pe_int pa_nil)))) (pa_cons (pe_op op_sub (pe_op op_sub (pv 3) pe_int) (pe_call G__law_take hr (by rfl) L.m__law_take L.F__law_take.kp L.b__law_take .nil pass0 (pa_cons (pv 0) (pa_cons pe_int pa_nil)))) pa_nil))))))
    (pss_cons (ps_set (i := 4) sc__law_word.nd rfl (.inl rfl) (pe_op op_cat (pv 4) (pe_lst (pa_cons (pv 3) (pa_cons (pe_op op_add (pe_op op_add (pv 3) pe_int) (pe_call G__law_take hr (by rfl) L.m__law_take L.F__law_take.kp L.b__law_take .nil pass0 (pa_cons (pv 0) (pa_cons (pe_orT (pe_op op_sub (pe_op op_oneShl pe_int (pv 2)) pe_int) (pe_one pe_int)) pa_nil)))) (pa_cons (pe_op op_shlN (pe_call G__law_take hr (by rfl) L.m__law_take L.F__law_take.kp L.b__law_take .nil pass0 (pa_cons (pv 0) (pa_cons (pe_op op_oneShl pe_int (pv 1)) pa_nil))) (pv 2)) (pa_cons pe_int pa_nil)))))))
    (pss_cons (ps_set (i := 5) sc__law_word.nd rfl (.inl rfl) (pe_ix ix_list (pe_lst (pa_cons pe_int (pa_cons pe_int (pa_cons pe_int (pa_cons pe_int (pa_cons pe_int (pa_cons pe_int (pa_cons pe_int (pa_cons pe_int (pa_cons pe_int (pa_cons pe_int (pa_cons pe_int (pa_cons pe_int pa_nil))))))))))))) (pe_call G__law_take hr (by rfl) L.m__law_take L.F__law_take.kp L.b__law_take .nil pass0 (pa_cons (pv 0) (pa_cons pe_int pa_nil))) (fun _ _ => rfl)))
    (pss_cons (ps_set (i := 6) sc__law_word.nd rfl (.inl rfl) (pe_ix ix_list (pv 4) (pv 5) (fun _ _ => rfl)))
    (pss_cons (ps_if (PW.pt (pw_and (pt_cmpR op_eq (pv 5) pe_int (nomark _)) (pw_and1 (pt_cmpR op_eq (pe_call G__law_take hr (by rfl) L.m__law_take L.F__law_take.kp L.b__law_take .nil pass0 (pa_cons (pv 0) (pa_cons pe_int pa_nil))) pe_int (nomark _))))) (pss_one (ps_set (i := 6) sc__law_word.nd rfl (.inl rfl) (pe_op op_orL (pe_op op_shlN (pe_op op_mod (pe_op op_add (pe_op op_sub (pe_op op_oneShl pe_int (pe_op op_sub (pv 1) pe_int)) pe_int) (pe_call G__law_take hr (by rfl) L.m__law_take L.F__law_take.kp L.b__law_take .nil pass0 (pa_cons (pv 0) (pa_cons pe_int pa_nil)))) (pe_op op_sub (pe_op op_oneShl pe_int (pv 1)) pe_int)) (pv 2)) (pe_op op_andM (pv 6) (pe_op op_sub (pe_op op_oneShl pe_int (pv 2)) pe_int))))) pss_nil)
    (pss_one (ps_ret (pe_op op_add (pe_op op_shlN (pe_call G__law_take hr (by rfl) L.m__law_take L.F__law_take.kp L.b__law_take .nil pass0 (pa_cons (pv 0) (pa_cons pe_int pa_nil))) (pe_op op_add (pv 1) (pv 2))) (pe_callB (call_max2 rfl) (by rfl) B.max boot_max (pa_cons pe_int (pa_cons (pv 6) pa_nil)))))))))))), ?_⟩
  have pS := GM.pow_pos' sc
  have pT := GM.pow_pos' tl
  have pS4 : (2 : Int) ^ 2 ≤ 2 ^ sc := GM.pow_le' h1
  have pS8 : (2 : Int) ^ sc ≤ 2 ^ 8 := GM.pow_le' h2
  have pT2 : (2 : Int) ^ 1 ≤ 2 ^ tl := GM.pow_le' h3
  have pT24 : (2 : Int) ^ tl ≤ 2 ^ 24 := GM.pow_le' h4
  have pST : (2 : Int) ^ (sc + tl) = 2 ^ sc * 2 ^ tl := GM.pow_add' sc tl
  have p1 : (2 : Int) ^ (1 + sc + tl) = 2 ^ (sc + tl) * 2 := by rw [← GM.pow_s]; congr 1; omega
  have p4T : 4 * 2 ^ tl ≤ (2 : Int) ^ (sc + tl) := by
    rw [pST]
    exact Int.mul_le_mul_of_nonneg_right pS4 (by omega)
  have p8T : (2 : Int) ^ (sc + tl) ≤ 256 * 2 ^ tl := by
    rw [pST]
    exact Int.mul_le_mul_of_nonneg_right pS8 (by omega)
  refine ⟨_, _, rfl, rfl, .inl ⟨by decide, by decide⟩, _, rfl, sc, rfl, rfl, by omega, _, _, rfl, rfl, _, rfl, _, tl, rfl, rfl, shl_ok (n := 9) (by omega) (by omega), _, _, rfl, rfl, ?_⟩
  refine gI (show (2 * 0 + (2 ^ sc - 1) * 2 ^ tl : Int) = (2 ^ sc - 1) * 2 ^ tl from by rw [Int.mul_zero, Int.zero_add]) ?_
  obtain ⟨TP, eT, hT⟩ : ∃ TP : Int, ((2 ^ sc - 1) * 2 ^ tl : Int) = TP ∧ TP = 2 ^ (sc + tl) - 2 ^ tl := by
    refine ⟨_, rfl, ?_⟩
    rw [pST, Int.sub_mul]
    omega
  dsimp only
  rw [eT]
  have e14 : (10000000 : Int) ^ 2 = 100000000000000 := by decide
  refine ⟨_, rfl, _, rfl, b, _, _, rfl, hB, (by omega), (by rw [e14]; omega), (by omega), (by omega), (by decide), fun r1 H1 u1 v1 B1 k1 => ?_⟩
  replace B1 := bx2 B1
  refine ⟨_, rfl, b, _, _, rfl, B1, (by decide), (by decide), (by decide), (by omega), (by decide), fun r2 H2 u2 v2 B2 k2 => ?_⟩
  replace B2 := bx2 B2
  refine ⟨_, rfl, tl, rfl, rfl, by omega, _, _, rfl, rfl, _, rfl, b, _, _, rfl, B2, (by decide), (by decide), (by decide), (by omega), (by decide), fun r3 H3 u3 v3 B3 k3 => ?_⟩
  replace B3 := bx2 B3
  refine ⟨_, _, rfl, rfl, _, rfl, _, _, rfl, rfl, _, rfl, b, _, _, rfl, B3, (by decide), (by decide), (by decide), (by omega), (by decide), fun r4 H4 u4 v4 B4 k4 => ?_⟩
  replace B4 := bx2 B4
  refine ⟨_, _, rfl, rfl, (by show 4 ≤ sizeLine; decide), fun s1 n1 => ?_⟩
  have n1b : s1 ≠ b := (B4.ne n1).symm
  have B4' := B4.same (same_upd (o := .lst [.int r1, .int r2, .int (2 ^ tl - 2 + r3), .int (TP - 1 - r4)]) n1)
  refine ⟨_, rfl, _, rfl, _, rfl, _, _, rfl, rfl, _, rfl, _, rfl, tl, rfl, rfl, by omega, _, _, rfl, rfl, true, ?_, iteT ?_⟩
  · show true = ((2 ^ tl - 1 : Int) != 0)
    rw [eq_comm, bne_iff_ne]
    omega
  refine ⟨b, _, _, rfl, B4', (by omega), (by rw [e14]; omega), (by omega), (by omega), (by decide), fun r5 H5 u5 v5 B5 k5 => ?_⟩
  replace B5 := bx2 B5
  have es5 := k5 _ _ upd_same n1b
  refine ⟨_, _, rfl, rfl, _, rfl, _, rfl, sc, rfl, rfl, by omega, b, _, _, rfl, B5, (by omega), (by rw [e14]; omega), (by omega), (by omega), (by decide), fun r6 H6 u6 v6 B6 k6 => ?_⟩
  replace B6 := bx2 B6
  have es6 := k6 _ _ es5 n1b
  refine ⟨_, rfl, _, tl, rfl, rfl, shl_ok (n := 9) (by omega) (by omega), (by show 4 ≤ sizeLine; decide), fun s2 n2 => ?_⟩
  have sm2 := same_upd (o := .lst [.int TP, .int (TP + 1 + r5), .int (r6 * 2 ^ tl), .int 0]) n2
  refine ⟨s1, s2, _, _, rfl, rfl, sm2 _ _ es6, upd_same, (by show 4 + 4 ≤ sizeLine; decide), fun s3 n3 => ?_⟩
  have sm3 := same_upd (o := .lst [.int r1, .int r2, .int (2 ^ tl - 2 + r3), .int (TP - 1 - r4), .int TP, .int (TP + 1 + r5), .int (r6 * 2 ^ tl), .int 0]) n3
  have B7 := (B6.same sm2).same sm3
  have n3b : s3 ≠ b := ((B6.same sm2).ne n3).symm
  -- way
  refine ⟨(by show 12 ≤ sizeLine; decide), fun s4 n4 => ?_⟩
  have sm4 := same_upd (o := .lst [.int 0, .int 0, .int 0, .int 0, .int 1, .int 2, .int 3, .int 4, .int 5, .int 6, .int 6, .int 7]) n4
  have n4b : s4 ≠ b := (B7.ne n4).symm
  refine ⟨_, rfl, b, _, _, rfl, B7.same sm4, (by decide), (by decide), (by decide), (by omega), (by decide), fun r7 H8 u7 v7 B8 k8 => ?_⟩
  replace B8 := bx2 B8
  obtain ⟨j, hj, hj8⟩ := at12 u7 v7
  refine ⟨s4, _, _, _, rfl, rfl, SqL.of (k8 _ _ upd_same n4b), hj, ?_⟩
  have es3 := k8 _ _ (sm4 _ _ upd_same) n3b
  have h6 : r6 * 2 ^ tl < 2 ^ (sc + tl) := by
    rw [pST]
    exact Int.mul_lt_mul_of_pos_right v6 pT
  obtain ⟨wd, hw, hwl⟩ := all8 (a0 := r1) (a1 := r2) (a2 := 2 ^ tl - 2 + r3) (a3 := TP - 1 - r4) (a4 := TP) (a5 := TP + 1 + r5) (a6 := r6 * 2 ^ tl) (a7 := 0) (M := 2 ^ (sc + tl)) hj8 (by omega) (by omega) (by omega) (by omega) (by omega) (by omega) h6 (by omega)
  refine ⟨_, rfl, _, rfl, s3, _, _, _, rfl, rfl, SqL.of es3, hw, ?_⟩
  have kk : Keep b H H8 := (((((((k1.trans k2).trans k3).trans k4).trans (Keep.new n1)).trans k5).trans k6).trans (Keep.ofSame (sm2.trans (sm3.trans sm4)))).trans k8
  have wrap : ∀ (v r : Int), v < 2 ^ (sc + tl) → 0 ≤ r → r < 2 → 0 ≤ r * 2 ^ (sc + tl) + (if v > 0 then v else 0) ∧ r * 2 ^ (sc + tl) + (if v > 0 then v else 0) < 2 ^ (1 + sc + tl) := fun v r hv r0 r1 => by
    have : r = 0 ∨ r = 1 := by omega
    rw [p1]
    rcases this with z | z <;> subst z <;> split <;> omega
  refine ⟨_, rfl, rfl, _, rfl, ite2 (fun cw => ?_) (fun cw => ?_)⟩
  · refine ⟨_, rfl, b, _, _, rfl, B8, (by decide), (by decide), (by decide), (by omega), (by decide), fun r8 H9 u8 v8 B9 k9 => ?_⟩
    replace B9 := bx2 B9
    refine ⟨rfl, _, rfl, ite2 (fun cz => ?_) (fun cz => ?_)⟩
    · -- another scale
      refine ⟨_, rfl, _, _, rfl, rfl, sc - 1, rfl, congrArg V.int (by omega), by omega, _, _, rfl, rfl, _, rfl, b, _, _, rfl, B9, (by decide), (by decide), (by decide), (by omega), (by decide), fun r9 H10 u9 v9 B10 k10 => ?_⟩
      replace B10 := bx2 B10
      refine ⟨_, _, rfl, rfl, _, rfl, sc, rfl, rfl, by omega, _, _, rfl, rfl, _, _, rfl, rfl, (by show (0 : Int) < 2 ^ sc - 1; omega), ?_⟩
      dsimp only
      obtain ⟨z, ez, z0, z1⟩ : ∃ z : Int, (2 ^ (sc - 1) - 3 + r9) % (2 ^ sc - 1) = z ∧ 0 ≤ z ∧ z < 2 ^ sc - 1 := ⟨_, rfl, Int.emod_nonneg _ (by omega), Int.emod_lt_of_pos _ (by omega)⟩
      rw [ez]
      have m0 := Int.emod_nonneg wd (show (2 : Int) ^ tl ≠ 0 by omega)
      have m1 := Int.emod_lt_of_pos wd pT
      refine ⟨_, rfl, _, tl, rfl, rfl, shl_ok (n := 9) (by omega) (by omega), _, rfl, _, rfl, tl, rfl, rfl, by omega, _, _, rfl, rfl, _, tl, rfl, rfl, z, _, tl, rfl, rfl, ⟨z0, m0, m1⟩, ?_⟩
      have hz : z * 2 ^ tl + wd % 2 ^ tl < 2 ^ (sc + tl) := by
        have : z * 2 ^ tl ≤ (2 ^ sc - 2) * 2 ^ tl := Int.mul_le_mul_of_nonneg_right (by omega) (by omega)
        rw [Int.sub_mul, ← pST] at this
        omega
      refine ⟨_, rfl, b, _, _, rfl, B10, (by decide), (by decide), (by decide), (by omega), (by decide), fun r H11 u10 v10 B11 k11 => ?_⟩
      replace B11 := bx2 B11
      refine ⟨_, rfl, _, rfl, _, _, rfl, rfl, _, sc + tl, rfl, rfl, shl_ok (n := 2) (by omega) (by omega), _, rfl, _, _, rfl, _, _, rfl, rfl, ?_⟩
      have wr := wrap _ r hz u10 v10
      exact q _ _ wr.1 wr.2 (B11.mono (by omega)) (((kk.trans k9).trans k10).trans k11)
    · refine ⟨_, rfl, b, _, _, rfl, B9, (by decide), (by decide), (by decide), (by omega), (by decide), fun r H11 u10 v10 B11 k11 => ?_⟩
      replace B11 := bx2 B11
      refine ⟨_, rfl, _, rfl, _, _, rfl, rfl, _, sc + tl, rfl, rfl, shl_ok (n := 2) (by omega) (by omega), _, rfl, _, _, rfl, _, _, rfl, rfl, ?_⟩
      have wr := wrap _ r hwl u10 v10
      exact q _ _ wr.1 wr.2 (B11.mono (by omega)) ((kk.trans k9).trans k11)
  · refine iteF ?_
    refine ⟨_, rfl, b, _, _, rfl, B8, (by decide), (by decide), (by decide), (by omega), (by decide), fun r H11 u10 v10 B11 k11 => ?_⟩
    replace B11 := bx2 B11
    refine ⟨_, rfl, _, rfl, _, _, rfl, rfl, _, sc + tl, rfl, rfl, shl_ok (n := 2) (by omega) (by omega), _, rfl, _, _, rfl, _, _, rfl, rfl, ?_⟩
    have wr := wrap _ r hwl u10 v10
    exact q _ _ wr.1 wr.2 (B11.mono (by omega)) (kk.trans k11)
end
section
variable {P : Program} {w : World} {K : PySem.W.Frag} {mg : Str → Option Value} {base : Heap}
variable {C : Addr} {za : Nat → Addr} {zl : Nat → FuncData} {t21 : Tok} {E_BadText I_BadText E_BadForm E_BadRow E_Unfit : Addr}
/-! ### words as texts, all forms -/
theorem pad_ok : ∀ k : Nat, k < 101 → PadOk (k : Int) = true := by decide +kernel
def spBits : Sp := fun vs H Q _ => ∃ (n k : Nat), vs = [.int (n : Int), .int (k : Int)] ∧ 1 ≤ k ∧ n < 2 ^ k ∧ k ≤ 100 ∧ Q (.str (bt k n)) H
theorem ok_bits_text (B : Bl mg) (L : LL K mg C za zl t21 E_BadText I_BadText E_BadForm E_BadRow E_Unfit) : FnOk P w K mg base CX0 1 (za 2) (zl 2) ["number", "many"] spBits := by
  refine L.F_bits_text.ok sc_bits_text (fun vs H Q E h => ?_) (fun cdv A outer s H vs Q E hr h => ?_)
  · obtain ⟨n, k, rfl, _⟩ := h
    rfl
  obtain ⟨n, k, rfl, hk, hn, hp, q⟩ := h
  have hl : (binT n).length ≤ 100 := Nat.le_trans (bin_len hk hn) hp
  refine ⟨_, (pss_one (ps_ret (pe_bm PySem.F.plainAttrs_str PySem.F.slot_str_zfill PySem.F.type_str_zfill mt_zfill (pe_joined1 (pe_fmtB (pv 0) (pe_joined1 pe_str))) (pa_cons (pv 1) pa_nil)))), ?_⟩
  rw [← zb_bits hk hn] at q
  refine ⟨_, rfl, n, rfl, rfl, Nat.le_trans hl (by decide), rfl, _, rfl, _, _, rfl, rfl, pad_ok k (by omega), q⟩
theorem sg_bt : ∀ g : Nat, g < 2 → Str.ofString (toString (g : Int)) = bt 1 g := by decide +kernel
theorem bt_len (k n : Nat) : (bt k n).length = k := by rw [TL.len_tl, tl_bt, bitsL_len]
theorem len_ap (a b : Str) : (a ++ b).length = a.length + b.length := by
  have h : ∀ z : Str, z.length = (TL.tl z).length := fun z => (Array.length_toList (xs := z.cps)).symm
  rw [h, h a, h b, TL.tl_append, List.length_append]
theorem parts_nat (sc tl v : Nat) : GM.sgn sc tl (v : Int) = (gN sc tl v : Int) ∧ GM.scl sc tl (v : Int) = (mN sc tl v : Int) ∧ GM.tlp tl (v : Int) = (tN tl v : Int) := by
  have c : ∀ k : Nat, ((2 ^ k : Nat) : Int) = (2 : Int) ^ k := fun k => PySem.W.kbt_cast k
  refine ⟨?_, ?_, ?_⟩
  · unfold GM.sgn gN
    rw [← c, Int.natCast_emod, Int.natCast_ediv]
    rfl
  · unfold GM.scl mN
    rw [← c, ← c, Int.natCast_emod, Int.natCast_ediv]
  · unfold GM.tlp tN
    rw [← c, Int.natCast_emod]
theorem spT_eq {sc tl v : Nat} : Str.empty ++ bt 1 (gN sc tl v) ++ " " ++ bt sc (mN sc tl v) ++ " " ++ bt tl (tN tl v) = spT sc tl v := by
  refine TL.ext_tl ?_
  unfold spT
  rw [TL.tl_join]
  simp only [TL.tl_append]
  show _ = TL.tl (bt 1 _) ++ (TL.tl " " ++ (TL.tl (bt sc _) ++ (TL.tl " " ++ TL.tl (bt tl _))))
  simp only [List.append_assoc]
  rfl
def spSpell (C : Addr) : Sp := fun vs H Q _ => ∃ (x : Addr) (sc tl v : Nat), vs = [.ref x, .int (v : Int)] ∧ FAt C H x sc tl ∧ ∀ H', Same H H' → Q (.str (spT sc tl v)) H'
theorem ok_spelled (B : Bl mg) (L : LL K mg C za zl t21 E_BadText I_BadText E_BadForm E_BadRow E_Unfit) : FnOk P w K mg base CX0 3 (za 1) (zl 1) ["form", "word"] (spSpell C) := by
  have G_Form_parts : FnOk P w K mg base CX0 2 (za 19) (zl 19) ["self", "word"] (spParts C) := (ok_Form_parts B L).mono (by decide)
  have G_bits_text : FnOk P w K mg base CX0 2 (za 2) (zl 2) ["number", "many"] spBits := (ok_bits_text B L).mono (by decide)
  refine L.F_spelled.ok sc_spelled (fun vs H Q E h => ?_) (fun cdv A outer s H vs Q E hr h => ?_)
  · obtain ⟨x, sc, tl, v, rfl, _⟩ := h
    rfl
  obtain ⟨x, sc, tl, v, rfl, hF, q⟩ := h
  obtain ⟨dx, hx, h1, h2, h3, h4⟩ := id hF
  refine ⟨_, (pss_cons (ps_asg (pe_meth (pv 0) L.T.cl L.M_Form_parts G_Form_parts hr L.b_Form_parts .nil pass0 (pa_cons (pv 1) pa_nil)) (pg_tup (by rfl) (pgs_cons (pg_name (i := 2) sc_spelled.nd rfl (.inl rfl)) (pgs_cons (pg_name (i := 3) sc_spelled.nd rfl (.inl rfl)) (pgs_cons (pg_name (i := 4) sc_spelled.nd rfl (.inl rfl)) pgs_nil)))))
    (pss_one (ps_ret (pe_joined (.cons (pe_fmt (pv 2)) (.cons pe_str (.cons (pe_fmt (pe_call G_bits_text hr (by rfl) L.m_bits_text L.F_bits_text.kp L.b_bits_text .nil pass0 (pa_cons (pv 3) (pa_cons (pe_fld (pv 0) rfl) pa_nil)))) (.cons pe_str (.cons (pe_fmt (pe_call G_bits_text hr (by rfl) L.m_bits_text L.F_bits_text.kp L.b_bits_text .nil pass0 (pa_cons (pv 4) (pa_cons (pe_fld (pv 0) rfl) pa_nil)))) .nil))))))))), ?_⟩
  refine ⟨_, rfl, x, dx, _, rfl, hx, rfl, _, rfl, x, sc, tl, v, rfl, hF, fun p np => ?_⟩
  have sp := same_upd (o := .tup [.int (GM.sgn sc tl v), .int (GM.scl sc tl v), .int (GM.tlp tl v)]) np
  refine ⟨p, _, rfl, .inl (.inl upd_same), rfl, _, _, rfl, _, _, rfl, _, _, rfl, rfl, ?_⟩
  try simp only [L2.start, List.map_cons, List.map_nil, List.length_cons, List.length_nil, List.replicate_succ, List.replicate_zero, List.cons_append, List.nil_append, List.set_cons_succ, List.set_cons_zero, Nat.reduceAdd, Nat.reduceSub, Nat.zero_add]
  have q' := q _ sp
  have hF' := hF.same sp
  have hx' := sp _ _ hx
  obtain ⟨e0, e1, e2⟩ := parts_nat sc tl v
  have hg : gN sc tl v < 2 := Nat.mod_lt _ (by decide)
  have hm : mN sc tl v < 2 ^ sc := Nat.mod_lt _ (Nat.pow_pos (by decide))
  have ht : tN tl v < 2 ^ tl := Nat.mod_lt _ (Nat.pow_pos (by decide))
  rw [← spT_eq, ← sg_bt _ hg] at q'
  generalize upd H p (.tup [.int (GM.sgn sc tl v), .int (GM.scl sc tl v), .int (GM.tlp tl v)]) = H1 at *
  rw [e0, e1, e2]
  have l1 : (Str.ofString (toString ((gN sc tl v : Nat) : Int))).length = 1 := by rw [sg_bt _ hg, bt_len]
  have l2 := bt_len sc (mN sc tl v)
  have l3 := bt_len tl (tN tl v)
  have l0 : Str.empty.length = 0 := rfl
  have lb : (" " : Str).length = 1 := rfl
  have big : ∀ {z : Nat}, z ≤ 100 → z ≤ sizeLine := fun h => Nat.le_trans h (by decide)
  refine ⟨_, rfl, .inr ⟨_, rfl, ?_, _, rfl, ?_, _, rfl, ?_, _, rfl, _, rfl, x, C, dx, _, _, rfl, hx', L.T.cl, L.T.ns, fl_s _ _, mN sc tl v, sc, rfl, by omega, hm, by omega, .inl ⟨_, rfl, ?_, _, rfl, ?_, _, rfl, ?_, _, rfl, _, rfl, x, C, dx, _, _, rfl, hx', L.T.cl, L.T.nt, fl_t _ _, tN tl v, tl, rfl, by omega, ht, by omega, .inl ⟨_, rfl, ?_, _, rfl, ?_, q'⟩⟩⟩⟩
  · generalize gN sc tl v = g at hg ⊢
    have : g = 0 ∨ g = 1 := by omega
    rcases this with z | z <;> subst z <;> decide
  all_goals (refine big ?_; first | (simp only [len_ap]; omega) | omega)
theorem sp_facts {sc tl v : Nat} (hv : v < 2 ^ (1 + sc + tl)) : (Txt.split (spT sc tl v) " ").map (·.length) = [1, sc, tl] ∧ (spT sc tl v).length = 1 + sc + tl + 2 ∧ (Txt.join "" (Txt.split (spT sc tl v) " ")).cps.toList.all (fun c => c == 48 || c == 49) = true ∧ (Txt.join "" (Txt.split (spT sc tl v) " ")).cps.toList.foldl (fun n c => 2 * n + (c - 48)) 0 = v ∧ (Txt.join "" (Txt.split (spT sc tl v) " ")).cps.size = 1 + sc + tl := by
  rw [sp_split hv]
  have e : (Txt.join "" (spP sc tl v)).cps.toList = bitsL (1 + sc + tl) v := spJ hv
  refine ⟨spP_len sc tl v, spT_len sc tl v, ?_, ?_, ?_⟩
  · rw [e]
    refine List.all_eq_true.mpr fun c hc => ?_
    rcases bitsL_01 _ _ c hc with z | z <;> subst z <;> rfl
  · rw [e, bitsL_fold _ _ _ hv, Nat.zero_mul, Nat.zero_add]
  · rw [← Array.length_toList, e, bitsL_len]
theorem iteN81 {c : Bool} {A B : Prop} (h : c = false) (b : B) : (if c = true then A else B) := by
  rw [h]
  exact b
def spWordIn (C : Addr) : Sp := fun vs H Q _ => ∃ (x : Addr) (sc tl v : Nat), vs = [.ref x, .str (spT sc tl v)] ∧ FAt C H x sc tl ∧ v < 2 ^ (1 + sc + tl) ∧ ∀ H', Same H H' → Q (.int (v : Int)) H'
theorem ok_word_in (B : Bl mg) (L : LL K mg C za zl t21 E_BadText I_BadText E_BadForm E_BadRow E_Unfit) : FnOk P w K mg base CX0 2 (za 3) (zl 3) ["form", "text"] (spWordIn C) := by
  refine L.F_word_in.ok sc_word_in (fun vs H Q E h => ?_) (fun cdv A outer s H vs Q E hr h => ?_)
  · obtain ⟨x, sc, tl, v, rfl, _⟩ := h
    rfl
  obtain ⟨x, sc, tl, v, rfl, hF, hv, q⟩ := h
  obtain ⟨dx, hx, h1, h2, h3, h4⟩ := id hF
  obtain ⟨t1, t2, t3, t4, t5⟩ := sp_facts hv
  refine ⟨_, (pss_cons (ps_set (i := 2) sc_word_in.nd rfl (.inl rfl) (pe_split (pv 1) pe_str))
    (pss_cons (ps_if (pt_cmpR (op_neD hr.units) (pe_lc (own := [("part", 5)]) (by rfl) sc_word_in.nd (pi_list (pv 2)) (blkOk_by (own := [("part", 5)]) (N := ["form", "text", "parts", "word", "figure", "part"]) (sc := defScope s_word_in) (by decide +kernel)) (fun _ _ _ _ _ => pg_name (i := 5) sc_word_in.nd rfl (Or.inl rfl)) (fun _ _ _ _ _ => pts_nil) (fun _ _ _ _ _ => (pe_callB call_len_str (by rfl) B.len PySem.boot_len (pa_cons (pv 5) pa_nil)))) (pe_lst (pa_cons pe_int (pa_cons (pe_fld (pv 0) rfl) (pa_cons (pe_fld (pv 0) rfl) pa_nil)))) (nomark _)) (pss_one ps_never) pss_nil)
    (pss_cons (ps_set (i := 3) sc_word_in.nd rfl (.inl rfl) pe_int)
    (pss_cons (ps_for PassesOwn.never rfl (pi_str (pe_bm PySem.F.plainAttrs_str PySem.F.slot_str_join PySem.F.type_str_join mt_join pe_str (pa_cons (pv 2) pa_nil))) (pg_name (i := 4) sc_word_in.nd rfl (.inl rfl)) (pss_cons (ps_if (pt_cmpR op_notIn_seq (pv 4) (pe_tup (pa_cons pe_str (pa_cons pe_str pa_nil))) (by rfl)) (pss_one ps_never) pss_nil)
    (pss_one (ps_set (i := 3) sc_word_in.nd rfl (.inl rfl) (pe_op op_add (pe_op op_mul pe_int (pv 3)) (pe_callTy call_int_str (by rfl) B.int PyProof.Rows.boot_int (pa_cons (pv 4) pa_nil)))))))
    (pss_one (ps_ret (pv 3))))))), ?_⟩
  refine ⟨_, rfl, ⟨_, rfl⟩, _, _, rfl, rfl, rfl, Nat.le_trans (show (spT sc tl v).length + 2 ≤ 40 by omega) (by decide), fun Pp nP => ?_⟩
  obtain ⟨ps, hps⟩ : ∃ ps, ps = Txt.split (spT sc tl v) " " := ⟨_, rfl⟩
  rw [← hps] at t1 t3 t4 t5 ⊢
  have s1 := same_upd (o := .lst (ps.map V.str)) nP
  have eP : (upd H Pp (.lst (ps.map V.str))) Pp = some (.lst (ps.map V.str)) := upd_same
  have hx1 := s1 _ _ hx
  generalize upd H Pp (.lst (ps.map V.str)) = H1 at *
  have lps : ps.length = 3 := by
    have := congrArg List.length t1
    rwa [List.length_map] at this
  try simp only [L2.start, List.map_cons, List.map_nil, List.length_cons, List.length_nil, List.replicate_succ, List.replicate_zero, List.cons_append, List.nil_append, List.set_cons_succ, List.set_cons_zero, Nat.reduceAdd, Nat.reduceSub, Nat.zero_add]
  refine ⟨_, rfl, Pp, rfl, ⟨_, SqL.of eP⟩, fun D nD => ?_⟩
  refine lc_it (walk_list (K := K) (a := Pp) (xs := ps.map V.str)) (fun j H9 => Same H1 H9 ∧ H9 D = some (.lst ((ps.take j).map fun z => V.int (z.length : Int)))) ⟨same_upd nD, upd_same⟩ (fun j H9 _ ⟨s9, _⟩ => SqL.of (s9 _ _ eP)) ?_ ?_
  · rintro j v' Ha H9 hj ⟨s9, eD⟩ ⟨rfl, hz⟩
    replace hz : (ps.map V.str)[j]? = some v' := hz
    rw [List.length_map] at hj
    have hp : ps[j]? = some ps[j] := List.getElem?_eq_getElem hj
    rw [List.getElem?_map, hp] at hz
    cases hz
    refine ⟨rfl, yesT ?_⟩
    try simp only [L2.start, List.map_cons, List.map_nil, List.length_cons, List.length_nil, List.replicate_succ, List.replicate_zero, List.cons_append, List.nil_append, List.set_cons_succ, List.set_cons_zero, Nat.reduceAdd, Nat.reduceSub, Nat.zero_add]
    have pl : (ps[j]).length ≤ 100 := by
      have : (ps[j]).length ∈ ps.map (·.length) := List.mem_map.mpr ⟨_, List.getElem_mem hj, rfl⟩
      rw [t1] at this
      simp only [List.mem_cons, List.not_mem_nil, or_false] at this
      omega
    refine ⟨_, rfl, _, rfl, Nat.le_trans pl (by decide), _, eD, ?_, fun y o e => ?_, ?_⟩
    · rw [List.length_map, List.length_take]
      exact Nat.lt_of_le_of_lt (Nat.min_le_right _ _) (by rw [lps]; decide)
    · rw [upd_ne (ne_of_none e nD)]
      exact s9 _ _ e
    · rw [upd_same, List.take_add_one, hp, List.map_append]
      rfl
  rintro H2 ⟨s2, eD⟩
  rw [List.length_map, List.take_of_length_le (Nat.le_refl _)] at eD
  have eD' : H2 D = some (.lst [.int ((1 : Nat) : Int), .int (sc : Int), .int (tl : Int)]) := by
    rw [eD]
    have : (ps.map fun z => V.int (z.length : Int)) = (ps.map (·.length)).map fun (k : Nat) => V.int (k : Int) := by rw [List.map_map]; rfl
    rw [this, t1]
    rfl
  have hx2 := s2 _ _ hx1
  refine ⟨_, rfl, x, C, dx, _, _, rfl, hx2, L.T.cl, L.T.ns, fl_s _ _, _, rfl, x, C, dx, _, _, rfl, hx2, L.T.cl, L.T.nt, fl_t _ _, (by show 3 ≤ sizeLine; decide), fun D2 nD2 => ?_⟩
  have s3 := same_upd (o := .lst [.int 1, .int (sc : Int), .int (tl : Int)]) nD2
  have e3 : (upd H2 D2 (.lst [.int 1, .int (sc : Int), .int (tl : Int)])) D2 = some (.lst [.int 1, .int (sc : Int), .int (tl : Int)]) := upd_same
  have eD3 := s3 _ _ eD'
  have eP3 := s3 _ _ (s2 _ _ eP)
  have s03 := (s1.trans s2).trans s3
  generalize upd H2 D2 (.lst [.int 1, .int (sc : Int), .int (tl : Int)]) = H3 at *
  refine ⟨.list ([(1 : Int), (sc : Int), (tl : Int)].map PyData.int), .list ([(1 : Int), (sc : Int), (tl : Int)].map PyData.int), .lst (SqL.of eD3) (dp_ints [(1 : Int), (sc : Int), (tl : Int)]), .lst (SqL.of e3) (dp_ints [(1 : Int), (sc : Int), (tl : Int)]), PySem.W.shaped_ints _, PySem.W.shaped_ints _, ?_⟩
  rw [PySem.SeqAt.eqv_refl _ (PySem.SeqAt.canLay_of_shaped (PySem.W.shaped_ints _))]
  refine ⟨_, rfl, iteF ?_⟩
  try dsimp only [tNext]
  try simp only [L2.start, List.map_cons, List.map_nil, List.length_cons, List.length_nil, List.replicate_succ, List.replicate_zero, List.cons_append, List.nil_append, List.set_cons_succ, List.set_cons_zero, Nat.reduceAdd, Nat.reduceSub, Nat.zero_add]
  obtain ⟨J, hJ⟩ : ∃ J, J = Txt.join "" ps := ⟨_, rfl⟩
  have sumL : (ps.map (·.length)).sum + ps.length * ("" : Str).length ≤ 16777216 := by
    rw [t1]
    show 1 + (sc + (tl + 0)) + ps.length * 0 ≤ 16777216
    omega
  refine ⟨rfl, _, rfl, _, Pp, ps, rfl, rfl, .inl (SqL.of eP3), sumL, ?_⟩
  rw [← hJ] at t3 t4 t5 ⊢
  refine ⟨J, rfl, ?_⟩
  refine for_it (walk_str (z := J)) (fun j σ H9 => ∃ (y4 : Option V), σ = [some (.ref x), some (.str (spT sc tl v)), some (.ref Pp), some (.int (((J.cps.toList.take j).foldl (fun n c => 2 * n + (c - 48)) 0 : Nat) : Int)), y4, none] ∧ Same H3 H9) ⟨_, rfl, Same.refl _⟩ (fun _ _ _ _ _ => trivial) ?_ ?_
  · rintro j v' σ H9 H10 hj ⟨y4, rfl, s9⟩ ⟨rfl, c, hc, rfl⟩
    have hc' : J.cps.toList[j]? = some c := by rw [Array.getElem?_toList]; exact hc
    have hm := List.all_eq_true.mp t3 c (List.mem_of_getElem? hc')
    have h01 : c = 48 ∨ c = 49 := by simpa using hm
    dsimp only [gName]
    try simp only [L2.start, List.map_cons, List.map_nil, List.length_cons, List.length_nil, List.replicate_succ, List.replicate_zero, List.cons_append, List.nil_append, List.set_cons_succ, List.set_cons_zero, Nat.reduceAdd, Nat.reduceSub, Nat.zero_add]
    refine ⟨_, rfl, (by show 2 ≤ sizeLine; decide), fun T nT => ?_⟩
    have sT := same_upd (o := .tup [.str "0", .str "1"]) nT
    refine ⟨T, _, rfl, .inr (.inl (.inl upd_same)), rfl, rfl, _, rfl, iteN81 ?_ ?_⟩
    · rcases h01 with z | z <;> subst z <;> rfl
    try dsimp only [tNext]
    refine ⟨_, rfl, _, _, rfl, rfl, .inl ⟨by decide, by decide⟩, _, rfl, _, ((c - 48 : Nat) : Int), rfl, ?_, ?_, _, _, rfl, rfl, ?_⟩
    · rcases h01 with z | z <;> subst z <;> decide +kernel
    · show (1 : Nat) ≤ 640
      decide
    refine ⟨some (.str ⟨#[c]⟩), ?_, s9.trans sT⟩
    rw [List.take_add_one, hc', List.foldl_append]
    generalize (J.cps.toList.take j).foldl (fun n c => 2 * n + (c - 48)) 0 = W
    show [_, _, _, some (V.int (2 * (W : Int) + ((c - 48 : Nat) : Int))), _, _] = [_, _, _, some (V.int ((2 * W + (c - 48) : Nat) : Int)), _, _]
    rw [Int.natCast_add, Int.natCast_mul]
    rfl
  · rintro σ H9 ⟨y4, rfl, s9⟩
    rw [List.take_of_length_le (by rw [Array.length_toList]; exact Nat.le_refl _), t4]
    exact ⟨_, rfl, q _ (s03.trans s9)⟩
end
section
variable {P : Program} {w : World} {K : PySem.W.Frag} {mg : Str → Option Value} {base : Heap}
variable {C : Addr} {za : Nat → Addr} {zl : Nat → FuncData} {t21 : Tok} {E_BadText I_BadText E_BadForm E_BadRow E_Unfit : Addr}
/-! ### bits from the last one on -/
theorem bitsL_top : ∀ j w, bitsL (j + 1) w = (48 + w / 2 ^ j % 2) :: bitsL j w
  | 0, w => by
    show [] ++ [48 + w % 2] = _
    rw [Nat.pow_zero, Nat.div_one]
    rfl
  | j + 1, w => by
    show bitsL (j + 1) (w / 2) ++ [48 + w % 2] = _ :: (bitsL j (w / 2) ++ [48 + w % 2])
    rw [bitsL_top j (w / 2), Nat.div_div_eq_div_mul, show 2 * 2 ^ j = 2 ^ (j + 1) by rw [Nat.pow_succ, Nat.mul_comm]]
    rfl
theorem bitsL_mod : ∀ k x, bitsL k (x % 2 ^ k) = bitsL k x
  | 0, _ => rfl
  | k + 1, x => by
    show bitsL k (x % 2 ^ (k + 1) / 2) ++ [48 + x % 2 ^ (k + 1) % 2] = bitsL k (x / 2) ++ [48 + x % 2]
    have e1 : x % 2 ^ (k + 1) / 2 = x / 2 % 2 ^ k := by
      rw [Nat.pow_succ, Nat.mul_comm, Nat.mod_mul_right_div_self]
    have e2 : x % 2 ^ (k + 1) % 2 = x % 2 := by
      rw [Nat.pow_succ, Nat.mul_comm]
      exact Nat.mod_mul_right_mod x 2 (2 ^ k)
    rw [e1, e2, bitsL_mod k (x / 2)]
/-- the signs behind so many steps, from the last one on -/
def ltL (sc tl v : Nat) : Nat → List Nat
  | 0 => []
  | j + 1 => (48 + v / 2 ^ j % 2) :: ((if j = tl ∨ j = sc + tl then [32] else []) ++ ltL sc tl v j)
theorem ltL_low {sc tl v : Nat} : ∀ j, j ≤ tl → ltL sc tl v j = bitsL j v
  | 0, _ => rfl
  | j + 1, h => by
    show _ :: ((if j = tl ∨ j = sc + tl then [32] else []) ++ ltL sc tl v j) = _
    rw [if_neg (by omega), ltL_low j (by omega), bitsL_top]
    rfl
theorem ltL_mid {sc tl v : Nat} : ∀ i, i < sc → ltL sc tl v (tl + (i + 1)) = bitsL (i + 1) (v / 2 ^ tl) ++ 32 :: bitsL tl v
  | 0, h => by
    show (48 + v / 2 ^ tl % 2) :: ((if tl = tl ∨ tl = sc + tl then [32] else []) ++ ltL sc tl v tl) = _
    rw [if_pos (.inl rfl), ltL_low tl (Nat.le_refl _)]
    rfl
  | i + 1, h => by
    show (48 + v / 2 ^ (tl + (i + 1)) % 2) :: ((if tl + (i + 1) = tl ∨ tl + (i + 1) = sc + tl then [32] else []) ++ ltL sc tl v (tl + (i + 1))) = _
    rw [if_neg (by omega), ltL_mid i (by omega), bitsL_top (i + 1), Nat.div_div_eq_div_mul, ← Nat.pow_add]
    rfl
theorem tl_spT (sc tl v : Nat) : TL.tl (spT sc tl v) = bitsL 1 (gN sc tl v) ++ (32 :: (bitsL sc (mN sc tl v) ++ 32 :: bitsL tl (tN tl v))) := by
  unfold spT
  rw [TL.tl_join]
  rfl
theorem ltL_all {sc tl v : Nat} (h1 : 1 ≤ sc) : ltL sc tl v (1 + sc + tl) = TL.tl (spT sc tl v) := by
  obtain ⟨i, rfl⟩ : ∃ i, sc = i + 1 := ⟨sc - 1, by omega⟩
  rw [tl_spT, show 1 + (i + 1) + tl = (tl + (i + 1)) + 1 by omega]
  show (48 + v / 2 ^ (tl + (i + 1)) % 2) :: ((if tl + (i + 1) = tl ∨ tl + (i + 1) = i + 1 + tl then [32] else []) ++ ltL (i + 1) tl v (tl + (i + 1))) = _
  rw [if_pos (.inr (Nat.add_comm _ _)), ltL_mid i (by omega)]
  have e1 : bitsL (i + 1) (mN (i + 1) tl v) = bitsL (i + 1) (v / 2 ^ tl) := bitsL_mod (i + 1) (v / 2 ^ tl)
  have e2 : bitsL tl (tN tl v) = bitsL tl v := bitsL_mod tl v
  have e3 : bitsL 1 (gN (i + 1) tl v) = [48 + v / 2 ^ (tl + (i + 1)) % 2] := by
    show [] ++ [48 + gN (i + 1) tl v % 2] = _
    unfold gN
    rw [Nat.mod_mod, Nat.add_comm tl]
    rfl
  rw [e1, e2, e3]
  rfl
/-! ### words of any texts -/
def jt (z : Str) : List Nat := TL.tl (Txt.join "" (Txt.split z " "))
def fd2 (cs : List Nat) : Nat := cs.foldl (fun n c => 2 * n + (c - 48)) 0
def ok01 (cs : List Nat) : Bool := cs.all fun c => c == 48 || c == 49
def rdT (z : Str) (sc tl : Nat) : Option Nat := if (Txt.split z " ").map (·.length) = [1, sc, tl] ∧ ok01 (jt z) = true then some (fd2 (jt z)) else none
def oI : Option Nat → V
  | none => .non
  | some v => .int (v : Int)
theorem joinL_nil : ∀ xs : List (List Nat), TL.joinL [] xs = xs.flatten
  | [] => rfl
  | [p] => by
    show p = _
    simp
  | p :: q :: r => by
    have ih := joinL_nil (q :: r)
    show p ++ ([] ++ TL.joinL [] (q :: r)) = _
    rw [ih, List.nil_append]
    rfl
theorem spl_many : ∀ (l acc : List Nat), (TL.spl [32] 0 acc l).length ≤ l.length + 1
  | [], acc => by
    rw [TL.spl_nil]
    exact Nat.le_refl _
  | c :: r, acc => by
    by_cases h : c = 32
    · subst h
      rw [TL.spl_hit (by rfl)]
      exact Nat.succ_le_succ (spl_many r [])
    · rw [TL.spl_miss (by
        show TL.pre [32] (c :: r) = false
        simpa [TL.pre] using h)]
      exact Nat.le_succ_of_le (spl_many r (acc ++ [c]))
theorem spl_flat : ∀ (l acc : List Nat), (TL.spl [32] 0 acc l).flatten = acc ++ l.filter (fun c => !(c == 32))
  | [], acc => by
    rw [TL.spl_nil]
    simp
  | c :: r, acc => by
    by_cases h : c = 32
    · subst h
      rw [TL.spl_hit (by rfl)]
      show (acc :: TL.spl [32] 0 [] r).flatten = _
      rw [List.flatten_cons, spl_flat r []]
      rfl
    · rw [TL.spl_miss (by
        show TL.pre [32] (c :: r) = false
        simpa [TL.pre] using h)]
      rw [spl_flat r (acc ++ [c]), List.filter_cons_of_pos (by simpa using h), List.append_assoc]
      rfl
theorem jt_filter (z : Str) : jt z = (TL.tl z).filter (fun c => !(c == 32)) := by
  unfold jt
  have e := TL.split_spl z " " (by decide +kernel) (TL.kind_ok (by decide +kernel))
  rw [TL.join_eq, TL.tl_join]
  have f := spl_flat (TL.tl z) []
  rw [List.nil_append] at f
  rw [← f]
  have e2 : TL.spl (TL.tl " ") 0 [] (TL.tl z) = TL.spl [32] 0 [] (TL.tl z) := rfl
  rw [← e2, ← e]
  exact joinL_nil _
theorem sp_map (z : Str) : (Txt.split z " ").map TL.tl = TL.spl [32] 0 [] (TL.tl z) := TL.split_spl z " " (by decide +kernel) (TL.kind_ok (by decide +kernel))
theorem pt_many (z : Str) : (Txt.split z " ").length ≤ z.length + 1 := by
  have := congrArg List.length (sp_map z)
  rw [List.length_map] at this
  rw [this, TL.len_tl]
  exact spl_many _ _
theorem pt_sum (z : Str) : ((Txt.split z " ").map (·.length)).sum ≤ z.length := by
  have e : (Txt.split z " ").map (·.length) = ((Txt.split z " ").map TL.tl).map List.length := by
    rw [List.map_map]
    exact List.map_congr_left fun p _ => TL.len_tl p
  rw [e, ← List.length_flatten, sp_map, spl_flat, List.nil_append, TL.len_tl]
  exact List.length_filter_le _ _
theorem sum_mem : ∀ {l : List Nat} {x : Nat}, x ∈ l → x ≤ l.sum
  | a :: l, x, h => by
    rw [List.sum_cons]
    rcases List.mem_cons.mp h with rfl | h
    · omega
    · have := sum_mem h
      omega
theorem pt_len {z p : Str} (h : p ∈ Txt.split z " ") : p.length ≤ z.length := Nat.le_trans (sum_mem (List.mem_map.mpr ⟨p, h, rfl⟩)) (pt_sum z)
theorem jt_len (z : Str) : (jt z).length ≤ z.length := by
  rw [jt_filter, TL.len_tl]
  exact List.length_filter_le _ _
theorem all_rd (z : Str) : ((TL.tl z).all fun c => c == 48 || c == 49 || c == 32) = ok01 (jt z) := by
  rw [jt_filter]
  unfold ok01
  rw [List.all_filter]
  congr 1
  funext c
  by_cases h : c = 32
  · subst h
    rfl
  · simp [h, Bool.or_comm]
end
section
variable {P : Program} {w : World} {K : PySem.W.Frag} {mg : Str → Option Value} {base : Heap}
variable {C : Addr} {za : Nat → Addr} {zl : Nat → FuncData} {t21 : Tok} {E_BadText I_BadText E_BadForm E_BadRow E_Unfit : Addr}
theorem iteT' {c : Bool} {a b : Prop} (h : c = true) (x : a) : if c = true then a else b := by rw [if_pos h]; exact x
theorem in_two (x a b : Str) : inV (.str x) [.str a, .str b] = decide (a = x ∨ b = x) := by
  show ((a == x) || ((b == x) || false)) = _
  rw [Bool.or_false, Bool.eq_iff_iff, Bool.or_eq_true, beq_iff_eq, beq_iff_eq, decide_eq_true_iff]
theorem eqv_len (ls : List Nat) (ms : List Nat) : (PyData.list ((ls.map fun k : Nat => (k : Int)).map PyData.int)).eqv (PyData.list ((ms.map fun k : Nat => (k : Int)).map PyData.int)) = decide (ls = ms) := by
  show PyData.eqvAll _ _ = _
  rw [PySem.W.ked_eqvAll]
  have inj : ∀ as bs : List Nat, (as.map fun k : Nat => (k : Int)) = (bs.map fun k : Nat => (k : Int)) ↔ as = bs := fun as bs => ⟨fun h => by
    have := congrArg (List.map Int.toNat) h
    simpa [List.map_map, Function.comp_def] using this, fun h => by rw [h]⟩
  by_cases e : ls = ms
  · rw [e, decide_eq_true rfl, decide_eq_true rfl]
  · rw [decide_eq_false e, decide_eq_false fun z => e ((inj _ _).mp z)]
theorem rdT_none {z : Str} {sc tl : Nat} (h : ¬ ((Txt.split z " ").map (·.length) = [1, sc, tl] ∧ ok01 (jt z) = true)) : rdT z sc tl = none := by
  unfold rdT
  rw [if_neg h]
theorem rdT_some {z : Str} {sc tl : Nat} (h : (Txt.split z " ").map (·.length) = [1, sc, tl]) (g : ok01 (jt z) = true) : rdT z sc tl = some (fd2 (jt z)) := by
  unfold rdT
  rw [if_pos ⟨h, g⟩]
theorem fd2_snoc (cs : List Nat) (c : Nat) : fd2 (cs ++ [c]) = 2 * fd2 cs + (c - 48) := by
  unfold fd2
  rw [List.foldl_append]
  rfl
/-! ### word_in of any text -/
def spWordG (C CT : Addr) : Sp := fun vs H Q E => ∃ (x : Addr) (sc tl : Nat) (z : Str), vs = [.ref x, .str z] ∧ FAt C H x sc tl ∧ z.length ≤ 400 ∧
  (∀ v, rdT z sc tl = some v → ∀ H', Same H H' → Q (.int (v : Int)) H') ∧ (rdT z sc tl = none → ∀ d H', Same H H' → H' d = none → E (.ref CT) (some d) (upd H' d (.xd [(("what" : Str), .str z)])))
theorem ok_word_inG (B : Bl mg) (L : LL K mg C za zl t21 E_BadText I_BadText E_BadForm E_BadRow E_Unfit) : FnOk P w K mg base (L2.CX P w) 2 (za 3) (zl 3) ["form", "text"] (spWordG C E_BadText) := by
  refine L.F_word_in.okX sc_word_in (fun vs H Q E h => ?_) (fun cdv A outer s H vs Q E hr h => ?_)
  · obtain ⟨x, sc, tl, z, rfl, _⟩ := h
    rfl
  obtain ⟨x, sc, tl, z, rfl, hF, hz, q1, q2⟩ := h
  obtain ⟨dx, hx, h1, h2, h3, h4⟩ := id hF
  have tm := pt_many z
  have tp := @pt_len z
  have ts := pt_sum z
  have tj := jt_len z
  refine ⟨_, (pss_cons (ps_set (i := 2) sc_word_in.nd rfl (.inl rfl) (pe_split (pv 1) pe_str))
    (pss_cons (ps_if (pt_cmpR (op_neD hr.units) (pe_lc (own := [("part", 5)]) (by rfl) sc_word_in.nd (pi_list (pv 2)) (blkOk_by (own := [("part", 5)]) (N := ["form", "text", "parts", "word", "figure", "part"]) (sc := defScope s_word_in) (by decide +kernel)) (fun _ _ _ _ _ => pg_name (i := 5) sc_word_in.nd rfl (Or.inl rfl)) (fun _ _ _ _ _ => pts_nil) (fun _ _ _ _ _ => (pe_callB call_len_str (by rfl) B.len PySem.boot_len (pa_cons (pv 5) pa_nil)))) (pe_lst (pa_cons pe_int (pa_cons (pe_fld (pv 0) rfl) (pa_cons (pe_fld (pv 0) rfl) pa_nil)))) (nomark _)) (pss_one (ps_raise rfl (takes_of rfl rfl rfl rfl) (pmk_what L.R_BadText hr (by decide) L.g_BadText rfl (pa_cons (pv 1) pa_nil)))) pss_nil)
    (pss_cons (ps_set (i := 3) sc_word_in.nd rfl (.inl rfl) pe_int)
    (pss_cons (ps_for (passes_of rfl) rfl (pi_str (pe_bm PySem.F.plainAttrs_str PySem.F.slot_str_join PySem.F.type_str_join mt_join pe_str (pa_cons (pv 2) pa_nil))) (pg_name (i := 4) sc_word_in.nd rfl (.inl rfl)) (pss_cons (ps_if (pt_cmpR op_notIn_seq (pv 4) (pe_tup (pa_cons pe_str (pa_cons pe_str pa_nil))) (by rfl)) (pss_one (ps_raise rfl (takes_of rfl rfl rfl rfl) (pmk_what L.R_BadText hr (by decide) L.g_BadText rfl (pa_cons (pv 1) pa_nil)))) pss_nil)
    (pss_one (ps_set (i := 3) sc_word_in.nd rfl (.inl rfl) (pe_op op_add (pe_op op_mul pe_int (pv 3)) (pe_callTy call_int_str (by rfl) B.int PyProof.Rows.boot_int (pa_cons (pv 4) pa_nil)))))))
    (pss_one (ps_ret (pv 3))))))), ?_⟩
  refine ⟨_, rfl, ⟨_, rfl⟩, _, _, rfl, rfl, rfl, Nat.le_trans (show z.length + 2 ≤ 402 by omega) (by decide), fun Pp nP => ?_⟩
  have rn := @rdT_none z sc tl
  have rs := @rdT_some z sc tl
  obtain ⟨J, hJ⟩ : ∃ J, J = Txt.join "" (Txt.split z " ") := ⟨_, rfl⟩
  have ej : jt z = J.cps.toList := by rw [hJ]; rfl
  rw [ej] at rn rs tj
  obtain ⟨ps, hps⟩ : ∃ ps, ps = Txt.split z " " := ⟨_, rfl⟩
  rw [← hps] at rn rs tm tp ts hJ ⊢
  have s1 := same_upd (o := .lst (ps.map V.str)) nP
  have eP : (upd H Pp (.lst (ps.map V.str))) Pp = some (.lst (ps.map V.str)) := upd_same
  have hx1 := s1 _ _ hx
  generalize upd H Pp (.lst (ps.map V.str)) = H1 at *
  try simp only [L2.start, List.map_cons, List.map_nil, List.length_cons, List.length_nil, List.replicate_succ, List.replicate_zero, List.cons_append, List.nil_append, List.set_cons_succ, List.set_cons_zero, Nat.reduceAdd, Nat.reduceSub, Nat.zero_add]
  refine ⟨_, rfl, Pp, rfl, ⟨_, SqL.of eP⟩, fun D nD => ?_⟩
  refine lc_it (walk_list (K := K) (a := Pp) (xs := ps.map V.str)) (fun j H9 => Same H1 H9 ∧ H9 D = some (.lst ((ps.take j).map fun z => V.int (z.length : Int)))) ⟨same_upd nD, upd_same⟩ (fun j H9 _ ⟨s9, _⟩ => SqL.of (s9 _ _ eP)) ?_ ?_
  · rintro j v' Ha H9 hj ⟨s9, eD⟩ ⟨rfl, hzz⟩
    replace hzz : (ps.map V.str)[j]? = some v' := hzz
    rw [List.length_map] at hj
    have hp : ps[j]? = some ps[j] := List.getElem?_eq_getElem hj
    rw [List.getElem?_map, hp] at hzz
    cases hzz
    refine ⟨rfl, yesT ?_⟩
    try simp only [L2.start, List.map_cons, List.map_nil, List.length_cons, List.length_nil, List.replicate_succ, List.replicate_zero, List.cons_append, List.nil_append, List.set_cons_succ, List.set_cons_zero, Nat.reduceAdd, Nat.reduceSub, Nat.zero_add]
    have pl : (ps[j]).length ≤ 400 := Nat.le_trans (tp (List.getElem_mem hj)) hz
    refine ⟨_, rfl, _, rfl, Nat.le_trans pl (by decide), _, eD, ?_, fun y o e => ?_, ?_⟩
    · rw [List.length_map, List.length_take]
      exact Nat.lt_of_le_of_lt (Nat.min_le_right _ _) (small1000 (by omega))
    · rw [upd_ne (ne_of_none e nD)]
      exact s9 _ _ e
    · rw [upd_same, List.take_add_one, hp, List.map_append]
      rfl
  rintro H2 ⟨s2, eD⟩
  rw [List.length_map, List.take_of_length_le (Nat.le_refl _)] at eD
  have eD' : H2 D = some (.lst (((ps.map (·.length)).map fun k : Nat => (k : Int)).map V.int)) := by
    rw [eD, List.map_map, List.map_map]
    rfl
  have hx2 := s2 _ _ hx1
  refine ⟨_, rfl, x, C, dx, _, _, rfl, hx2, L.T.cl, L.T.ns, fl_s _ _, _, rfl, x, C, dx, _, _, rfl, hx2, L.T.cl, L.T.nt, fl_t _ _, (by show 3 ≤ sizeLine; decide), fun D2 nD2 => ?_⟩
  have s3 := same_upd (o := .lst [.int 1, .int (sc : Int), .int (tl : Int)]) nD2
  have e3 : (upd H2 D2 (.lst [.int 1, .int (sc : Int), .int (tl : Int)])) D2 = some (.lst [.int 1, .int (sc : Int), .int (tl : Int)]) := upd_same
  have eD3 := s3 _ _ eD'
  have eP3 := s3 _ _ (s2 _ _ eP)
  have s03 := (s1.trans s2).trans s3
  generalize upd H2 D2 (.lst [.int 1, .int (sc : Int), .int (tl : Int)]) = H3 at *
  refine ⟨.list (((ps.map (·.length)).map fun k : Nat => (k : Int)).map PyData.int), .list ((([1, sc, tl] : List Nat).map fun k : Nat => (k : Int)).map PyData.int), .lst (SqL.of eD3) (dp_ints _), .lst (SqL.of e3) (dp_ints [(1 : Int), (sc : Int), (tl : Int)]), PySem.W.shaped_ints _, PySem.W.shaped_ints _, ?_⟩
  rw [eqv_len]
  by_cases hl : ps.map (·.length) = [1, sc, tl]
  · rw [decide_eq_true hl]
    refine ⟨_, rfl, iteF ?_⟩
    try dsimp only [tNext]
    try simp only [L2.start, List.map_cons, List.map_nil, List.length_cons, List.length_nil, List.replicate_succ, List.replicate_zero, List.cons_append, List.nil_append, List.set_cons_succ, List.set_cons_zero, Nat.reduceAdd, Nat.reduceSub, Nat.zero_add]
    refine ⟨rfl, _, rfl, _, Pp, ps, rfl, rfl, .inl (SqL.of eP3), ?_, ?_⟩
    · show (ps.map (·.length)).sum + ps.length * 0 ≤ 16777216
      omega
    rw [← hJ]
    refine ⟨J, rfl, ?_⟩
    refine for_it (walk_str (z := J)) (fun j σ H9 => ∃ (y4 : Option V), σ = [some (.ref x), some (.str z), some (.ref Pp), some (.int ((fd2 (J.cps.toList.take j) : Nat) : Int)), y4, none] ∧ Same H3 H9 ∧ ∀ c ∈ J.cps.toList.take j, c = 48 ∨ c = 49) ⟨_, rfl, Same.refl _, fun c hc => by simp at hc⟩ (fun _ _ _ _ _ => trivial) ?_ ?_
    · rintro j v' σ H9 H10 hj ⟨y4, rfl, s9, h01⟩ ⟨rfl, c, hc, rfl⟩
      have hc' : J.cps.toList[j]? = some c := by rw [Array.getElem?_toList]; exact hc
      dsimp only [gName]
      try simp only [L2.start, List.map_cons, List.map_nil, List.length_cons, List.length_nil, List.replicate_succ, List.replicate_zero, List.cons_append, List.nil_append, List.set_cons_succ, List.set_cons_zero, Nat.reduceAdd, Nat.reduceSub, Nat.zero_add]
      refine ⟨_, rfl, (by show 2 ≤ sizeLine; decide), fun T nT => ?_⟩
      have sT := same_upd (o := .tup [.str "0", .str "1"]) nT
      refine ⟨T, _, rfl, .inr (.inl (.inl upd_same)), rfl, rfl, _, rfl, ?_⟩
      by_cases hb : c = 48 ∨ c = 49
      · refine iteN81 ?_ ?_
        · rcases hb with z | z <;> subst z <;> rfl
        try dsimp only [tNext]
        refine ⟨_, rfl, _, _, rfl, rfl, .inl ⟨by decide, by decide⟩, _, rfl, _, ((c - 48 : Nat) : Int), rfl, ?_, ?_, _, _, rfl, rfl, ?_⟩
        · rcases hb with z | z <;> subst z <;> decide +kernel
        · show (1 : Nat) ≤ 640
          decide
        refine ⟨some (.str ⟨#[c]⟩), ?_, s9.trans sT, ?_⟩
        · rw [List.take_add_one, hc', show (some c).toList = [c] from rfl, fd2_snoc]
          generalize fd2 (J.cps.toList.take j) = W
          show [_, _, _, some (V.int (2 * (W : Int) + ((c - 48 : Nat) : Int))), _, _] = [_, _, _, some (V.int ((2 * W + (c - 48) : Nat) : Int)), _, _]
          rw [Int.natCast_add, Int.natCast_mul]
          rfl
        · intro d hd
          rw [List.take_add_one, hc'] at hd
          rcases List.mem_append.mp hd with h | h
          · exact h01 d h
          · rw [List.mem_singleton.mp h]
            exact hb
      · refine iteT' ?_ ?_
        · rw [in_two]
          have ne : ∀ k : Nat, c ≠ k → ¬ (⟨#[k]⟩ : Str) = ⟨#[c]⟩ := fun k hk e => hk (by
            injection e with e
            injection e with e
            injection e with e _
            exact e.symm)
          rw [decide_eq_false]
          · rfl
          · rintro (e | e)
            · exact ne 48 (fun z => hb (.inl z)) e
            · exact ne 49 (fun z => hb (.inr z)) e
        refine ⟨_, rfl, _, rfl, fun d nd => q2 (rn fun z => hb ?_) d _ (s03.trans (s9.trans sT)) nd⟩
        have := List.all_eq_true.mp z.2 c (List.mem_of_getElem? hc')
        simpa using this
    · rintro σ H9 ⟨y4, rfl, s9, h01⟩
      rw [List.take_of_length_le (by rw [Array.length_toList]; exact Nat.le_refl _)] at h01 ⊢
      refine ⟨_, rfl, q1 _ (rs hl ?_) _ (s03.trans s9)⟩
      exact List.all_eq_true.mpr fun c hc => by simpa using h01 c hc
  · rw [decide_eq_false hl]
    refine ⟨_, rfl, iteT ?_⟩
    exact ⟨_, rfl, _, rfl, fun d nd => q2 (rn fun z => hl z.1) d _ s03 nd⟩
end
section
variable {P : Program} {w : World} {K : PySem.W.Frag} {mg : Str → Option Value} {base : Heap}
variable {C : Addr} {za : Nat → Addr} {zl : Nat → FuncData} {t21 : Tok} {E_BadText I_BadText E_BadForm E_BadRow E_Unfit : Addr}
/-! ### _law_text -/
def spLT : Sp := fun vs H Q _ => ∃ (sc tl v : Nat), vs = [.int (v : Int), .int (sc : Int), .int (tl : Int)] ∧ 1 ≤ sc ∧ sc ≤ 8 ∧ 1 ≤ tl ∧ tl ≤ 25 ∧ ∀ H', Same H H' → Q (.str (spT sc tl v)) H'
def ltS (sc tl v j : Nat) : Str := ⟨(ltL sc tl v j).toArray⟩
theorem ltS_all {sc tl v : Nat} (h : 1 ≤ sc) : ltS sc tl v (1 + sc + tl) = spT sc tl v := TL.ext_tl (by
  show ltL sc tl v (1 + sc + tl) = _
  exact ltL_all h)
theorem ltL_len (sc tl v : Nat) : ∀ j, (ltL sc tl v j).length ≤ 2 * j
  | 0 => Nat.le_refl _
  | j + 1 => by
    have ih := ltL_len sc tl v j
    show ((if j = tl ∨ j = sc + tl then [32] else []) ++ ltL sc tl v j).length + 1 ≤ _
    rw [List.length_append]
    split
    · show 1 + _ + 1 ≤ _
      omega
    · show 0 + _ + 1 ≤ _
      omega
theorem at_in (j sc tl : Nat) : inV (.int (0 + (j : Int))) [.int (tl : Int), .int ((sc : Int) + (tl : Int))] = decide (j = tl ∨ j = sc + tl) := by
  show (((tl : Int) == 0 + (j : Int)) || (((sc : Int) + (tl : Int) == 0 + (j : Int)) || false)) = _
  rw [Bool.or_false, Bool.eq_iff_iff, Bool.or_eq_true, beq_iff_eq, beq_iff_eq, decide_eq_true_iff]
  omega
theorem ix01 (w : Nat) : atI ("01" : Str).cps.toList ((w : Int) % 2) = some (48 + w % 2) := by
  have h : w % 2 = 0 ∨ w % 2 = 1 := by omega
  rcases h with z | z
  · rw [show (w : Int) % 2 = 0 by omega, z]
    rfl
  · rw [show (w : Int) % 2 = 1 by omega, z]
    rfl
theorem ltS_step (sc tl v j : Nat) : (⟨#[48 + v / 2 ^ j % 2]⟩ ++ strRep " " (if decide (j = tl ∨ j = sc + tl) = true then 1 else 0)) ++ ltS sc tl v j = ltS sc tl v (j + 1) := TL.ext_tl (by
  rw [TL.tl_append, TL.tl_append]
  show _ = ltL sc tl v (j + 1)
  show ([48 + v / 2 ^ j % 2] ++ _) ++ ltL sc tl v j = (48 + v / 2 ^ j % 2) :: ((if j = tl ∨ j = sc + tl then [32] else []) ++ ltL sc tl v j)
  by_cases c : j = tl ∨ j = sc + tl
  · rw [decide_eq_true c, if_pos c]
    rfl
  · rw [decide_eq_false c, if_neg c]
    rfl)
theorem okU__law_text (B : Bl mg) (L : LL K mg C za zl t21 E_BadText I_BadText E_BadForm E_BadRow E_Unfit) : FnOkU P w K mg base CX0 1 (za 12) (zl 12) ["_law_word_here", "_law_scale", "_law_tail"] spLT := by
  refine L.F__law_text.okU sc__law_text (fun vs H Q E h => ?_) (fun cdv A outer s H vs Q E hr h => ?_)
  · obtain ⟨sc, tl, v, rfl, _⟩ := h
    rfl
  obtain ⟨sc, tl, v, rfl, h1, h2, h3, h4, q⟩ := h
  refine ⟨_, (pssu_str (i := 3) sc__law_text.nd rfl (.inl rfl)
    (pss_cons (ps_for PassesOwn.never rfl (pi_range1 (by rfl) B.range (pa_cons (pe_op op_add (pe_op op_add pe_int (pv 1)) (pv 2)) pa_nil)) (pg_name (i := 4) sc__law_text.nd rfl (.inl rfl)) (pss_cons (ps_set (i := 3) sc__law_text.nd rfl (.inl rfl) (pe_op op_add_str (pe_op op_add_str (pe_ix ix_str pe_str (pe_op op_mod (pv 0) pe_int) (fun _ _ => rfl)) (pe_op op_mul_str pe_str (pe_callTy call_int1 (by rfl) B.int PyProof.Rows.boot_int (pa_cons (pe_cmpR op_in_seq (pv 4) (pe_tup (pa_cons (pv 2) (pa_cons (pe_op op_add (pv 1) (pv 2)) pa_nil))) (by rfl)) pa_nil)))) (pv 3)))
    (pss_one (ps_set (i := 0) sc__law_text.nd rfl (.inl rfl) (pe_op op_fdiv (pv 0) pe_int)))))
    (pss_one (ps_ret (pv 3))))), ?_⟩
  refine ⟨_, rfl, _, _, rfl, rfl, _, rfl, _, _, rfl, rfl, _, rfl, by omega, by omega, ?_⟩
  rw [show (1 : Int) + (sc : Int) + (tl : Int) = ((1 + sc + tl : Nat) : Int) by omega, Int.toNat_natCast]
  refine for_range (n := 1 + sc + tl) (fun j σ H5 => ∃ (y4 : Option V), σ = [some (.int ((v / 2 ^ j : Nat) : Int)), some (.int (sc : Int)), some (.int (tl : Int)), some (.str (ltS sc tl v j)), y4] ∧ Same H H5) ⟨none, by rw [Nat.pow_zero, Nat.div_one]; rfl, Same.refl _⟩ ?_ ?_
  · rintro j σ H5 hj ⟨y4, rfl, s5⟩
    try dsimp only [gName]
    try simp only [L2.start, List.map_cons, List.map_nil, List.length_cons, List.length_nil, List.replicate_succ, List.replicate_zero, List.cons_append, List.nil_append, List.set_cons_succ, List.set_cons_zero, Nat.reduceAdd, Nat.reduceSub, Nat.zero_add]
    have hl := ltL_len sc tl v j
    have hl2 : (ltS sc tl v j).length ≤ 100 := by
      rw [TL.len_tl]
      show (ltL sc tl v j).length ≤ 100
      omega
    have hi := @small1000
    refine ⟨_, rfl, _, _, rfl, rfl, (show (0 : Int) < 2 by decide), _, _, _, rfl, rfl, (by show 2 ≤ sizeLine; decide), ix01 _, ?_⟩
    refine ⟨_, rfl, _, rfl, _, rfl, _, rfl, _, _, rfl, rfl, (by show 2 ≤ sizeLine; decide), fun T nT => ?_⟩
    have sT := same_upd (o := .tup [.int (tl : Int), .int ((sc : Int) + (tl : Int))]) nT
    refine ⟨T, _, rfl, .inr (SqT.of upd_same), rfl, rfl, .inr ⟨_, rfl, ?_⟩⟩
    refine ⟨_, (if decide (j = tl ∨ j = sc + tl) = true then 1 else 0), rfl, congrArg V.int ?_, by decide, by split <;> decide, ?_⟩
    · show (if inV (.int (0 + (j : Int))) [.int (tl : Int), .int ((sc : Int) + (tl : Int))] = true then (1 : Int) else 0) = _
      rw [at_in]
      split <;> rfl
    have hr : (strRep " " (if decide (j = tl ∨ j = sc + tl) = true then 1 else 0)).length ≤ 1 := by
      rw [strRep_len]
      split <;> decide
    refine ⟨_, _, rfl, rfl, ?_, _, rfl, _, _, rfl, rfl, ?_, ?_⟩
    · exact Nat.le_trans (show 1 + (strRep " " (if decide (j = tl ∨ j = sc + tl) = true then 1 else 0)).length ≤ 2 by omega) (by decide)
    · rw [len_ap]
      exact Nat.le_trans (show 1 + (strRep " " (if decide (j = tl ∨ j = sc + tl) = true then 1 else 0)).length + (ltS sc tl v j).length ≤ 102 by omega) (by decide)
    rw [ltS_step]
    try dsimp only [gName]
    try simp only [L2.start, List.map_cons, List.map_nil, List.length_cons, List.length_nil, List.replicate_succ, List.replicate_zero, List.cons_append, List.nil_append, List.set_cons_succ, List.set_cons_zero, Nat.reduceAdd, Nat.reduceSub, Nat.zero_add]
    refine ⟨_, rfl, _, _, rfl, rfl, ⟨by decide, by decide⟩, ?_⟩
    refine ⟨some (.int (0 + (j : Int))), ?_, s5.trans sT⟩
    rw [Nat.pow_succ, ← Nat.div_div_eq_div_mul]
    rfl
  · rintro σ H5 ⟨y4, rfl, s5⟩
    rw [ltS_all h1]
    exact ⟨_, rfl, q _ s5⟩
theorem ok__law_text (B : Bl mg) (L : LL K mg C za zl t21 E_BadText I_BadText E_BadForm E_BadRow E_Unfit) : FnOk P w K mg base CX0 1 (za 12) (zl 12) ["_law_word_here", "_law_scale", "_law_tail"] spLT := (okU__law_text B L).toOk
/-! ### _law_read -/
theorem in01 (c : Nat) : (!(Builtin.Str.occurrences ("01 " : Str) ⟨#[c]⟩ 0 ("01 " : Str).length 1).isEmpty) = (c == 48 || c == 49 || c == 32) := by
  rw [PySem.StrLaws.found_one]
  show decide (c ∈ [48, 49, 32]) = _
  rw [Bool.eq_iff_iff, decide_eq_true_iff]
  simp [or_assoc]
def spRd : Sp := fun vs H Q _ => ∃ (sc tl : Nat) (z : Str), vs = [.str z, .int (sc : Int), .int (tl : Int)] ∧ z.length ≤ 400 ∧ ∀ H', Same H H' → Q (oI (rdT z sc tl)) H'
theorem ok__law_read (B : Bl mg) (L : LL K mg C za zl t21 E_BadText I_BadText E_BadForm E_BadRow E_Unfit) : FnOk P w K mg base CX0 1 (za 13) (zl 13) ["_law_text_here", "_law_scale", "_law_tail"] spRd := by
  refine L.F__law_read.ok sc__law_read (fun vs H Q E h => ?_) (fun cdv A outer s H vs Q E hr h => ?_)
  · obtain ⟨sc, tl, z, rfl, _⟩ := h
    rfl
  obtain ⟨sc, tl, z, rfl, hz, q⟩ := h
  have tm := pt_many z
  have tp := @pt_len z
  have ts := pt_sum z
  have tj := jt_len z
  have ta := all_rd z
  refine ⟨_, (pss_cons (ps_set (i := 3) sc__law_read.nd rfl (.inl rfl) (pe_split (pv 0) pe_str))
    (pss_cons (ps_if (PW.pt (pw_or (pt_cmpR (op_neD hr.units) (pe_lc (own := [("_law_part", 6)]) (by rfl) sc__law_read.nd (pi_list (pv 3)) (blkOk_by (own := [("_law_part", 6)]) (N := ["_law_text_here", "_law_scale", "_law_tail", "_law_parts", "_law_found", "_law_sign", "_law_part"]) (sc := defScope s__law_read) (by decide +kernel)) (fun _ _ _ _ _ => pg_name (i := 6) sc__law_read.nd rfl (Or.inl rfl)) (fun _ _ _ _ _ => pts_nil) (fun _ _ _ _ _ => (pe_callB call_len_str (by rfl) B.len PySem.boot_len (pa_cons (pv 6) pa_nil)))) (pe_lst (pa_cons pe_int (pa_cons (pv 1) (pa_cons (pv 2) pa_nil)))) (nomark _)) (pw_or1 (pt_not (pt_val (pe_callB (cr_all rfl) (by rfl) B.all boot_all (pa_cons (pe_lc (own := [("_law_sign", 5)]) (by rfl) sc__law_read.nd (pi_str (pv 0)) (blkOk_by (own := [("_law_sign", 5)]) (N := ["_law_text_here", "_law_scale", "_law_tail", "_law_parts", "_law_found", "_law_sign", "_law_part"]) (sc := defScope s__law_read) (by decide +kernel)) (fun _ _ _ _ _ => pg_name (i := 5) sc__law_read.nd rfl (Or.inl rfl)) (fun _ _ _ _ _ => pts_nil) (fun _ _ _ _ _ => (pe_cmpR op_in_str (pv 5) pe_str (by rfl)))) pa_nil))))))) (pss_one (ps_ret pe_non)) pss_nil)
    (pss_cons (ps_set (i := 4) sc__law_read.nd rfl (.inl rfl) pe_int)
    (pss_cons (ps_for PassesOwn.never rfl (pi_str (pe_bm PySem.F.plainAttrs_str PySem.F.slot_str_join PySem.F.type_str_join mt_join pe_str (pa_cons (pv 3) pa_nil))) (pg_name (i := 5) sc__law_read.nd rfl (.inl rfl)) (pss_one (ps_set (i := 4) sc__law_read.nd rfl (.inl rfl) (pe_op op_add (pe_op op_mul (pv 4) pe_int) (pe_callTy call_int1 (by rfl) B.int PyProof.Rows.boot_int (pa_cons (pe_cmpR op_eq (pv 5) pe_str (nomark _)) pa_nil))))))
    (pss_one (ps_ret (pv 4))))))), ?_⟩
  refine ⟨_, rfl, ⟨_, rfl⟩, _, _, rfl, rfl, rfl, Nat.le_trans (show z.length + 2 ≤ 402 by omega) (by decide), fun Pp nP => ?_⟩
  have rn := @rdT_none z sc tl
  have rs := @rdT_some z sc tl
  obtain ⟨J, hJ⟩ : ∃ J, J = Txt.join "" (Txt.split z " ") := ⟨_, rfl⟩
  have ej : jt z = J.cps.toList := by rw [hJ]; rfl
  rw [ej] at rn rs tj ta
  obtain ⟨ps, hps⟩ : ∃ ps, ps = Txt.split z " " := ⟨_, rfl⟩
  rw [← hps] at rn rs tm tp ts hJ ⊢
  have s1 := same_upd (o := .lst (ps.map V.str)) nP
  have eP : (upd H Pp (.lst (ps.map V.str))) Pp = some (.lst (ps.map V.str)) := upd_same
  generalize upd H Pp (.lst (ps.map V.str)) = H1 at *
  try dsimp only [gName]
  try simp only [L2.start, List.map_cons, List.map_nil, List.length_cons, List.length_nil, List.replicate_succ, List.replicate_zero, List.cons_append, List.nil_append, List.set_cons_succ, List.set_cons_zero, Nat.reduceAdd, Nat.reduceSub, Nat.zero_add]
  refine ⟨_, rfl, Pp, rfl, ⟨_, SqL.of eP⟩, fun D nD => ?_⟩
  refine lc_it (walk_list (K := K) (a := Pp) (xs := ps.map V.str)) (fun j H9 => Same H1 H9 ∧ H9 D = some (.lst ((ps.take j).map fun z => V.int (z.length : Int)))) ⟨same_upd nD, upd_same⟩ (fun j H9 _ ⟨s9, _⟩ => SqL.of (s9 _ _ eP)) ?_ ?_
  · rintro j v' Ha H9 hj ⟨s9, eD⟩ ⟨rfl, hzz⟩
    replace hzz : (ps.map V.str)[j]? = some v' := hzz
    rw [List.length_map] at hj
    have hp : ps[j]? = some ps[j] := List.getElem?_eq_getElem hj
    rw [List.getElem?_map, hp] at hzz
    cases hzz
    refine ⟨rfl, yesT ?_⟩
    try simp only [L2.start, List.map_cons, List.map_nil, List.length_cons, List.length_nil, List.replicate_succ, List.replicate_zero, List.cons_append, List.nil_append, List.set_cons_succ, List.set_cons_zero, Nat.reduceAdd, Nat.reduceSub, Nat.zero_add]
    have pl : (ps[j]).length ≤ 400 := Nat.le_trans (tp (List.getElem_mem hj)) hz
    refine ⟨_, rfl, _, rfl, Nat.le_trans pl (by decide), _, eD, ?_, fun y o e => ?_, ?_⟩
    · rw [List.length_map, List.length_take]
      exact Nat.lt_of_le_of_lt (Nat.min_le_right _ _) (small1000 (by omega))
    · rw [upd_ne (ne_of_none e nD)]
      exact s9 _ _ e
    · rw [upd_same, List.take_add_one, hp, List.map_append]
      rfl
  rintro H2 ⟨s2, eD⟩
  rw [List.length_map, List.take_of_length_le (Nat.le_refl _)] at eD
  have eD' : H2 D = some (.lst (((ps.map (·.length)).map fun k : Nat => (k : Int)).map V.int)) := by
    rw [eD, List.map_map, List.map_map]
    rfl
  refine ⟨_, rfl, _, rfl, (by show 3 ≤ sizeLine; decide), fun D2 nD2 => ?_⟩
  have s3 := same_upd (o := .lst [.int 1, .int (sc : Int), .int (tl : Int)]) nD2
  have e3 : (upd H2 D2 (.lst [.int 1, .int (sc : Int), .int (tl : Int)])) D2 = some (.lst [.int 1, .int (sc : Int), .int (tl : Int)]) := upd_same
  have eD3 := s3 _ _ eD'
  have eP3 := s3 _ _ (s2 _ _ eP)
  have s03 := (s1.trans s2).trans s3
  generalize upd H2 D2 (.lst [.int 1, .int (sc : Int), .int (tl : Int)]) = H3 at *
  refine ⟨.list (((ps.map (·.length)).map fun k : Nat => (k : Int)).map PyData.int), .list ((([1, sc, tl] : List Nat).map fun k : Nat => (k : Int)).map PyData.int), .lst (SqL.of eD3) (dp_ints _), .lst (SqL.of e3) (dp_ints [(1 : Int), (sc : Int), (tl : Int)]), PySem.W.shaped_ints _, PySem.W.shaped_ints _, ?_⟩
  rw [eqv_len]
  by_cases hl : ps.map (·.length) = [1, sc, tl]
  · rw [decide_eq_true hl]
    refine ⟨_, rfl, iteF ?_⟩
    refine ⟨_, rfl, z, rfl, fun D3 nD3 => ?_⟩
    have zl : z.cps.toList.length = z.length := Array.length_toList
    refine lc_it (walk_str (z := z)) (fun j H9 => Same H3 H9 ∧ H9 D3 = some (.lst ((((z.cps.toList.take j).map fun c => (c == 48 || c == 49 || c == 32)).map V.bl)))) ⟨same_upd nD3, upd_same⟩ (fun _ _ _ _ => trivial) ?_ ?_
    · rintro j v' Ha H9 hj ⟨s9, eD⟩ ⟨rfl, c, hc, rfl⟩
      have hc' : z.cps.toList[j]? = some c := by rw [Array.getElem?_toList]; exact hc
      refine ⟨rfl, yesT ?_⟩
      try simp only [L2.start, List.map_cons, List.map_nil, List.length_cons, List.length_nil, List.replicate_succ, List.replicate_zero, List.cons_append, List.nil_append, List.set_cons_succ, List.set_cons_zero, Nat.reduceAdd, Nat.reduceSub, Nat.zero_add]
      refine ⟨_, rfl, _, _, rfl, rfl, ?_⟩
      rw [in01]
      refine ⟨_, eD, ?_, fun y o e => ?_, ?_⟩
      · rw [List.length_map, List.length_map, List.length_take]
        exact Nat.lt_of_le_of_lt (Nat.min_le_right _ _) (small1000 (by omega))
      · rw [upd_ne (ne_of_none e nD3)]
        exact s9 _ _ e
      · rw [upd_same, List.take_add_one, hc', List.map_append, List.map_append]
        rfl
    rintro H4 ⟨s4, eD4⟩
    rw [List.take_of_length_le (by rw [zl]; exact Nat.le_refl _)] at eD4
    refine ⟨D3, _, rfl, .inl (.inl eD4), ?_⟩
    have ea : ((z.cps.toList.map fun c => (c == 48 || c == 49 || c == 32)).all id) = ok01 J.cps.toList := by
      rw [← ta, List.all_map]
      rfl
    rw [ea]
    by_cases ho : ok01 J.cps.toList = true
    · rw [ho]
      refine ⟨_, rfl, iteF ?_⟩
      try dsimp only [tNext]
      try simp only [L2.start, List.map_cons, List.map_nil, List.length_cons, List.length_nil, List.replicate_succ, List.replicate_zero, List.cons_append, List.nil_append, List.set_cons_succ, List.set_cons_zero, Nat.reduceAdd, Nat.reduceSub, Nat.zero_add]
      have s04 := s03.trans s4
      refine ⟨rfl, _, rfl, _, Pp, ps, rfl, rfl, .inl (SqL.of (s4 _ _ eP3)), ?_, ?_⟩
      · show (ps.map (·.length)).sum + ps.length * 0 ≤ 16777216
        omega
      rw [← hJ]
      refine ⟨J, rfl, ?_⟩
      refine for_it (walk_str (z := J)) (fun j σ H9 => ∃ (y5 : Option V), σ = [some (.str z), some (.int (sc : Int)), some (.int (tl : Int)), some (.ref Pp), some (.int ((fd2 (J.cps.toList.take j) : Nat) : Int)), y5, none] ∧ Same H4 H9) ⟨_, rfl, Same.refl _⟩ (fun _ _ _ _ _ => trivial) ?_ ?_
      · rintro j v' σ H9 H10 hj ⟨y5, rfl, s9⟩ ⟨rfl, c, hc, rfl⟩
        have hc' : J.cps.toList[j]? = some c := by rw [Array.getElem?_toList]; exact hc
        have hb : c = 48 ∨ c = 49 := by
          have := List.all_eq_true.mp ho c (List.mem_of_getElem? hc')
          simpa using this
        dsimp only [gName]
        try simp only [L2.start, List.map_cons, List.map_nil, List.length_cons, List.length_nil, List.replicate_succ, List.replicate_zero, List.cons_append, List.nil_append, List.set_cons_succ, List.set_cons_zero, Nat.reduceAdd, Nat.reduceSub, Nat.zero_add]
        refine ⟨_, rfl, _, _, rfl, rfl, .inr ⟨by decide, by decide⟩, _, rfl, rfl, .inr ⟨_, rfl, ?_⟩⟩
        refine ⟨_, _, rfl, rfl, ?_⟩
        refine ⟨some (.str ⟨#[c]⟩), ?_, s9⟩
        rw [List.take_add_one, hc', show (some c).toList = [c] from rfl, fd2_snoc]
        generalize fd2 (J.cps.toList.take j) = W
        have e : (if decide (V.str ⟨#[c]⟩ = V.str "1") = true then (1 : Int) else 0) = ((c - 48 : Nat) : Int) := by rcases hb with z | z <;> subst z <;> rfl
        show [_, _, _, _, some (V.int ((W : Int) * 2 + (if decide (V.str ⟨#[c]⟩ = V.str "1") = true then (1 : Int) else 0))), _, _] = [_, _, _, _, some (V.int ((2 * W + (c - 48) : Nat) : Int)), _, _]
        rw [e, Int.natCast_add, Int.natCast_mul, Int.mul_comm]
        rfl
      · rintro σ H9 ⟨y5, rfl, s9⟩
        rw [List.take_of_length_le (by rw [Array.length_toList]; exact Nat.le_refl _)]
        refine ⟨_, rfl, ?_⟩
        have := q _ (s04.trans s9)
        rw [rs hl ho] at this
        exact this
    · rw [Bool.eq_false_iff.mpr ho]
      refine ⟨_, rfl, iteT ?_⟩
      have := q _ (s03.trans s4)
      rw [rn fun h => ho h.2] at this
      exact this
  · rw [decide_eq_false hl]
    refine ⟨_, rfl, iteT ?_⟩
    have := q _ s03
    rw [rn fun h => hl h.1] at this
    exact iteT this
end
section
variable {P : Program} {w : World} {K : PySem.W.Frag} {mg : Str → Option Value} {base : Heap}
variable {C : Addr} {za : Nat → Addr} {zl : Nat → FuncData} {t21 : Tok} {E_BadText I_BadText E_BadForm E_BadRow E_Unfit : Addr}
/-! ### _law_told -/
theorem exm_cons {K : PySem.W.Frag} {cls c : Value} {r : List Value} {b d : Bool} (h : PySem.W.exmOne K cls c = some b) (g : PySem.W.exmAny K cls r = some d) : PySem.W.exmAny K cls (c :: r) = some (b || d) := by
  show (match PySem.W.exmOne K cls c, PySem.W.exmAny K cls r with | some b, some d => some (b || d) | _, _ => none) = _
  rw [h, g]
def spTold (C : Addr) : Sp := fun vs H Q _ => ∃ (x : Addr) (sc tl : Nat) (z : Str), vs = [.ref x, .str z] ∧ FAt C H x sc tl ∧ z.length ≤ 400 ∧ ∀ H', Same H H' → Q (oI (rdT z sc tl)) H'
theorem ok__law_told (B : Bl mg) (L : LL K mg C za zl t21 E_BadText I_BadText E_BadForm E_BadRow E_Unfit) : FnOk P w K mg base CX0 4 (za 14) (zl 14) ["_law_form_here", "_law_text_here"] (spTold C) := by
  have G_U : FnOk P w K mg base (L2.CX P w) 3 (za 3) (zl 3) ["form", "text"] (spWordG C E_BadText) := (ok_word_inG B L).mono (by decide)
  refine L.F__law_told.ok sc__law_told (fun vs H Q E h => ?_) (fun cdv A outer s H vs Q E hr h => ?_)
  · obtain ⟨x, sc, tl, z, rfl, _⟩ := h
    rfl
  obtain ⟨x, sc, tl, z, rfl, hF, hz, q⟩ := h
  refine ⟨_, (pss_cons (ps_asg (pe_tup (pa_cons pe_non (pa_cons pe_non pa_nil))) (pg_tup (by rfl) (pgs_cons (pg_name (i := 2) sc__law_told.nd rfl (.inl rfl)) (pgs_cons (pg_name (i := 3) sc__law_told.nd rfl (.inl rfl)) pgs_nil))))
    (pss_cons (ps_try_keepT (cs := [.ref E_BadForm, .ref E_BadRow, .ref E_BadText, .ref E_Unfit]) (i := 4) rfl rfl rfl sc__law_told.nd rfl rfl (.cons ⟨rfl, by decide, Or.inl L.g_BadForm⟩ (.cons ⟨rfl, by decide, Or.inl L.g_BadRow⟩ (.cons ⟨rfl, by decide, Or.inl L.g_BadText⟩ (.cons ⟨rfl, by decide, Or.inl L.g_Unfit⟩ .nil)))) (by show 4 ≤ 100; decide) (fun W pn xe tk _ => pss_one (ps_set (i := 2) sc__law_told.nd rfl (Or.inl rfl) (pe_callS G_U hr rfl L.m_word_in L.F_word_in.kp L.b_word_in (E := WE W) (fun σ => passAt tk σ) (pa_cons (pv 0) (pa_cons (pv 1) pa_nil))))) (fun a oe cls d pn hz hf => pss_one (ps_set (i := 3) sc__law_told.nd rfl (Or.inl rfl) (pv 4))))
    (pss_cons (ps_if (pt_cmpR op_isN (pv 3) pe_non (nomark _)) (pss_one (ps_ret (pv 2))) pss_nil)
    (pss_cons (ps_set (i := 5) sc__law_told.nd rfl (.inl rfl) (pe_and (pe_callB call_isW (by rfl) B.isinstance boot_isinstance (pa_cons (pv 3) (pa_cons (pe_glob (v := .ref E_BadText) rfl L.g_BadText rfl) pa_nil))) (pe_and (pe_callB call_isW (by rfl) B.isinstance boot_isinstance (pa_cons (pv 3) (pa_cons (pe_bltn (v := .ty "ValueError") (by rfl) L.z_ValueError (by decide +kernel) rfl) pa_nil))) (pe_one (pe_cmpR op_eq (pe_what (pv 3)) (pv 1) (nomark _))))))
    (pss_one (ps_ret (pe_ifExp (pt_val (pv 5)) pe_non pe_str))))))), ?_⟩
  refine ⟨(by show 2 ≤ sizeLine; decide), fun T nT => ?_⟩
  have sT := same_upd (o := .tup [.non, .non]) nT
  refine ⟨T, _, rfl, .inl (.inl upd_same), rfl, _, _, rfl, _, _, rfl, rfl, ?_⟩
  have F1 := hF.same sT
  generalize upd H T (HO.tup [.non, .non]) = H1 at *
  try simp only [L2.start, List.map_cons, List.map_nil, List.length_cons, List.length_nil, List.replicate_succ, List.replicate_zero, List.cons_append, List.nil_append, List.set_cons_succ, List.set_cons_zero, Nat.reduceAdd, Nat.reduceSub, Nat.zero_add]
  refine ⟨_, rfl, _, rfl, x, sc, tl, z, rfl, F1, hz, fun v hv H2 s2 => ?_, fun hn d H2 s2 nd => ?_⟩
  · show gName 2 _ _ _ _
    try simp only [L2.start, List.map_cons, List.map_nil, List.length_cons, List.length_nil, List.replicate_succ, List.replicate_zero, List.cons_append, List.nil_append, List.set_cons_succ, List.set_cons_zero, Nat.reduceAdd, Nat.reduceSub, Nat.zero_add]
    refine ⟨_, rfl, rfl, _, rfl, iteT ?_⟩
    have := q _ (sT.trans s2)
    rw [hv] at this
    exact ⟨_, rfl, this⟩
  · refine ⟨exm_cons L.y_BadText_BadForm (exm_cons L.y_BadText_BadRow (exm_cons L.x_BadText (exm_cons L.y_BadText_Unfit rfl))), fun a' na => ?_⟩
    refine ⟨_, rfl, ?_⟩
    have nad : a' ≠ d := fun z => by
      rw [z, upd_same] at na
      cases na
    have ek : EkAt (upd (upd H2 d (.xd [(("what" : Str), .str z)])) a' (Exk a' (.ref E_BadText) (some d))) a' E_BadText (.str z) := ⟨d, upd_same, by rw [upd_ne nad.symm, upd_same]⟩
    have s3 : Same H2 (upd (upd H2 d (.xd [(("what" : Str), .str z)])) a' (Exk a' (.ref E_BadText) (some d))) := (same_upd nd).trans (same_upd na)
    dsimp only [gName]
    generalize upd (upd H2 d (HO.xd [(("what" : Str), V.str z)])) a' (Exk a' (.ref E_BadText) (some d)) = H3 at *
    try simp only [L2.start, List.map_cons, List.map_nil, List.length_cons, List.length_nil, List.replicate_succ, List.replicate_zero, List.cons_append, List.nil_append, List.set_cons_succ, List.set_cons_zero, Nat.reduceAdd, Nat.reduceSub, Nat.zero_add]
    have w3 := sT.trans (s2.trans s3)
    refine ⟨_, rfl, rfl, _, rfl, iteF ?_⟩
    refine ⟨_, rfl, a', E_BadText, _, _, .ref E_BadText, true, rfl, L.R_BadText.toErrC, ek, .own _, L.q_BadText_BadText, ?_⟩
    refine ⟨_, rfl, ?_⟩
    refine ⟨_, rfl, a', E_BadText, _, _, .type "ValueError", true, rfl, L.R_BadText.toErrC, ek, .ty _, L.q_BadText_ValueError, ?_⟩
    refine ⟨_, rfl, iteT ?_⟩
    refine ⟨_, rfl, a', E_BadText, _, rfl, L.R_BadText.toErrC, ek, _, rfl, rfl, ?_⟩
    rw [decide_eq_true rfl]
    try dsimp only [gName]
    try simp only [L2.start, List.map_cons, List.map_nil, List.length_cons, List.length_nil, List.replicate_succ, List.replicate_zero, List.cons_append, List.nil_append, List.set_cons_succ, List.set_cons_zero, Nat.reduceAdd, Nat.reduceSub, Nat.zero_add]
    refine ⟨_, rfl, _, rfl, iteT ?_⟩
    have := q _ w3
    rw [hn] at this
    exact this
end
section
variable {P : Program} {w : World} {K : PySem.W.Frag} {mg : Str → Option Value} {base : Heap}
variable {C : Addr} {za : Nat → Addr} {zl : Nat → FuncData} {t21 : Tok} {E_BadText I_BadText E_BadForm E_BadRow E_Unfit : Addr}
/-! ### _law_bent -/
def SG : Str := "01 01 \n!\"#$&'()*+,-./23456789:;<=>?@ABCXYZ[\\]^_`abcoxyz{|}~"
theorem SG59 : SG.length = 59 := by decide +kernel
theorem SGl : SG.cps.toList.length = 59 := by decide +kernel
theorem atSG {r : Int} (h0 : 0 ≤ r) (h1 : r < 59) : ∃ c, atI SG.cps.toList r = some c := by
  obtain ⟨n, rfl⟩ : ∃ n : Nat, r = (n : Int) := ⟨r.toNat, by omega⟩
  exact ⟨_, atI_nat (List.getElem?_eq_getElem (by rw [SGl]; omega))⟩
def spBent : Sp := fun vs H Q _ => ∃ (b : Addr) (c : Int) (z : Str), vs = [.ref b, .str z] ∧ BoxAt c H b ∧ c ≤ 800000000 ∧ z.length ≤ 120 ∧
  ∀ (y : Str) (H' : Hp), y.length ≤ 3 * z.length + 1 → BoxAt (c + 3) H' b → Keep b H H' → Q (.str y) H'
theorem ok__law_bent (B : Bl mg) (L : LL K mg C za zl t21 E_BadText I_BadText E_BadForm E_BadRow E_Unfit) : FnOk P w K mg base CX0 2 (za 15) (zl 15) ["_law_box_here", "_law_text_here"] spBent := by
  have G__law_take : FnOk P w K mg base CX0 1 (za 7) (zl 7) ["_law_box_here", "_law_size"] (spTake 1) := (ok_take L.F__law_take L.b__law_take L.m__law_take B 1).mono (by decide)
  refine L.F__law_bent.ok sc__law_bent (fun vs H Q E h => ?_) (fun cdv A outer s H vs Q E hr h => ?_)
  · obtain ⟨b, c, z, rfl, _⟩ := h
    rfl
  obtain ⟨b, c, z, rfl, hB, hc, hz, q⟩ := h
  refine ⟨_, (pss_cons (ps_set (i := 2) sc__law_bent.nd rfl (.inl rfl) pe_str)
    (pss_cons (ps_par3 (by rfl) sc__law_bent.nd (i := 3) (j := 4) (l := 5) rfl rfl rfl (by decide) (by decide) (by decide) rfl rfl rfl (pa_cons (pe_call G__law_take hr (by rfl) L.m__law_take L.F__law_take.kp L.b__law_take .nil pass0 (pa_cons (pv 0) (pa_cons pe_int pa_nil))) (pa_cons (pe_call G__law_take hr (by rfl) L.m__law_take L.F__law_take.kp L.b__law_take .nil pass0 (pa_cons (pv 0) (pa_cons (pe_op op_add (pe_callB call_len_str (by rfl) B.len PySem.boot_len (pa_cons (pv 1) pa_nil)) pe_int) pa_nil))) (pa_cons (pe_ix ix_str (pv 2) (pe_call G__law_take hr (by rfl) L.m__law_take L.F__law_take.kp L.b__law_take .nil pass0 (pa_cons (pv 0) (pa_cons (pe_callB call_len_str (by rfl) B.len PySem.boot_len (pa_cons (pv 2) pa_nil)) pa_nil))) (fun _ _ => rfl)) pa_nil))) (by rfl))
    (pss_cons (ps_set (i := 6) sc__law_bent.nd rfl (.inl rfl) (pe_lst (pa_cons (pe_op op_add_str (pe_op op_add_str (pe_slice sl_str (pv 1) po_none (po_some (pv 4))) (pv 5)) (pe_slice sl_str (pv 1) (po_some (pv 4)) po_none)) (pa_cons (pe_op op_add_str (pe_op op_add_str (pe_slice sl_str (pv 1) po_none (po_some (pv 4))) (pv 5)) (pe_slice sl_str (pv 1) (po_some (pe_op op_add (pv 4) pe_int)) po_none)) (pa_cons (pe_op op_add_str (pe_slice sl_str (pv 1) po_none (po_some (pv 4))) (pe_slice sl_str (pv 1) (po_some (pe_op op_add (pv 4) pe_int)) po_none)) pa_nil)))))
    (pss_cons (ps_expr (pe_bm PySem.F.plainAttrs_list PySem.F.slot_list_append PySem.F.type_list_append mt_append (pv 6) (pa_cons (pe_op op_add_str (pe_op op_add_str (pe_slice sl_str (pv 1) po_none (po_some (pv 4))) (pe_slice sl_str (pv 1) (po_some (pv 4)) (po_some (pe_op op_add (pv 4) pe_int)))) (pe_slice sl_str (pv 1) (po_some (pv 4)) po_none)) pa_nil)))
    (pss_cons (ps_set (i := 7) sc__law_bent.nd rfl (.inl rfl) (pe_slice sl_str (pv 1) (po_some (pv 4)) (po_some (pe_op op_add (pv 4) pe_int))))
    (pss_cons (ps_expr (pe_bm PySem.F.plainAttrs_list PySem.F.slot_list_append PySem.F.type_list_append mt_append (pv 6) (pa_cons (pe_op op_add_str (pe_op op_add_str (pe_slice sl_str (pv 1) po_none (po_some (pv 4))) (pe_revS (pv 7))) (pe_slice sl_str (pv 1) (po_some (pe_op op_add (pv 4) pe_int)) po_none)) pa_nil)))
    (pss_one (ps_ret (pe_ix ix_list (pv 6) (pv 3) (fun _ _ => rfl)))))))))), ?_⟩
  have sg : (Str.ofString "01 01 \n!\"#$&'()*+,-./23456789:;<=>?@ABCXYZ[\\]^_`abcoxyz{|}~") = SG := rfl
  rw [sg]
  try dsimp only [gName]
  try simp only [L2.start, List.map_cons, List.map_nil, List.length_cons, List.length_nil, List.replicate_succ, List.replicate_zero, List.cons_append, List.nil_append, List.set_cons_succ, List.set_cons_zero, Nat.reduceAdd, Nat.reduceSub, Nat.zero_add]
  have zs : z.length ≤ sizeLine := Nat.le_trans hz (by decide)
  have cl := fun lo hi => cutS_length z lo hi
  have big : ∀ {n : Nat}, n ≤ 1000 → n ≤ sizeLine := fun h => Nat.le_trans h (by decide)
  refine ⟨_, rfl, b, _, _, rfl, hB, by decide, by decide, by decide, by omega, by decide, fun r1 H1 u1 v1 B1 k1 => ?_⟩
  replace B1 := bx1 B1
  refine ⟨_, rfl, _, rfl, z, rfl, zs, _, _, rfl, rfl, b, _, _, rfl, B1, by omega, by omega, by omega, by omega, by decide, fun r2 H2 u2 v2 B2 k2 => ?_⟩
  replace B2 := bx1 B2
  refine ⟨_, rfl, _, rfl, _, rfl, SG, rfl, (by rw [SG59]; decide), ?_⟩
  rw [SG59]
  refine ⟨b, _, _, rfl, B2, by decide, by decide, by decide, by omega, by decide, fun r3 H3 u3 v3 B3 k3 => ?_⟩
  replace B3 := bx1 B3
  obtain ⟨ch, hch⟩ := atSG u3 v3
  refine ⟨SG, r3, ch, rfl, rfl, (by rw [SG59]; decide), hch, ?_⟩
  refine ⟨_, _, _, rfl, ?_⟩
  try dsimp only [gName]
  try simp only [L2.start, List.map_cons, List.map_nil, List.length_cons, List.length_nil, List.replicate_succ, List.replicate_zero, List.cons_append, List.nil_append, List.set_cons_succ, List.set_cons_zero, Nat.reduceAdd, Nat.reduceSub, Nat.zero_add]
  have k03 := k1.trans (k2.trans k3)
  have h1 := cl none (some r2)
  have h2 := cl (some r2) none
  have h3 := cl (some (r2 + 1)) none
  have h4 := cl (some r2) (some (r2 + 1))
  have h5 := cl (some r2) (some (r2 + 2))
  have h6 := cl (some (r2 + 2)) none
  have h7 : (⟨#[ch]⟩ : Str).length = 1 := rfl
  refine ⟨_, rfl, _, rfl, _, rfl, z, rfl, zs, _, rfl, _, _, rfl, rfl, (by refine big ?_; (try simp only [len_ap]); omega), _, rfl, _, rfl, _, rfl, z, rfl, zs, _, _, rfl, rfl, (by refine big ?_; (try simp only [len_ap]); omega), ?_⟩
  refine ⟨_, rfl, _, rfl, _, rfl, z, rfl, zs, _, rfl, _, _, rfl, rfl, (by refine big ?_; (try simp only [len_ap]); omega), _, rfl, _, rfl, _, _, rfl, rfl, _, rfl, z, rfl, zs, _, _, rfl, rfl, (by refine big ?_; (try simp only [len_ap]); omega), ?_⟩
  refine ⟨_, rfl, _, rfl, _, rfl, z, rfl, zs, _, rfl, _, rfl, _, _, rfl, rfl, _, rfl, z, rfl, zs, _, _, rfl, rfl, (by refine big ?_; (try simp only [len_ap]); omega), ?_⟩
  refine ⟨(by show 3 ≤ sizeLine; decide), fun D nD => ?_⟩
  obtain ⟨y1, hy1⟩ : ∃ y, y = cutS z none (some r2) ++ ⟨#[ch]⟩ ++ cutS z (some r2) none := ⟨_, rfl⟩
  obtain ⟨y2, hy2⟩ : ∃ y, y = cutS z none (some r2) ++ ⟨#[ch]⟩ ++ cutS z (some (r2 + 1)) none := ⟨_, rfl⟩
  obtain ⟨y3, hy3⟩ : ∃ y, y = cutS z none (some r2) ++ cutS z (some (r2 + 1)) none := ⟨_, rfl⟩
  have l1 : y1.length ≤ 3 * z.length + 1 := by rw [hy1]; simp only [len_ap]; omega
  have l2 : y2.length ≤ 3 * z.length + 1 := by rw [hy2]; simp only [len_ap]; omega
  have l3 : y3.length ≤ 3 * z.length + 1 := by rw [hy3]; simp only [len_ap]; omega
  show gName 6 (.ref D) _ (upd H3 D (.lst [.str (cutS z none (some r2) ++ ⟨#[ch]⟩ ++ cutS z (some r2) none), .str (cutS z none (some r2) ++ ⟨#[ch]⟩ ++ cutS z (some (r2 + 1)) none), .str (cutS z none (some r2) ++ cutS z (some (r2 + 1)) none)])) _
  rw [← hy1, ← hy2, ← hy3]
  clear hy1 hy2 hy3
  have nDb : D ≠ b := (B3.ne nD).symm
  have eD : (upd H3 D (.lst [.str y1, .str y2, .str y3])) D = some (.lst [.str y1, .str y2, .str y3]) := upd_same
  have B4 : BoxAt (c + 3) (upd H3 D (.lst [.str y1, .str y2, .str y3])) b := BoxAt.mono (B3.at (upd_ne nDb.symm)) (by omega)
  have k4 : Keep b H (upd H3 D (.lst [.str y1, .str y2, .str y3])) := k03.trans (Keep.new nD)
  have kD : ∀ p o, H p = some o → p ≠ b → p ≠ D := fun p o e n z => by
    have := k03 _ _ e n
    rw [z, nD] at this
    cases this
  generalize upd H3 D (.lst [.str y1, .str y2, .str y3]) = H4 at *
  try dsimp only [gName]
  try simp only [L2.start, List.map_cons, List.map_nil, List.length_cons, List.length_nil, List.replicate_succ, List.replicate_zero, List.cons_append, List.nil_append, List.set_cons_succ, List.set_cons_zero, Nat.reduceAdd, Nat.reduceSub, Nat.zero_add]
  refine ⟨_, rfl, .inl ⟨rfl, _, SqL.of eD⟩, _, rfl, _, rfl, _, rfl, z, rfl, zs, _, rfl, _, rfl, _, rfl, _, rfl, _, _, rfl, rfl, _, rfl, z, rfl, zs, _, _, rfl, rfl, (by refine big ?_; (try simp only [len_ap]); omega), _, rfl, _, rfl, _, rfl, z, rfl, zs, _, _, rfl, rfl, (by refine big ?_; (try simp only [len_ap]); omega), ?_⟩
  refine ⟨D, _, _, rfl, rfl, eD, (by show 3 < sizeLine; decide), ?_⟩
  obtain ⟨y4, hy4⟩ : ∃ y, y = cutS z none (some r2) ++ cutS z (some r2) (some (r2 + 1)) ++ cutS z (some r2) none := ⟨_, rfl⟩
  have l4 : y4.length ≤ 3 * z.length + 1 := by rw [hy4]; simp only [len_ap]; omega
  try dsimp only [tNext]
  try simp only [L2.start, List.map_cons, List.map_nil, List.length_cons, List.length_nil, List.replicate_succ, List.replicate_zero, List.cons_append, List.nil_append, List.set_cons_succ, List.set_cons_zero, Nat.reduceAdd, Nat.reduceSub, Nat.zero_add]
  refine ⟨_, rfl, _, rfl, _, rfl, _, rfl, _, _, rfl, rfl, _, rfl, z, rfl, zs, ?_⟩
  try dsimp only [gName]
  try simp only [L2.start, List.map_cons, List.map_nil, List.length_cons, List.length_nil, List.replicate_succ, List.replicate_zero, List.cons_append, List.nil_append, List.set_cons_succ, List.set_cons_zero, Nat.reduceAdd, Nat.reduceSub, Nat.zero_add]
  rw [← hy4]
  have eD2 : (upd H4 D (.lst [.str y1, .str y2, .str y3, .str y4])) D = some (.lst [.str y1, .str y2, .str y3, .str y4]) := upd_same
  refine ⟨_, rfl, .inl ⟨rfl, _, SqL.of eD2⟩, _, rfl, _, rfl, _, rfl, z, rfl, zs, _, rfl, _, rfl, big (by omega), fun rv lrv => ?_⟩
  refine ⟨_, _, rfl, rfl, (by refine big ?_; (try simp only [len_ap]); omega), _, rfl, _, rfl, _, _, rfl, rfl, _, rfl, z, rfl, zs, _, _, rfl, rfl, (by refine big ?_; (try simp only [len_ap]); omega), ?_⟩
  obtain ⟨y5, hy5⟩ : ∃ y, y = cutS z none (some r2) ++ rv ++ cutS z (some (r2 + 2)) none := ⟨_, rfl⟩
  have l5 : y5.length ≤ 3 * z.length + 1 := by rw [hy5]; simp only [len_ap]; omega
  refine ⟨D, _, _, rfl, rfl, eD2, (by show 4 < sizeLine; decide), ?_⟩
  try dsimp only [tNext]
  try simp only [L2.start, List.map_cons, List.map_nil, List.length_cons, List.length_nil, List.replicate_succ, List.replicate_zero, List.cons_append, List.nil_append, List.set_cons_succ, List.set_cons_zero, Nat.reduceAdd, Nat.reduceSub, Nat.zero_add]
  rw [← hy5]
  have eD3 : (upd (upd H4 D (.lst [.str y1, .str y2, .str y3, .str y4])) D (.lst [.str y1, .str y2, .str y3, .str y4, .str y5])) D = some (.lst [.str y1, .str y2, .str y3, .str y4, .str y5]) := upd_same
  obtain ⟨yy, at5, l6⟩ : ∃ yy : Str, atI ([.str y1, .str y2, .str y3, .str y4, .str y5] : List V) r1 = some (.str yy) ∧ yy.length ≤ 3 * z.length + 1 := by
    have c5 : r1 = 0 ∨ r1 = 1 ∨ r1 = 2 ∨ r1 = 3 ∨ r1 = 4 := by omega
    rcases c5 with h | h | h | h | h <;> subst h
    · exact ⟨y1, rfl, l1⟩
    · exact ⟨y2, rfl, l2⟩
    · exact ⟨y3, rfl, l3⟩
    · exact ⟨y4, rfl, l4⟩
    · exact ⟨y5, rfl, l5⟩
  refine ⟨_, rfl, _, rfl, D, _, _, _, rfl, rfl, SqL.of eD3, at5, ?_⟩
  refine q yy _ l6 (B4.at (by rw [upd_ne nDb.symm, upd_ne nDb.symm])) fun p o e n => ?_
  rw [upd_ne (kD p o e n), upd_ne (kD p o e n)]
  exact k4 _ _ e n
end
section
variable {P : Program} {w : World} {K : PySem.W.Frag} {mg : Str → Option Value} {base : Heap}
variable {C : Addr} {za : Nat → Addr} {zl : Nat → FuncData} {t21 : Tok} {E_BadText I_BadText E_BadForm E_BadRow E_Unfit : Addr}
/-! ### _law_right -/
theorem keepN4 {b a : Addr} {H H' : Hp} (k : Keep b H H') (n : a ≠ b) (h : H' a = none) : H a = none := by
  cases e : H a with
  | none => rfl
  | some o =>
    rw [k _ _ e n] at h
    cases h
def oD : Option Nat → PyData
  | none => .none
  | some v => .int (v : Int)
theorem oD_lv : ∀ o, Lv 0 (oD o)
  | none => trivial
  | some _ => trivial
theorem oD_dp {K : PySem.W.Frag} {H : Hp} : ∀ o, Dp K H (oI o) (oD o)
  | none => .non
  | some _ => .int _
def spRight : Sp := fun vs H Q _ => ∃ (b : Addr) (c : Int), vs = [.ref b] ∧ BoxAt c H b ∧ c ≤ 700000000 ∧ (∀ H', Keep b H H' → Q (.bl true) H')
theorem ok__law_right (B : Bl mg) (L : LL K mg C za zl t21 E_BadText I_BadText E_BadForm E_BadRow E_Unfit) : FnOk P w K mg base CX0 8 (za 16) (zl 16) ["_law_box_here"] spRight := by
  have GU__law_text : FnOkU P w K mg base CX0 7 (za 12) (zl 12) ["_law_word_here", "_law_scale", "_law_tail"] spLT := (okU__law_text B L).mono (by decide)
  have G__law_form : FnOk P w K mg base CX0 7 (za 10) (zl 10) ["_law_box_here"] spForm := (ok__law_form B L).mono (by decide)
  have G__law_take : FnOk P w K mg base CX0 7 (za 7) (zl 7) ["_law_box_here", "_law_size"] (spTake 1) := (ok_take L.F__law_take L.b__law_take L.m__law_take B 1).mono (by decide)
  have G__law_word : FnOk P w K mg base CX0 7 (za 11) (zl 11) ["_law_box_here", "_law_scale", "_law_tail"] spWord := (ok__law_word B L).mono (by decide)
  have G_Form___init__ : FnOk P w K mg base CX0 6 (za 17) (zl 17) ["self", "scale", "tail"] (spInit C) := (ok_Form___init__ B L).mono (by decide)
  have G_spelled : FnOk P w K mg base CX0 7 (za 1) (zl 1) ["form", "word"] (spSpell C) := (ok_spelled B L).mono (by decide)
  have G_word_in : FnOk P w K mg base CX0 7 (za 3) (zl 3) ["form", "text"] (spWordIn C) := (ok_word_in B L).mono (by decide)
  have G__law_text : FnOk P w K mg base CX0 7 (za 12) (zl 12) ["_law_word_here", "_law_scale", "_law_tail"] spLT := (ok__law_text B L).mono (by decide)
  have G__law_read : FnOk P w K mg base CX0 7 (za 13) (zl 13) ["_law_text_here", "_law_scale", "_law_tail"] spRd := (ok__law_read B L).mono (by decide)
  have G__law_told : FnOk P w K mg base CX0 7 (za 14) (zl 14) ["_law_form_here", "_law_text_here"] (spTold C) := (ok__law_told B L).mono (by decide)
  have G__law_bent : FnOk P w K mg base CX0 7 (za 15) (zl 15) ["_law_box_here", "_law_text_here"] spBent := (ok__law_bent B L).mono (by decide)
  have G__law_same : FnOk P w K mg base CX0 7 (za 9) (zl 9) ["_law_found", "_law_due"] (spSame K 1) := (ok_same L.F__law_same L.b__law_same L.m__law_same B 1).mono (by decide)
  refine L.F__law_right.ok sc__law_right (fun vs H Q E h => ?_) (fun cdv A outer s H vs Q E hr h => ?_)
  · obtain ⟨b, c, rfl, _⟩ := h
    rfl
  obtain ⟨b, c, rfl, hB, hc, q⟩ := h
  refine ⟨_, (pss_cons (ps_asg (pe_call G__law_form hr (by rfl) L.m__law_form L.F__law_form.kp L.b__law_form .nil pass0 (pa_cons (pv 0) pa_nil)) (pg_tup (by rfl) (pgs_cons (pg_name (i := 1) sc__law_right.nd rfl (.inl rfl)) (pgs_cons (pg_name (i := 2) sc__law_right.nd rfl (.inl rfl)) pgs_nil))))
    (pss_cons (ps_set (i := 3) sc__law_right.nd rfl (.inl rfl) (pe_make L.M G_Form___init__ hr (by rfl) L.T.mgC L.b_Form___init__ .nil pass0 (pa_cons (pv 1) (pa_cons (pv 2) pa_nil))))
    (pss_cons (ps_for PassesOwn.never rfl (pi_range1 (by rfl) B.range (pa_cons pe_int pa_nil)) (pg_name (i := 4) sc__law_right.nd rfl (.inl rfl)) (pss_cons (ps_set (i := 5) sc__law_right.nd rfl (.inl rfl) (pe_call G__law_word hr (by rfl) L.m__law_word L.F__law_word.kp L.b__law_word .nil pass0 (pa_cons (pv 0) (pa_cons (pv 1) (pa_cons (pv 2) pa_nil))))) (pss_upT (psu_set (i := 6) sc__law_right.nd rfl (.inl rfl) (pe_callU GU__law_text hr (by rfl) L.m__law_text L.F__law_text.kp L.b__law_text .nil pass0 (pa_cons (pv 5) (pa_cons (pv 1) (pa_cons (pv 2) pa_nil))))) (psst_cons (PST.of (ps_if (PW.pt (pw_or (pt_not (pt_val (pe_call G__law_same hr (by rfl) L.m__law_same L.F__law_same.kp L.b__law_same .nil pass0 (pa_cons (pe_call G_spelled hr (by rfl) L.m_spelled L.F_spelled.kp L.b_spelled .nil pass0 (pa_cons (pv 3) (pa_cons (pv 5) pa_nil))) (pa_cons (pv 6) pa_nil))))) (pw_or1 (pt_not (pt_val (pe_call G__law_same hr (by rfl) L.m__law_same L.F__law_same.kp L.b__law_same .nil pass0 (pa_cons (pe_call G_word_in hr (by rfl) L.m_word_in L.F_word_in.kp L.b_word_in .nil pass0 (pa_cons (pv 3) (pa_cons (pv 6) pa_nil))) (pa_cons (pv 5) pa_nil)))))))) (pss_one (ps_ret pe_bl)) pss_nil)) (psst_cons (pst_par (by rfl) sc__law_right.nd (i := 7) (j := 8) rfl rfl (by decide) rfl rfl (pat_cons (CwR.pet_replC (pv 6)) (PAT.of (pa_cons (pe_call G__law_text hr (by rfl) L.m__law_text L.F__law_text.kp L.b__law_text .nil pass0 (pa_cons (pv 5) (pa_cons (pv 1) (pa_cons (pe_op op_add (pv 2) pe_int) pa_nil)))) pa_nil))) (by rfl)) (psst_cons (PST.of (ps_set (i := 9) sc__law_right.nd rfl (.inl rfl) (pe_lst (pa_cons (pv 7) (pa_cons (pv 8) (pa_cons (pe_op op_add_str (pv 6) pe_str) (pa_cons (pe_op op_add_str pe_str (pv 6)) (pa_cons pe_str (pa_cons pe_str (pa_cons pe_str (pa_cons (pe_op op_add_str pe_str (pv 6)) pa_nil))))))))))) (psst_cons (pst_set (i := 9) sc__law_right.nd rfl (.inl rfl) (CwR.pet_op op_cat (CwR.PET.of (pv 9)) (pet_lst (pat_cons (CwR.pet_replC (pv 6)) (PAT.of (pa_cons (pe_op op_add_str pe_str (pv 6)) pa_nil)))))) (PSsT.of (pss_cons (ps_for PassesOwn.never rfl (pi_tup (pe_tup (pa_cons pe_str (pa_cons pe_str (pa_cons pe_str (pa_cons pe_str pa_nil)))))) (pg_name (i := 10) sc__law_right.nd rfl (.inl rfl)) (pss_cons (ps_set (i := 11) sc__law_right.nd rfl (.inl rfl) (pe_ix ix_list (pe_lst (pa_cons pe_int (pa_cons (pe_op op_add pe_int (pv 1)) (pa_cons (pe_op op_sub (pe_callB call_len_str (by rfl) B.len PySem.boot_len (pa_cons (pv 6) pa_nil)) pe_int) pa_nil)))) (pe_call G__law_take hr (by rfl) L.m__law_take L.F__law_take.kp L.b__law_take .nil pass0 (pa_cons (pv 0) (pa_cons pe_int pa_nil))) (fun _ _ => rfl)))
    (pss_one (ps_expr (pe_bm PySem.F.plainAttrs_list PySem.F.slot_list_append PySem.F.type_list_append mt_append (pv 9) (pa_cons (pe_op op_add_str (pe_op op_add_str (pe_slice sl_str (pv 6) po_none (po_some (pv 11))) (pv 10)) (pe_slice sl_str (pv 6) (po_some (pe_op op_add (pv 11) pe_int)) po_none)) pa_nil))))))
    (pss_cons (ps_for PassesOwn.never rfl (pi_range1 (by rfl) B.range (pa_cons pe_int pa_nil)) (pg_name (i := 12) sc__law_right.nd rfl (.inl rfl)) (pss_cons (ps_set (i := 13) sc__law_right.nd rfl (.inl rfl) (pe_call G__law_bent hr (by rfl) L.m__law_bent L.F__law_bent.kp L.b__law_bent .nil pass0 (pa_cons (pv 0) (pa_cons (pv 6) pa_nil))))
    (pss_one (ps_expr (pe_bm PySem.F.plainAttrs_list PySem.F.slot_list_append PySem.F.type_list_append mt_append (pv 9) (pa_cons (pe_ifExp (pt_cmpR op_eq (pe_call G__law_take hr (by rfl) L.m__law_take L.F__law_take.kp L.b__law_take .nil pass0 (pa_cons (pv 0) (pa_cons pe_int pa_nil))) pe_int (nomark _)) (pe_call G__law_bent hr (by rfl) L.m__law_bent L.F__law_bent.kp L.b__law_bent .nil pass0 (pa_cons (pv 0) (pa_cons (pv 13) pa_nil))) (pv 13)) pa_nil))))))
    (pss_one (ps_for PassesOwn.never rfl (pi_list (pv 9)) (pg_name (i := 14) sc__law_right.nd rfl (.inl rfl)) (pss_one (ps_if (pt_not (pt_val (pe_call G__law_same hr (by rfl) L.m__law_same L.F__law_same.kp L.b__law_same .nil pass0 (pa_cons (pe_call G__law_told hr (by rfl) L.m__law_told L.F__law_told.kp L.b__law_told .nil pass0 (pa_cons (pv 3) (pa_cons (pv 14) pa_nil))) (pa_cons (pe_call G__law_read hr (by rfl) L.m__law_read L.F__law_read.kp L.b__law_read .nil pass0 (pa_cons (pv 14) (pa_cons (pv 1) (pa_cons (pv 2) pa_nil)))) pa_nil))))) (pss_one (ps_ret pe_bl)) pss_nil))))))))))))))
    (pss_one (ps_ret pe_bl))))), ?_⟩
  refine ⟨_, rfl, b, c, rfl, hB, by omega, fun p1 sc1 tl1 H1 e1 a1 a2 a3 a4 B1 k1 => ?_⟩
  refine ⟨p1, _, rfl, .inl (.inl e1), rfl, _, _, rfl, _, _, rfl, rfl, ?_⟩
  try dsimp only [gName]
  try simp only [L2.start, List.map_cons, List.map_nil, List.length_cons, List.length_nil, List.replicate_succ, List.replicate_zero, List.cons_append, List.nil_append, List.set_cons_succ, List.set_cons_zero, Nat.reduceAdd, Nat.reduceSub, Nat.zero_add]
  refine ⟨_, rfl, _, rfl, fun x dx nx ndx ne => ?_⟩
  refine ⟨x, dx, sc1, tl1, rfl, upd_same, a1, a2, a3, a4, fun H2 F2 kp => ⟨rfl, ?_⟩⟩
  have s2 : Same H1 H2 := made nx ndx ne kp
  have B2 := B1.same s2
  have k2 := k1.trans (Keep.ofSame s2)
  have nxb : x ≠ b := fun z => by
    obtain ⟨_, _, _, hb, _⟩ := B2
    obtain ⟨_, hf, _⟩ := F2
    rw [z, hb] at hf
    cases hf
  try dsimp only [gName]
  try simp only [L2.start, List.map_cons, List.map_nil, List.length_cons, List.length_nil, List.replicate_succ, List.replicate_zero, List.cons_append, List.nil_append, List.set_cons_succ, List.set_cons_zero, Nat.reduceAdd, Nat.reduceSub, Nat.zero_add]
  refine ⟨8, rfl, by decide, by decide, ?_⟩
  refine for_range (n := 8) (fun j σ G => ∃ y4 y5 y6 y7 y8 y9 y10 y11 y12 y13 y14 : Option V, σ = [some (.ref b), some (.int (sc1 : Int)), some (.int (tl1 : Int)), some (.ref x), y4, y5, y6, y7, y8, y9, y10, y11, y12, y13, y14] ∧ Keep b H2 G ∧ BoxAt (c + 5 + 60 * j) G b) ⟨_, _, _, _, _, _, _, _, _, _, _, rfl, fun _ _ e _ => e, B2.mono (by omega)⟩ ?_ ?_
  · rintro j σ G hj ⟨y4, y5, y6, y7, y8, y9, y10, y11, y12, y13, y14, rfl, kG, BG⟩
    try dsimp only [gName]
    try simp only [L2.start, List.map_cons, List.map_nil, List.length_cons, List.length_nil, List.replicate_succ, List.replicate_zero, List.cons_append, List.nil_append, List.set_cons_succ, List.set_cons_zero, Nat.reduceAdd, Nat.reduceSub, Nat.zero_add]
    refine ⟨_, rfl, _, rfl, _, rfl, b, sc1, tl1, _, rfl, a1, a2, a3, a4, BG, by omega, fun r G2 r0 r1' B3 k3 => ?_⟩
    obtain ⟨m, rfl⟩ : ∃ m : Nat, r = (m : Int) := ⟨r.toNat, by omega⟩
    have hm : m < 2 ^ (1 + sc1 + tl1) := by
      have c : ((2 ^ (1 + sc1 + tl1) : Nat) : Int) = (2 : Int) ^ (1 + sc1 + tl1) := PySem.W.kbt_cast _
      omega
    try dsimp only [gName]
    try simp only [L2.start, List.map_cons, List.map_nil, List.length_cons, List.length_nil, List.replicate_succ, List.replicate_zero, List.cons_append, List.nil_append, List.set_cons_succ, List.set_cons_zero, Nat.reduceAdd, Nat.reduceSub, Nat.zero_add]
    refine ⟨_, rfl, _, rfl, _, rfl, sc1, tl1, m, rfl, by omega, a2, a3, by omega, fun G3 s3 => ?_⟩
    try dsimp only [gName]
    try simp only [L2.start, List.map_cons, List.map_nil, List.length_cons, List.length_nil, List.replicate_succ, List.replicate_zero, List.cons_append, List.nil_append, List.set_cons_succ, List.set_cons_zero, Nat.reduceAdd, Nat.reduceSub, Nat.zero_add]
    have k03 : Keep b H2 G3 := (kG.trans k3).trans (Keep.ofSame s3)
    have F3 := F2.keep k03 nxb
    have B4 := B3.same s3
    have lT : (spT sc1 tl1 m).length ≤ 35 := by
      rw [spT_len]
      omega
    have lO : (spT sc1 (tl1 + 1) m).length ≤ 36 := by
      rw [spT_len]
      omega
    refine ⟨_, rfl, _, rfl, x, sc1, tl1, m, rfl, F3, fun G4 s4 => ?_⟩
    refine ⟨_, rfl, .str (spT sc1 tl1 m), .str (spT sc1 tl1 m), .str (spT sc1 tl1 m), 0, rfl, rfl, trivial, .str _, .str _, fun G5 s5 => ?_⟩
    refine ⟨_, rfl, iteF ?_⟩
    refine ⟨_, rfl, _, rfl, x, sc1, tl1, m, rfl, (F3.same s4).same s5, hm, fun G6 s6 => ?_⟩
    refine ⟨_, rfl, .int (m : Int), .int (m : Int), .int (m : Int), 0, rfl, rfl, trivial, .int _, .int _, fun G7 s7 => ?_⟩
    refine ⟨_, rfl, iteF ?_⟩
    have s37 := ((s4.trans s5).trans s6).trans s7
    have F7 := F3.same s37
    have B7 := B4.same s37
    have k07 := k03.trans (Keep.ofSame s37)
    try dsimp only [tNext]
    try simp only [L2.start, List.map_cons, List.map_nil, List.length_cons, List.length_nil, List.replicate_succ, List.replicate_zero, List.cons_append, List.nil_append, List.set_cons_succ, List.set_cons_zero, Nat.reduceAdd, Nat.reduceSub, Nat.zero_add]
    have rl := TK.replace_len (spT sc1 tl1 m) " " ""
    have rl2 := TK.replace_len (spT sc1 tl1 m) " " "  "
    have e0 : ("" : Str).length = 0 := rfl
    have e2 : ("  " : Str).length = 2 := rfl
    rw [e0] at rl
    rw [e2] at rl2
    refine ⟨_, rfl, _, rfl, (by rw [e0]; omega), ?_⟩
    refine ⟨_, rfl, _, rfl, _, rfl, _, _, rfl, rfl, sc1, tl1 + 1, m, rfl, by omega, a2, by omega, by omega, fun G8 s8 => ?_⟩
    refine ⟨_, _, rfl, ?_⟩
    have k08 := k07.trans (Keep.ofSame s8)
    have B8 := B7.same s8
    have F8 := F7.same s8
    try dsimp only [gName]
    try simp only [L2.start, List.map_cons, List.map_nil, List.length_cons, List.length_nil, List.replicate_succ, List.replicate_zero, List.cons_append, List.nil_append, List.set_cons_succ, List.set_cons_zero, Nat.reduceAdd, Nat.reduceSub, Nat.zero_add]
    have big : ∀ {n : Nat}, n ≤ 1000 → n ≤ sizeLine := fun h => Nat.le_trans h (by decide)
    have o1 : (" " : Str).length = 1 := rfl
    have o2 : ("0b" : Str).length = 2 := rfl
    have o3 : ("0_" : Str).length = 2 := rfl
    refine ⟨_, rfl, _, rfl, _, rfl, _, _, rfl, rfl, big (by omega), _, rfl, _, _, rfl, rfl, big (by omega), _, rfl, _, _, rfl, rfl, big (by omega), (by show 8 ≤ sizeLine; decide), fun D nD => ?_⟩
    show gName 9 (.ref D) _ (upd G8 D (.lst (([Txt.replace (spT sc1 tl1 m) " " "", spT sc1 (tl1 + 1) m, spT sc1 tl1 m ++ " ", " " ++ spT sc1 tl1 m, "", " ", "  ", "0b" ++ spT sc1 tl1 m] : List Str).map V.str))) _
    obtain ⟨zs, hz⟩ : ∃ zs : List Str, zs = [Txt.replace (spT sc1 tl1 m) " " "", spT sc1 (tl1 + 1) m, spT sc1 tl1 m ++ " ", " " ++ spT sc1 tl1 m, "", " ", "  ", "0b" ++ spT sc1 tl1 m] := ⟨_, rfl⟩
    rw [← hz]
    have lz : zs.length = 8 := by rw [hz]; rfl
    have bz : ∀ z ∈ zs, z.length ≤ 400 := by
      intro z h
      rw [hz] at h
      simp only [List.mem_cons, List.not_mem_nil, or_false] at h
      rcases h with h | h | h | h | h | h | h | h <;> subst h
      · omega
      · omega
      · rw [len_ap]; omega
      · rw [len_ap]; omega
      · decide
      · decide
      · decide
      · rw [len_ap]; omega
    clear hz
    have sD := same_upd (o := .lst (zs.map V.str)) nD
    have eD : (upd G8 D (.lst (zs.map V.str))) D = some (.lst (zs.map V.str)) := upd_same
    have B9 := B8.same sD
    have k09 := k08.trans (Keep.ofSame sD)
    generalize upd G8 D (.lst (zs.map V.str)) = G9 at *
    try dsimp only [gName]
    try simp only [L2.start, List.map_cons, List.map_nil, List.length_cons, List.length_nil, List.replicate_succ, List.replicate_zero, List.cons_append, List.nil_append, List.set_cons_succ, List.set_cons_zero, Nat.reduceAdd, Nat.reduceSub, Nat.zero_add]
    refine ⟨_, rfl, _, rfl, _, rfl, (by rw [e2]; omega), _, rfl, _, _, rfl, rfl, big (by omega), (by show 2 ≤ sizeLine; decide), fun D2 nD2 => ?_⟩
    have sD2 := same_upd (o := .lst ([Txt.replace (spT sc1 tl1 m) " " "  ", "0_" ++ spT sc1 tl1 m].map V.str)) nD2
    have eD2 : (upd G9 D2 (.lst ([Txt.replace (spT sc1 tl1 m) " " "  ", "0_" ++ spT sc1 tl1 m].map V.str))) D2 = some (.lst ([Txt.replace (spT sc1 tl1 m) " " "  ", "0_" ++ spT sc1 tl1 m].map V.str)) := upd_same
    have B10 := B9.same sD2
    have k10 := k09.trans (Keep.ofSame sD2)
    have eD' := sD2 _ _ eD
    show rCat (.ref D) (.ref D2) (upd G9 D2 (.lst ([Txt.replace (spT sc1 tl1 m) " " "  ", "0_" ++ spT sc1 tl1 m].map V.str))) _
    generalize upd G9 D2 (.lst ([Txt.replace (spT sc1 tl1 m) " " "  ", "0_" ++ spT sc1 tl1 m].map V.str)) = G10 at *
    refine ⟨D, D2, _, _, rfl, rfl, eD', eD2, (by rw [List.length_map, lz]; show 8 + 2 ≤ sizeLine; decide), fun D3 nD3 => ?_⟩
    rw [← List.map_append]
    obtain ⟨us, hu⟩ : ∃ us : List Str, us = zs ++ [Txt.replace (spT sc1 tl1 m) " " "  ", "0_" ++ spT sc1 tl1 m] := ⟨_, rfl⟩
    rw [← hu]
    have lu : us.length = 10 := by rw [hu, List.length_append, lz]; rfl
    have bu : ∀ z ∈ us, z.length ≤ 400 := by
      intro z h
      rw [hu] at h
      rcases List.mem_append.mp h with h | h
      · exact bz z h
      · simp only [List.mem_cons, List.not_mem_nil, or_false] at h
        rcases h with h | h <;> subst h
        · omega
        · rw [len_ap]; omega
    clear hu
    have sD3 := same_upd (o := .lst (us.map V.str)) nD3
    have eD3 : (upd G10 D3 (.lst (us.map V.str))) D3 = some (.lst (us.map V.str)) := upd_same
    have B11 := B10.same sD3
    have k11 := k10.trans (Keep.ofSame sD3)
    have nD3b : D3 ≠ b := (B10.ne nD3).symm
    have hD3 : H2 D3 = none := keepN4 k10 nD3b nD3
    generalize upd G10 D3 (.lst (us.map V.str)) = G11 at *
    try dsimp only [gName]
    try simp only [L2.start, List.map_cons, List.map_nil, List.length_cons, List.length_nil, List.replicate_succ, List.replicate_zero, List.cons_append, List.nil_append, List.set_cons_succ, List.set_cons_zero, Nat.reduceAdd, Nat.reduceSub, Nat.zero_add]
    have lTs : (spT sc1 tl1 m).length ≤ sizeLine := big (by omega)
    refine ⟨(by show 4 ≤ sizeLine; decide), fun T nT => ?_⟩
    have sT := same_upd (o := .tup [.str "_", .str "+", .str "-", .str "\n"]) nT
    have eT : (upd G11 T (.tup [.str "_", .str "+", .str "-", .str "\n"])) T = some (.tup [.str "_", .str "+", .str "-", .str "\n"]) := upd_same
    have B12 := B11.same sT
    have k12 := k11.trans (Keep.ofSame sT)
    have eD3' := sT _ _ eD3
    generalize upd G11 T (.tup [.str "_", .str "+", .str "-", .str "\n"]) = G12 at *
    refine ⟨T, rfl, ⟨_, SqT.of eT⟩, ?_⟩
    refine for_it (walk_tup (K := K) (a := T) (xs := [.str "_", .str "+", .str "-", .str "\n"])) (fun i σ G' => ∃ (y7 y8 y10 y11 y12 y13 y14 : Option V) (ws : List Str), σ = [some (.ref b), some (.int (sc1 : Int)), some (.int (tl1 : Int)), some (.ref x), some (.int (0 + (j : Int))), some (.int (m : Int)), some (.str (spT sc1 tl1 m)), y7, y8, some (.ref D3), y10, y11, y12, y13, y14] ∧ ws.length = 10 + i ∧ (∀ z ∈ ws, z.length ≤ 400) ∧ G' D3 = some (.lst (ws.map V.str)) ∧ Keep b H2 G' ∧ BoxAt (c + 5 + 60 * j + 20 + 2 * i) G' b ∧ G' T = some (.tup [.str "_", .str "+", .str "-", .str "\n"])) ⟨_, _, _, _, _, _, _, us, rfl, lu, bu, eD3', k12, B12.mono (by omega), eT⟩ (fun i σ G' _ ⟨_, _, _, _, _, _, _, _, _, _, _, _, _, _, h⟩ => SqT.of h) ?_ ?_
    · rintro i v σ G13 G14 hi ⟨y7, y8, y10, y11, y12, y13, y14, ws, rfl, lw, bw, eW, kW, BW, eT'⟩ ⟨rfl, hz⟩
      obtain ⟨od, rfl, lo⟩ : ∃ od : Str, v = .str od ∧ od.length = 1 := by
        have hi4 : i < 4 := hi
        have c4 : i = 0 ∨ i = 1 ∨ i = 2 ∨ i = 3 := by omega
        rcases c4 with h | h | h | h <;> subst h <;> cases hz
        · exact ⟨_, rfl, rfl⟩
        · exact ⟨_, rfl, rfl⟩
        · exact ⟨_, rfl, rfl⟩
        · exact ⟨_, rfl, rfl⟩
      have hi4 : i < 4 := hi
      try dsimp only [gName]
      try simp only [L2.start, List.map_cons, List.map_nil, List.length_cons, List.length_nil, List.replicate_succ, List.replicate_zero, List.cons_append, List.nil_append, List.set_cons_succ, List.set_cons_zero, Nat.reduceAdd, Nat.reduceSub, Nat.zero_add]
      have nTb : T ≠ b := fun z => by
        obtain ⟨_, _, _, hb, _⟩ := BW
        rw [← z, eT'] at hb
        cases hb
      have nTD : T ≠ D3 := fun z => by
        rw [z, eW] at eT'
        cases eT'
      refine ⟨_, rfl, _, _, rfl, rfl, _, rfl, _, rfl, lTs, _, _, rfl, rfl, (by show 3 ≤ sizeLine; decide), fun LL nLL => ?_⟩
      have lm := same_upd (o := .lst [.int 2, .int (3 + (sc1 : Int)), .int (((spT sc1 tl1 m).length : Int) - 1)]) nLL
      have eLL : (upd G14 LL (.lst [.int 2, .int (3 + (sc1 : Int)), .int (((spT sc1 tl1 m).length : Int) - 1)])) LL = some (.lst [.int 2, .int (3 + (sc1 : Int)), .int (((spT sc1 tl1 m).length : Int) - 1)]) := upd_same
      have nLLb : LL ≠ b := (BW.ne nLL).symm
      have BL := BW.same lm
      have kL := kW.trans (Keep.ofSame lm)
      have eWL := lm _ _ eW
      have eTL := lm _ _ eT'
      show tCall (spTake 1) [] E0 _ _ (upd G14 LL (.lst [.int 2, .int (3 + (sc1 : Int)), .int (((spT sc1 tl1 m).length : Int) - 1)])) _
      generalize upd G14 LL (.lst [.int 2, .int (3 + (sc1 : Int)), .int (((spT sc1 tl1 m).length : Int) - 1)]) = G15 at *
      refine ⟨_, rfl, b, _, _, rfl, BL, by decide, by decide, by decide, by omega, by decide, fun r G16 u0 u1 B16 k16 => ?_⟩
      replace B16 := bx1 B16
      obtain ⟨ai, hai⟩ : ∃ ai : Int, atI ([.int 2, .int (3 + (sc1 : Int)), .int (((spT sc1 tl1 m).length : Int) - 1)] : List V) r = some (.int ai) := by
        have c3 : r = 0 ∨ r = 1 ∨ r = 2 := by omega
        rcases c3 with h | h | h <;> subst h
        · exact ⟨_, rfl⟩
        · exact ⟨_, rfl⟩
        · exact ⟨_, rfl⟩
      refine ⟨LL, _, _, _, rfl, rfl, SqL.of (k16 _ _ eLL nLLb), hai, ?_⟩
      try dsimp only [gName]
      try simp only [L2.start, List.map_cons, List.map_nil, List.length_cons, List.length_nil, List.replicate_succ, List.replicate_zero, List.cons_append, List.nil_append, List.set_cons_succ, List.set_cons_zero, Nat.reduceAdd, Nat.reduceSub, Nat.zero_add]
      have eW' := k16 _ _ eWL nD3b
      have eT2 := k16 _ _ eTL nTb
      have kW' := kL.trans k16
      have h1 := cutS_length (spT sc1 tl1 m) none (some ai)
      have h3 := cutS_length (spT sc1 tl1 m) (some (ai + 1)) none
      refine ⟨_, rfl, .inl ⟨rfl, _, SqL.of eW'⟩, _, rfl, _, rfl, _, rfl, _, rfl, lTs, _, rfl, _, _, rfl, rfl, (by refine big ?_; (try simp only [len_ap]); omega), _, rfl, _, rfl, _, _, rfl, rfl, _, rfl, _, rfl, lTs, _, _, rfl, rfl, (by refine big ?_; (try simp only [len_ap]); omega), ?_⟩
      refine ⟨D3, _, _, rfl, rfl, eW', (by rw [List.length_map, lw]; exact Nat.lt_of_le_of_lt (show 10 + i ≤ 14 from by have hi4 : i < 4 := hi; omega) (by decide)), ?_⟩
      refine ⟨_, _, _, _, _, _, _, ws ++ [cutS (spT sc1 tl1 m) none (some ai) ++ od ++ cutS (spT sc1 tl1 m) (some (ai + 1)) none], rfl, by rw [List.length_append, lw]; rfl, fun z h => ?_, by rw [upd_same, List.map_append]; rfl, fun p o e n => ?_, BoxAt.mono (B16.at (upd_ne nD3b.symm)) (by omega), by rw [upd_ne nTD]; exact eT2⟩
      · rcases List.mem_append.mp h with h | h
        · exact bw z h
        · rw [List.mem_singleton.mp h]
          simp only [len_ap]
          omega
      · rw [upd_ne (ne_of_none e hD3)]
        exact kW' _ _ e n
    · rintro σ G13 ⟨y7, y8, y10, y11, y12, y13, y14, ws, rfl, lw, bw, eW, kW, BW, _⟩
      try dsimp only [tNext]
      try simp only [L2.start, List.map_cons, List.map_nil, List.length_cons, List.length_nil, List.replicate_succ, List.replicate_zero, List.cons_append, List.nil_append, List.set_cons_succ, List.set_cons_zero, Nat.reduceAdd, Nat.reduceSub, Nat.zero_add]
      refine ⟨2, rfl, by decide, by decide, ?_⟩
      refine for_range (n := 2) (fun i σ G' => ∃ (y10 y11 y12 y13 y14 : Option V) (ws : List Str), σ = [some (.ref b), some (.int (sc1 : Int)), some (.int (tl1 : Int)), some (.ref x), some (.int (0 + (j : Int))), some (.int (m : Int)), some (.str (spT sc1 tl1 m)), y7, y8, some (.ref D3), y10, y11, y12, y13, y14] ∧ ws.length = 14 + i ∧ (∀ z ∈ ws, z.length ≤ 400) ∧ G' D3 = some (.lst (ws.map V.str)) ∧ Keep b H2 G' ∧ BoxAt (c + 5 + 60 * j + 30 + 8 * i) G' b) ⟨_, _, _, _, _, ws, rfl, lw, bw, eW, kW, BoxAt.mono BW (by show _ + 2 * ((4 : Nat) : Int) ≤ _; omega)⟩ ?_ ?_
      · clear eW kW BW bw lw
        rintro i σ G14 hi ⟨y10, y11, y12, y13, y14, ws, rfl, lw, bw, eW, kW, BW⟩
        try dsimp only [gName]
        try simp only [L2.start, List.map_cons, List.map_nil, List.length_cons, List.length_nil, List.replicate_succ, List.replicate_zero, List.cons_append, List.nil_append, List.set_cons_succ, List.set_cons_zero, Nat.reduceAdd, Nat.reduceSub, Nat.zero_add]
        refine ⟨_, rfl, _, rfl, b, _, _, rfl, BW, by omega, by omega, fun y G15 ly B15 k15 => ?_⟩
        try dsimp only [gName]
        try simp only [L2.start, List.map_cons, List.map_nil, List.length_cons, List.length_nil, List.replicate_succ, List.replicate_zero, List.cons_append, List.nil_append, List.set_cons_succ, List.set_cons_zero, Nat.reduceAdd, Nat.reduceSub, Nat.zero_add]
        refine ⟨_, rfl, .inl ⟨rfl, _, SqL.of (k15 _ _ eW nD3b)⟩, _, rfl, b, _, _, rfl, B15, by decide, by decide, by decide, by omega, by decide, fun r G16 u0 u1 B16 k16 => ⟨rfl, _, rfl, ite2 (fun cc => ?_) (fun cc => ?_)⟩⟩
        · replace B16 := bx1 B16
          refine ⟨_, rfl, _, rfl, b, _, _, rfl, B16, by omega, by omega, fun w G17 lw2 B17 k17 => ?_⟩
          refine ⟨D3, _, _, rfl, rfl, ((k15.trans k16).trans k17) _ _ eW nD3b, (by rw [List.length_map, lw]; exact Nat.lt_of_le_of_lt (show 14 + i ≤ 16 by omega) (by decide)), ?_⟩
          refine ⟨_, _, _, _, _, ws ++ [w], rfl, by rw [List.length_append, lw]; rfl, fun z h => ?_, by rw [upd_same, List.map_append]; rfl, fun p o e n => ?_, BoxAt.mono ((B17).at (upd_ne nD3b.symm)) (by omega)⟩
          · rcases List.mem_append.mp h with h | h
            · exact bw z h
            · rw [List.mem_singleton.mp h]
              omega
          · rw [upd_ne (ne_of_none e hD3)]
            exact (kW.trans ((k15.trans k16).trans k17)) _ _ e n
        · replace B16 := bx1 B16
          refine ⟨_, rfl, ?_⟩
          refine ⟨D3, _, _, rfl, rfl, (k15.trans k16) _ _ eW nD3b, (by rw [List.length_map, lw]; exact Nat.lt_of_le_of_lt (show 14 + i ≤ 16 by omega) (by decide)), ?_⟩
          refine ⟨_, _, _, _, _, ws ++ [y], rfl, by rw [List.length_append, lw]; rfl, fun z h => ?_, by rw [upd_same, List.map_append]; rfl, fun p o e n => ?_, BoxAt.mono ((B16).at (upd_ne nD3b.symm)) (by omega)⟩
          · rcases List.mem_append.mp h with h | h
            · exact bw z h
            · rw [List.mem_singleton.mp h]
              omega
          · rw [upd_ne (ne_of_none e hD3)]
            exact (kW.trans (k15.trans k16)) _ _ e n
      · clear eW kW BW bw lw
        rintro σ G14 ⟨y10, y11, y12, y13, y14, ws, rfl, lw, bw, eW, kW, BW⟩
        try dsimp only [tNext]
        try simp only [L2.start, List.map_cons, List.map_nil, List.length_cons, List.length_nil, List.replicate_succ, List.replicate_zero, List.cons_append, List.nil_append, List.set_cons_succ, List.set_cons_zero, Nat.reduceAdd, Nat.reduceSub, Nat.zero_add]
        refine ⟨_, rfl, D3, rfl, ⟨_, SqL.of eW⟩, ?_⟩
        refine for_it (walk_list (K := K) (a := D3) (xs := ws.map V.str)) (fun i σ G' => ∃ (y14 : Option V), σ = [some (.ref b), some (.int (sc1 : Int)), some (.int (tl1 : Int)), some (.ref x), some (.int (0 + (j : Int))), some (.int (m : Int)), some (.str (spT sc1 tl1 m)), y7, y8, some (.ref D3), y10, y11, y12, y13, y14] ∧ Same G14 G') ⟨_, rfl, Same.refl _⟩ (fun i σ G' _ ⟨_, _, s'⟩ => SqL.of (s' _ _ eW)) ?_ ?_
        · rintro i v σ G15 G16 hi ⟨y14, rfl, s15⟩ ⟨rfl, hz⟩
          rw [List.length_map] at hi
          have hw : ws[i]? = some ws[i] := List.getElem?_eq_getElem hi
          have hz : (ws.map V.str)[i]? = some v := hz
          rw [List.getElem?_map, hw] at hz
          cases hz
          have lz : (ws[i]).length ≤ 400 := bw _ (List.getElem_mem hi)
          try dsimp only [gName]
          try simp only [L2.start, List.map_cons, List.map_nil, List.length_cons, List.length_nil, List.replicate_succ, List.replicate_zero, List.cons_append, List.nil_append, List.set_cons_succ, List.set_cons_zero, Nat.reduceAdd, Nat.reduceSub, Nat.zero_add]
          have FW := F2.keep (kW.trans (Keep.ofSame s15)) nxb
          refine ⟨_, rfl, _, rfl, x, sc1, tl1, _, rfl, FW, lz, fun G17 s17 => ?_⟩
          refine ⟨_, rfl, _, rfl, _, rfl, sc1, tl1, _, rfl, lz, fun G18 s18 => ?_⟩
          refine ⟨_, _, oD (rdT ws[i] sc1 tl1), 0, rfl, rfl, oD_lv _, oD_dp _, oD_dp _, fun G19 s19 => ?_⟩
          refine ⟨_, rfl, iteF ?_⟩
          exact ⟨_, rfl, s15.trans (s17.trans (s18.trans s19))⟩
        · rintro σ G15 ⟨y14, rfl, s15⟩
          exact ⟨_, _, _, _, _, _, _, _, _, _, _, rfl, kW.trans (Keep.ofSame s15), BoxAt.mono (BW.same s15) (by show _ + 8 * ((2 : Nat) : Int) ≤ _; omega)⟩
  · rintro σ G ⟨y4, y5, y6, y7, y8, y9, y10, y11, y12, y13, y14, rfl, kG, BG⟩
    exact q _ (k2.trans kG)
end
section
variable {P : Program} {w : World} {K : PySem.W.Frag} {mg : Str → Option Value} {base : Heap}
variable {C : Addr} {za : Nat → Addr} {zl : Nat → FuncData} {t21 : Tok} {E_BadText I_BadText E_BadForm E_BadRow E_Unfit : Addr}
def spLaw (K : PySem.W.Frag) : Sp := fun vs H Q _ => ∃ (a : Addr) (ns : List Int), vs = [.ref a] ∧ SqL K H a (ns.map V.int) ∧ ns.length ≤ 63 ∧ ∀ H', Q (.bl true) H'
theorem ok_law {f : Addr} {fd : FuncData} (F : Fun K "law" "law" s_law f fd) (B : Bl mg) (L : LL K mg C za zl t21 E_BadText I_BadText E_BadForm E_BadRow E_Unfit) : FnOk P w K mg base CX0 9 f fd ["_law_script"] (spLaw K) := by
  have G__law_folded : FnOk P w K mg base CX0 8 (za 8) (zl 8) ["_law_script", "_law_size"] (spFolded K) := ok_folded L.F__law_folded B
  have G__law_box : FnOk P w K mg base CX0 8 (za 6) (zl 6) ["_law_script", "_law_k"] (spBox K) := ok_box L.F__law_box B
  have G__law_right : FnOk P w K mg base CX0 8 (za 16) (zl 16) ["_law_box_here"] spRight := (ok__law_right B L).mono (by decide)
  refine F.ok sc_law (fun vs H Q E h => ?_) (fun cdv A outer s H vs Q E hr h => ?_)
  · obtain ⟨a, ns, rfl, _⟩ := h
    rfl
  obtain ⟨a, ns, rfl, hS, h63, q⟩ := h
  refine ⟨_, (pss_cons (ps_set (i := 1) sc_law.nd rfl (.inr rfl) (pe_call G__law_folded hr (by rfl) L.m__law_folded L.F__law_folded.kp L.b__law_folded .nil pass0 (pa_cons (pv 0) (pa_cons pe_int pa_nil))))
    (pss_one (ps_ret (pe_callB (cr_all rfl) (by rfl) B.all boot_all (pa_cons (pe_lc (own := [("_law_k", 2)]) (by rfl) sc_law.nd (pi_range1 (by rfl) B.range (pa_cons (pe_callB (call_max2 rfl) (by rfl) B.max boot_max (pa_cons pe_int (pa_cons (pe_callB call_len_seq (by rfl) B.len PySem.boot_len (pa_cons (pv 1) pa_nil)) pa_nil))) pa_nil)) (blkOk_by (own := [("_law_k", 2)]) (N := ["_law_script", "_law_cells", "_law_k"]) (sc := defScope s_law) (by decide +kernel)) (fun _ _ _ _ _ => pg_name (i := 2) sc_law.nd rfl (Or.inl rfl)) (fun _ _ _ _ _ => pts_nil) (fun _ _ _ _ _ => (pe_call G__law_right hr (by rfl) L.m__law_right L.F__law_right.kp L.b__law_right .nil pass0 (pa_cons (pe_call G__law_box hr (by rfl) L.m__law_box L.F__law_box.kp L.b__law_box .nil pass0 (pa_cons (pv 1) (pa_cons (pv 2) pa_nil))) pa_nil)))) pa_nil))))), ?_⟩
  refine ⟨_, rfl, a, ns, 4, rfl, hS, h63, by decide, by decide, fun p H1 zs np s1 ep lz => ?_⟩
  have lz2 : zs.length ≤ 4 := by omega
  refine ⟨_, rfl, p, _, rfl, .inl (SqL.of ep), _, _, rfl, ?_⟩
  obtain ⟨n, en, hn⟩ : ∃ n : Nat, (if (((zs.map V.int).length : Nat) : Int) > 1 then (((zs.map V.int).length : Nat) : Int) else 1) = (n : Int) ∧ n ≤ 4 := by
    rw [List.length_map]
    split
    · exact ⟨zs.length, rfl, lz2⟩
    · exact ⟨1, rfl, by decide⟩
  rw [en]
  refine ⟨_, rfl, by omega, by omega, fun D nD => ?_⟩
  rw [Int.toNat_natCast]
  refine lc_range (n := n) (fun j H7 => Same H1 H7 ∧ H7 D = some (.lst (List.replicate j (.bl true)))) ⟨same_upd nD, upd_same⟩ ?_ ?_
  · rintro j H7 hj ⟨s7, eD⟩
    refine ⟨rfl, yesT ?_⟩
    refine ⟨_, rfl, _, rfl, p, zs, _, rfl, SqL.of (s7 _ _ ep), by omega, by omega, fun b H8 nb s8 B8 => ?_⟩
    refine ⟨b, _, rfl, B8, by omega, fun H9 k9 => ?_⟩
    have nDb : D ≠ b := ne_of_none eD nb
    refine ⟨_, k9 _ _ (s8 _ _ eD) nDb, ?_, fun x u e => ?_, ?_⟩
    · rw [List.length_replicate]
      exact small1000 (by omega)
    · rw [upd_ne (ne_of_none e nD)]
      exact k9 _ _ (s8 _ _ (s7 _ _ e)) (ne_of_none (s7 _ _ e) nb)
    · rw [upd_same, repl_snoc]
  · rintro H7 ⟨s7, eD⟩
    refine ⟨D, List.replicate n true, rfl, .inl (.inl (by rw [List.map_replicate]; exact eD)), ?_⟩
    rw [all_repl]
    exact q _
end
theorem all_mk {l : PySem.W.OpenLaw} {w : World} {K : PySem.W.Frag} {h : Heap} {mg : Str → Option Value} {fa f1 f2 f3 f4 f5 f6 f7 f8 f9 f10 f11 f12 f13 f14 f15 f16 f17 f18 f19 f20 f21 f22 C : Addr} (X : K.In h) (G : h.Ns mainGlobals mg) (hfa : mg "law" = some (.ref fa))
    {od1 an1 od2 an2 od3 an3 od4 an4 od5 an5 od6 an6 od7 an7 od8 an8 od9 an9 od10 an10 od11 an11 od12 an12 od13 an13 od14 an14 od15 an15 od16 an16 od17 an17 od18 an18 od19 an19 od20 an20 od21 an21 od22 an22 : Option Addr} {sl1 sl2 sl3 sl4 sl5 sl6 sl7 sl8 sl9 sl10 sl11 sl12 sl13 sl14 sl15 sl16 sl17 sl18 sl19 sl20 sl21 sl22 : Array (Option Value)} {oc1 kV1 dc1 pm1 cd1 ct1 oc2 kV2 dc2 pm2 cd2 ct2 oc3 kV3 dc3 pm3 cd3 ct3 oc4 kV4 dc4 pm4 cd4 ct4 oc5 kV5 dc5 pm5 cd5 ct5 oc6 kV6 dc6 pm6 cd6 ct6 oc7 kV7 dc7 pm7 cd7 ct7 oc8 kV8 dc8 pm8 cd8 ct8 oc9 kV9 dc9 pm9 cd9 ct9 oc10 kV10 dc10 pm10 cd10 ct10 oc11 kV11 dc11 pm11 cd11 ct11 oc12 kV12 dc12 pm12 cd12 ct12 oc13 kV13 dc13 pm13 cd13 ct13 oc14 kV14 dc14 pm14 cd14 ct14 oc15 kV15 dc15 pm15 cd15 ct15 oc16 kV16 dc16 pm16 cd16 ct16 oc17 kV17 dc17 pm17 cd17 ct17 oc18 kV18 dc18 pm18 cd18 ct18 oc19 kV19 dc19 pm19 cd19 ct19 oc20 kV20 dc20 pm20 cd20 ct20 oc21 kV21 dc21 pm21 cd21 ct21 oc22 kV22 dc22 pm22 cd22 ct22 oT22 : Value}
    {vT22 : Tok}
    {T22 : Addr} {dT22 : Option Addr} {nT22 : Nat} {sT22 : Array (Option Value)}
     {EBadText IBadText NBadText : Addr} {nmBadText qqBadText : Str} {bsBadText sbBadText : List Value} {snBadText : List Str} {abBadText : Bool} {coBadText : Option Bool} {ddBadText odIBadText anIBadText : Option Addr} {kaBadText kbBadText kcBadText kdBadText keBadText : Option Value} {ocIBadText dcIBadText pmIBadText cdIBadText ctIBadText : Value} {slIBadText : Array (Option Value)} {p1BadText p2BadText q1BadText q2BadText q3BadText q4BadText : Pos} {EBadForm : Addr} {EBadRow : Addr} {EUnfit : Addr}
    (a1 : PySem.W.nsIn K mainGlobals "spelled" = some (some (.ref f1))) (l1 : K.lookup f1 = some ⟨oc1, od1, .func (PySem.W.fnOf "spelled" "spelled" (defArgs s_spelled) (defBody s_spelled) (defScope s_spelled) .none kV1 dc1 pm1 an1 cd1 ct1), sl1⟩) (c1 : PySem.W.codeIn K cd1 "spelled" = true) (k1 : PySem.W.keepIn K (.ref f1) = true)
    (a2 : PySem.W.nsIn K mainGlobals "bits_text" = some (some (.ref f2))) (l2 : K.lookup f2 = some ⟨oc2, od2, .func (PySem.W.fnOf "bits_text" "bits_text" (defArgs s_bits_text) (defBody s_bits_text) (defScope s_bits_text) .none kV2 dc2 pm2 an2 cd2 ct2), sl2⟩) (c2 : PySem.W.codeIn K cd2 "bits_text" = true) (k2 : PySem.W.keepIn K (.ref f2) = true)
    (a3 : PySem.W.nsIn K mainGlobals "word_in" = some (some (.ref f3))) (l3 : K.lookup f3 = some ⟨oc3, od3, .func (PySem.W.fnOf "word_in" "word_in" (defArgs s_word_in) (defBody s_word_in) (defScope s_word_in) .none kV3 dc3 pm3 an3 cd3 ct3), sl3⟩) (c3 : PySem.W.codeIn K cd3 "word_in" = true) (k3 : PySem.W.keepIn K (.ref f3) = true)
    (a4 : PySem.W.nsIn K mainGlobals "is_number" = some (some (.ref f4))) (l4 : K.lookup f4 = some ⟨oc4, od4, .func (PySem.W.fnOf "is_number" "is_number" (defArgs s_is_number) (defBody s_is_number) (defScope s_is_number) .none kV4 dc4 pm4 an4 cd4 ct4), sl4⟩) (c4 : PySem.W.codeIn K cd4 "is_number" = true) (k4 : PySem.W.keepIn K (.ref f4) = true)
    (a5 : PySem.W.nsIn K mainGlobals "is_number_in" = some (some (.ref f5))) (l5 : K.lookup f5 = some ⟨oc5, od5, .func (PySem.W.fnOf "is_number_in" "is_number_in" (defArgs s_is_number_in) (defBody s_is_number_in) (defScope s_is_number_in) .none kV5 dc5 pm5 an5 cd5 ct5), sl5⟩) (c5 : PySem.W.codeIn K cd5 "is_number_in" = true) (k5 : PySem.W.keepIn K (.ref f5) = true)
    (a6 : PySem.W.nsIn K mainGlobals "_law_box" = some (some (.ref f6))) (l6 : K.lookup f6 = some ⟨oc6, od6, .func (PySem.W.fnOf "_law_box" "_law_box" (defArgs sBox) (defBody sBox) (defScope sBox) .none kV6 dc6 pm6 an6 cd6 ct6), sl6⟩) (c6 : PySem.W.codeIn K cd6 "_law_box" = true) (k6 : PySem.W.keepIn K (.ref f6) = true)
    (a7 : PySem.W.nsIn K mainGlobals "_law_take" = some (some (.ref f7))) (l7 : K.lookup f7 = some ⟨oc7, od7, .func (PySem.W.fnOf "_law_take" "_law_take" (defArgs sTake) (defBody sTake) (defScope sTake) .none kV7 dc7 pm7 an7 cd7 ct7), sl7⟩) (c7 : PySem.W.codeIn K cd7 "_law_take" = true) (k7 : PySem.W.keepIn K (.ref f7) = true)
    (a8 : PySem.W.nsIn K mainGlobals "_law_folded" = some (some (.ref f8))) (l8 : K.lookup f8 = some ⟨oc8, od8, .func (PySem.W.fnOf "_law_folded" "_law_folded" (defArgs sFolded) (defBody sFolded) (defScope sFolded) .none kV8 dc8 pm8 an8 cd8 ct8), sl8⟩) (c8 : PySem.W.codeIn K cd8 "_law_folded" = true) (k8 : PySem.W.keepIn K (.ref f8) = true)
    (a9 : PySem.W.nsIn K mainGlobals "_law_same" = some (some (.ref f9))) (l9 : K.lookup f9 = some ⟨oc9, od9, .func (PySem.W.fnOf "_law_same" "_law_same" (defArgs sSame) (defBody sSame) (defScope sSame) .none kV9 dc9 pm9 an9 cd9 ct9), sl9⟩) (c9 : PySem.W.codeIn K cd9 "_law_same" = true) (k9 : PySem.W.keepIn K (.ref f9) = true)
    (a10 : PySem.W.nsIn K mainGlobals "_law_form" = some (some (.ref f10))) (l10 : K.lookup f10 = some ⟨oc10, od10, .func (PySem.W.fnOf "_law_form" "_law_form" (defArgs s__law_form) (defBody s__law_form) (defScope s__law_form) .none kV10 dc10 pm10 an10 cd10 ct10), sl10⟩) (c10 : PySem.W.codeIn K cd10 "_law_form" = true) (k10 : PySem.W.keepIn K (.ref f10) = true)
    (a11 : PySem.W.nsIn K mainGlobals "_law_word" = some (some (.ref f11))) (l11 : K.lookup f11 = some ⟨oc11, od11, .func (PySem.W.fnOf "_law_word" "_law_word" (defArgs s__law_word) (defBody s__law_word) (defScope s__law_word) .none kV11 dc11 pm11 an11 cd11 ct11), sl11⟩) (c11 : PySem.W.codeIn K cd11 "_law_word" = true) (k11 : PySem.W.keepIn K (.ref f11) = true)
    (a12 : PySem.W.nsIn K mainGlobals "_law_text" = some (some (.ref f12))) (l12 : K.lookup f12 = some ⟨oc12, od12, .func (PySem.W.fnOf "_law_text" "_law_text" (defArgs s__law_text) (defBody s__law_text) (defScope s__law_text) .none kV12 dc12 pm12 an12 cd12 ct12), sl12⟩) (c12 : PySem.W.codeIn K cd12 "_law_text" = true) (k12 : PySem.W.keepIn K (.ref f12) = true)
    (a13 : PySem.W.nsIn K mainGlobals "_law_read" = some (some (.ref f13))) (l13 : K.lookup f13 = some ⟨oc13, od13, .func (PySem.W.fnOf "_law_read" "_law_read" (defArgs s__law_read) (defBody s__law_read) (defScope s__law_read) .none kV13 dc13 pm13 an13 cd13 ct13), sl13⟩) (c13 : PySem.W.codeIn K cd13 "_law_read" = true) (k13 : PySem.W.keepIn K (.ref f13) = true)
    (a14 : PySem.W.nsIn K mainGlobals "_law_told" = some (some (.ref f14))) (l14 : K.lookup f14 = some ⟨oc14, od14, .func (PySem.W.fnOf "_law_told" "_law_told" (defArgs s__law_told) (defBody s__law_told) (defScope s__law_told) .none kV14 dc14 pm14 an14 cd14 ct14), sl14⟩) (c14 : PySem.W.codeIn K cd14 "_law_told" = true) (k14 : PySem.W.keepIn K (.ref f14) = true)
    (a15 : PySem.W.nsIn K mainGlobals "_law_bent" = some (some (.ref f15))) (l15 : K.lookup f15 = some ⟨oc15, od15, .func (PySem.W.fnOf "_law_bent" "_law_bent" (defArgs s__law_bent) (defBody s__law_bent) (defScope s__law_bent) .none kV15 dc15 pm15 an15 cd15 ct15), sl15⟩) (c15 : PySem.W.codeIn K cd15 "_law_bent" = true) (k15 : PySem.W.keepIn K (.ref f15) = true)
    (a16 : PySem.W.nsIn K mainGlobals "_law_right" = some (some (.ref f16))) (l16 : K.lookup f16 = some ⟨oc16, od16, .func (PySem.W.fnOf "_law_right" "_law_right" (defArgs s__law_right) (defBody s__law_right) (defScope s__law_right) .none kV16 dc16 pm16 an16 cd16 ct16), sl16⟩) (c16 : PySem.W.codeIn K cd16 "_law_right" = true) (k16 : PySem.W.keepIn K (.ref f16) = true)
    (a17 : PySem.W.nsIn K mainGlobals "law" = some (some (.ref f17))) (l17 : K.lookup f17 = some ⟨oc17, od17, .func (PySem.W.fnOf "law" "law" (defArgs s_law) (defBody s_law) (defScope s_law) .none kV17 dc17 pm17 an17 cd17 ct17), sl17⟩) (c17 : PySem.W.codeIn K cd17 "law" = true) (k17 : PySem.W.keepIn K (.ref f17) = true)
    (aC : PySem.W.nsIn K mainGlobals "Form" = some (some (.ref C)))
    (pgC : PySem.W.plainGet K C Str.empty = true) (hdC : PySem.W.hasDictIn K C = true) (poC : PySem.W.plainOver K C = true) (saC : PySem.W.findIn K (.ref C) "__setattr__" = some (some (.builtin "object.__setattr__"))) (mkC : PySem.W.makesIn K C = true) (kcC : PySem.W.keepIn K (.ref C) = true)
    (naC0 : PySem.W.findIn K (.ref C) "scale" = some none)
    (naC1 : PySem.W.findIn K (.ref C) "tail" = some none)
    (a18 : PySem.W.findIn K (.ref C) "__init__" = some (some (.ref f18))) (i18 : PySem.W.isFn K (.ref f18) = true) (l18 : K.lookup f18 = some ⟨oc18, od18, .func (PySem.W.fnOf "__init__" "Form.__init__" (defArgs s_Form___init__) (defBody s_Form___init__) (defScope s_Form___init__) .none kV18 dc18 pm18 an18 cd18 ct18), sl18⟩) (c18 : PySem.W.codeIn K cd18 "Form.__init__" = true) (k18 : PySem.W.keepIn K (.ref f18) = true)
    (a19 : PySem.W.findIn K (.ref C) "top" = some (some (.ref f19))) (i19 : PySem.W.isFn K (.ref f19) = true) (l19 : K.lookup f19 = some ⟨oc19, od19, .func (PySem.W.fnOf "top" "Form.top" (defArgs s_Form_top) (defBody s_Form_top) (defScope s_Form_top) .none kV19 dc19 pm19 an19 cd19 ct19), sl19⟩) (c19 : PySem.W.codeIn K cd19 "Form.top" = true) (k19 : PySem.W.keepIn K (.ref f19) = true)
    (a20 : PySem.W.findIn K (.ref C) "parts" = some (some (.ref f20))) (i20 : PySem.W.isFn K (.ref f20) = true) (l20 : K.lookup f20 = some ⟨oc20, od20, .func (PySem.W.fnOf "parts" "Form.parts" (defArgs s_Form_parts) (defBody s_Form_parts) (defScope s_Form_parts) .none kV20 dc20 pm20 an20 cd20 ct20), sl20⟩) (c20 : PySem.W.codeIn K cd20 "Form.parts" = true) (k20 : PySem.W.keepIn K (.ref f20) = true)
    (a21 : PySem.W.findIn K (.ref C) "word_of" = some (some (.ref f21))) (i21 : PySem.W.isFn K (.ref f21) = true) (l21 : K.lookup f21 = some ⟨oc21, od21, .func (PySem.W.fnOf "word_of" "Form.word_of" (defArgs s_Form_word_of) (defBody s_Form_word_of) (defScope s_Form_word_of) .none kV21 dc21 pm21 an21 cd21 ct21), sl21⟩) (c21 : PySem.W.codeIn K cd21 "Form.word_of" = true) (k21 : PySem.W.keepIn K (.ref f21) = true)
    (a22 : PySem.W.findIn K (.ref C) "greatest" = some (some (.ref f22))) (i22 : PySem.W.isFn K (.ref f22) = true) (l22 : K.lookup f22 = some ⟨oc22, od22, .func (PySem.W.fnOf "greatest" "Form.greatest" (defArgs s_Form_greatest) (defBody s_Form_greatest) (defScope s_Form_greatest) (.ref T22) kV22 dc22 pm22 an22 cd22 ct22), sl22⟩) (c22 : PySem.W.codeIn K cd22 "Form.greatest" = true) (k22 : PySem.W.keepIn K (.ref f22) = true)
    (t22 : K.lookup T22 = some ⟨oT22, dT22, .seq #[.int 0 vT22] nT22, sT22⟩)
    (z1 : PySem.W.nsIn K mainGlobals "len" = some none)
    (z2 : PySem.W.nsIn K mainGlobals "abs" = some none)
    (z3 : PySem.W.nsIn K mainGlobals "int" = some none)
    (z4 : PySem.W.nsIn K mainGlobals "divmod" = some none)
    (z5 : PySem.W.nsIn K mainGlobals "list" = some none)
    (z6 : PySem.W.nsIn K mainGlobals "enumerate" = some none)
    (z7 : PySem.W.nsIn K mainGlobals "isinstance" = some none)
    (z8 : PySem.W.nsIn K mainGlobals "tuple" = some none)
    (z9 : PySem.W.nsIn K mainGlobals "str" = some none)
    (z10 : PySem.W.nsIn K mainGlobals "bool" = some none)
    (z11 : PySem.W.nsIn K mainGlobals "zip" = some none)
    (z12 : PySem.W.nsIn K mainGlobals "all" = some none)
    (z13 : PySem.W.nsIn K mainGlobals "range" = some none)
    (z14 : PySem.W.nsIn K mainGlobals "max" = some none)
    (z15 : PySem.W.nsIn K mainGlobals "any" = some none)
    (z16 : PySem.W.nsIn K mainGlobals "min" = some none)
    (z17 : PySem.W.nsIn K mainGlobals "sum" = some none)
    (aEBadText : PySem.W.nsIn K mainGlobals "BadText" = some (some (.ref EBadText)))
    (cEBadText : K.lookup EBadText = some (excClassObj nmBadText qqBadText EBadText NBadText bsBadText [.type "ValueError", .type "Exception", .type "BaseException", .type "object"] true snBadText sbBadText abBadText coBadText ddBadText kaBadText kbBadText kcBadText kdBadText keBadText "ValueError.__new__"))
    (saEBadText : PySem.W.findIn K (.ref EBadText) "__setattr__" = some (some (.builtin "object.__setattr__")))
    (gaEBadText : PySem.W.findIn K (.ref EBadText) "__getattribute__" = some (some (.builtin "BaseException.__getattribute__")))
    (ggEBadText : PySem.W.findIn K (.ref EBadText) "__getattr__" = some none)
    (nwEBadText : PySem.W.findIn K (.ref EBadText) "what" = some none)
    (inEBadText : PySem.W.findIn K (.ref EBadText) "__init__" = some (some (.ref IBadText)))
    (tiEBadText : PySem.W.typeIn K (.ref IBadText) = some (.type "function"))
    (liEBadText : K.lookup IBadText = some ⟨ocIBadText, odIBadText, .func (PySem.W.fnOf "__init__" "BadText.__init__" (PySem.WhX.whA p1BadText p2BadText) (PySem.WhX.whB q1BadText q2BadText q3BadText q4BadText) PySem.WhX.whS .none .none dcIBadText pmIBadText anIBadText cdIBadText ctIBadText), slIBadText⟩)
    (ciEBadText : PySem.W.codeIn K cdIBadText "BadText.__init__" = true)
    (kcEBadText : PySem.W.keepIn K (.ref EBadText) = true)
    (exEBadText : PySem.W.subIn K (.ref EBadText) (.type "BaseException") = some true)
    (tyEBadText : PySem.W.typeIn K (.ref EBadText) = some (.type "type"))
    (hdEBadText : PySem.W.hasDictIn K EBadText = true)
    (clEBadText : PySem.W.findIn K (.ref EBadText) "__class__" = some (some (.builtin "object.__class__")))
    (spEBadText : PySem.W.specialIn K (.builtin "object.__class__") "__get__" = some (some (.builtin "getset_descriptor.__get__")))
    (tkEBadText : PySem.W.takesIn K (.builtin "object.__class__") = some true)
    (mrEBadText : PySem.W.mroIn K EBadText (.type "object") = some true)
    (suEBadText : PySem.W.subIn K (.ref EBadText) (.ref EBadText) = some true)
    (aEBadForm : PySem.W.nsIn K mainGlobals "BadForm" = some (some (.ref EBadForm)))
    (tyEBadForm : PySem.W.typeIn K (.ref EBadForm) = some (.type "type"))
    (hdEBadForm : PySem.W.hasDictIn K EBadForm = true)
    (aEBadRow : PySem.W.nsIn K mainGlobals "BadRow" = some (some (.ref EBadRow)))
    (tyEBadRow : PySem.W.typeIn K (.ref EBadRow) = some (.type "type"))
    (hdEBadRow : PySem.W.hasDictIn K EBadRow = true)
    (aEUnfit : PySem.W.nsIn K mainGlobals "Unfit" = some (some (.ref EUnfit)))
    (tyEUnfit : PySem.W.typeIn K (.ref EUnfit) = some (.type "type"))
    (hdEUnfit : PySem.W.hasDictIn K EUnfit = true)
    (zEValueError : PySem.W.nsIn K mainGlobals "ValueError" = some none)
    (sqBadText_ValueError : PySem.W.subIn K (.ref EBadText) (.type "ValueError") = some true)
    (exEBadForm : PySem.W.subIn K (.ref EBadForm) (.type "BaseException") = some true)
    (sqBadText_BadForm : PySem.W.subIn K (.ref EBadText) (.ref EBadForm) = some false)
    (exEBadRow : PySem.W.subIn K (.ref EBadRow) (.type "BaseException") = some true)
    (sqBadText_BadRow : PySem.W.subIn K (.ref EBadText) (.ref EBadRow) = some false)
    (exEUnfit : PySem.W.subIn K (.ref EUnfit) (.type "BaseException") = some true)
    (sqBadText_Unfit : PySem.W.subIn K (.ref EBadText) (.ref EUnfit) = some false)
    : ∃ fd : FuncData, (∀ (s : Shared) (v : Value), BindsTo s fd ⟨[v], []⟩ [("_law_script", v)]) ∧ ∀ base : Heap, K.In base → base.Ns mainGlobals mg → FnOk l.prog w K mg base CX0 9 fa fd ["_law_script"] (spLaw K) := by
  have e := hfa.symm.trans (PySem.W.mg_of X G a17)
  cases e
  have F1 := fun_mk (st := s_spelled) l1 c1 k1
  have b1 := F1.binds (ps := ["form", "word"]) fun _ _ _ _ _ _ us hl => match us, hl with | [_, _], _ => rfl
  have m1 := PySem.W.mg_of X G a1
  have F2 := fun_mk (st := s_bits_text) l2 c2 k2
  have b2 := F2.binds (ps := ["number", "many"]) fun _ _ _ _ _ _ us hl => match us, hl with | [_, _], _ => rfl
  have m2 := PySem.W.mg_of X G a2
  have F3 := fun_mk (st := s_word_in) l3 c3 k3
  have b3 := F3.binds (ps := ["form", "text"]) fun _ _ _ _ _ _ us hl => match us, hl with | [_, _], _ => rfl
  have m3 := PySem.W.mg_of X G a3
  have F4 := fun_mk (st := s_is_number) l4 c4 k4
  have b4 := F4.binds (ps := ["thing"]) fun _ _ _ _ _ _ us hl => match us, hl with | [_], _ => rfl
  have m4 := PySem.W.mg_of X G a4
  have F5 := fun_mk (st := s_is_number_in) l5 c5 k5
  have b5 := F5.binds (ps := ["least", "greatest", "thing"]) fun _ _ _ _ _ _ us hl => match us, hl with | [_, _, _], _ => rfl
  have m5 := PySem.W.mg_of X G a5
  have F6 := fun_mk (st := sBox) l6 c6 k6
  have b6 := F6.binds (ps := ["_law_script", "_law_k"]) fun _ _ _ _ _ _ us hl => match us, hl with | [_, _], _ => rfl
  have m6 := PySem.W.mg_of X G a6
  have F7 := fun_mk (st := sTake) l7 c7 k7
  have b7 := F7.binds (ps := ["_law_box_here", "_law_size"]) fun _ _ _ _ _ _ us hl => match us, hl with | [_, _], _ => rfl
  have m7 := PySem.W.mg_of X G a7
  have F8 := fun_mk (st := sFolded) l8 c8 k8
  have b8 := F8.binds (ps := ["_law_script", "_law_size"]) fun _ _ _ _ _ _ us hl => match us, hl with | [_, _], _ => rfl
  have m8 := PySem.W.mg_of X G a8
  have F9 := fun_mk (st := sSame) l9 c9 k9
  have b9 := F9.binds (ps := ["_law_found", "_law_due"]) fun _ _ _ _ _ _ us hl => match us, hl with | [_, _], _ => rfl
  have m9 := PySem.W.mg_of X G a9
  have F10 := fun_mk (st := s__law_form) l10 c10 k10
  have b10 := F10.binds (ps := ["_law_box_here"]) fun _ _ _ _ _ _ us hl => match us, hl with | [_], _ => rfl
  have m10 := PySem.W.mg_of X G a10
  have F11 := fun_mk (st := s__law_word) l11 c11 k11
  have b11 := F11.binds (ps := ["_law_box_here", "_law_scale", "_law_tail"]) fun _ _ _ _ _ _ us hl => match us, hl with | [_, _, _], _ => rfl
  have m11 := PySem.W.mg_of X G a11
  have F12 := fun_mk (st := s__law_text) l12 c12 k12
  have b12 := F12.binds (ps := ["_law_word_here", "_law_scale", "_law_tail"]) fun _ _ _ _ _ _ us hl => match us, hl with | [_, _, _], _ => rfl
  have m12 := PySem.W.mg_of X G a12
  have F13 := fun_mk (st := s__law_read) l13 c13 k13
  have b13 := F13.binds (ps := ["_law_text_here", "_law_scale", "_law_tail"]) fun _ _ _ _ _ _ us hl => match us, hl with | [_, _, _], _ => rfl
  have m13 := PySem.W.mg_of X G a13
  have F14 := fun_mk (st := s__law_told) l14 c14 k14
  have b14 := F14.binds (ps := ["_law_form_here", "_law_text_here"]) fun _ _ _ _ _ _ us hl => match us, hl with | [_, _], _ => rfl
  have m14 := PySem.W.mg_of X G a14
  have F15 := fun_mk (st := s__law_bent) l15 c15 k15
  have b15 := F15.binds (ps := ["_law_box_here", "_law_text_here"]) fun _ _ _ _ _ _ us hl => match us, hl with | [_, _], _ => rfl
  have m15 := PySem.W.mg_of X G a15
  have F16 := fun_mk (st := s__law_right) l16 c16 k16
  have b16 := F16.binds (ps := ["_law_box_here"]) fun _ _ _ _ _ _ us hl => match us, hl with | [_], _ => rfl
  have m16 := PySem.W.mg_of X G a16
  have F17 := fun_mk (st := s_law) l17 c17 k17
  have F18 := fun_mk (st := s_Form___init__) l18 c18 k18
  have b18 := F18.binds (ps := ["self", "scale", "tail"]) fun _ _ _ _ _ _ us hl => match us, hl with | [_, _, _], _ => rfl
  have M18 : Meth K C "__init__" f18 := ⟨a18, i18, k18⟩
  have F19 := fun_mk (st := s_Form_top) l19 c19 k19
  have b19 := F19.binds (ps := ["self"]) fun _ _ _ _ _ _ us hl => match us, hl with | [_], _ => rfl
  have M19 : Meth K C "top" f19 := ⟨a19, i19, k19⟩
  have F20 := fun_mk (st := s_Form_parts) l20 c20 k20
  have b20 := F20.binds (ps := ["self", "word"]) fun _ _ _ _ _ _ us hl => match us, hl with | [_, _], _ => rfl
  have M20 : Meth K C "parts" f20 := ⟨a20, i20, k20⟩
  have F21 := fun_mk (st := s_Form_word_of) l21 c21 k21
  have b21 := F21.binds (ps := ["self", "sign", "scale", "tail"]) fun _ _ _ _ _ _ us hl => match us, hl with | [_, _, _, _], _ => rfl
  have M21 : Meth K C "word_of" f21 := ⟨a21, i21, k21⟩
  have F22 := funA_mk (st := s_Form_greatest) l22 c22 k22
  have b22 := bindsA (st := s_Form_greatest) (ps := ["self", "sign"]) l22 t22 fun _ _ _ _ _ _ us hl => match us, hl with | [_, _], _ => ⟨_, rfl, rfl⟩
  have d22 := bindsAD (st := s_Form_greatest) (ps := ["self", "sign"]) l22 t22 fun _ _ _ _ _ _ us hl => match us, hl with | [_], _ => ⟨_, rfl, rfl⟩
  have kb22 := kbindsA (x1 := "sign") (st := s_Form_greatest) (ps := ["self", "sign"]) l22 t22 fun _ _ _ _ _ _ _ _ => ⟨_, rfl, rfl⟩
  have M22 : Meth K C "greatest" f22 := ⟨a22, i22, k22⟩
  have clC : Cls K C := ⟨pgC, hdC, poC, saC⟩
  have mgC := PySem.W.mg_of X G aC
  have B : Bl mg := ⟨PySem.W.mg_none_of X G z1, PySem.W.mg_none_of X G z2, PySem.W.mg_none_of X G z3, PySem.W.mg_none_of X G z4, PySem.W.mg_none_of X G z5, PySem.W.mg_none_of X G z6, PySem.W.mg_none_of X G z7, PySem.W.mg_none_of X G z8, PySem.W.mg_none_of X G z9, PySem.W.mg_none_of X G z10, PySem.W.mg_none_of X G z11, PySem.W.mg_none_of X G z12, PySem.W.mg_none_of X G z13, PySem.W.mg_none_of X G z14, PySem.W.mg_none_of X G z15, PySem.W.mg_none_of X G z16, PySem.W.mg_none_of X G z17⟩
  refine ⟨PySem.W.fnOf "law" "law" (defArgs s_law) (defBody s_law) (defScope s_law) .none kV17 dc17 pm17 an17 cd17 ct17, fun s v => .of_eq rfl, fun base _ _ => ?_⟩
  have L : LL K mg C (pkz f1 [f2, f3, f4, f5, f6, f7, f8, f9, f10, f11, f12, f13, f14, f15, f16, f18, f19, f20, f21, f22]) (pkz _ [_, _, _, _, _, _, _, _, _, _, _, _, _, _, _, _, _, _, _, _]) vT22 EBadText IBadText EBadForm EBadRow EUnfit := ⟨F1, m1, b1, F2, m2, b2, F3, m3, b3, F4, m4, b4, F5, m5, b5, F6, m6, b6, F7, m7, b7, F8, m8, b8, F9, m9, b9, F10, m10, b10, F11, m11, b11, F12, m12, b12, F13, m13, b13, F14, m14, b14, F15, m15, b15, F16, m16, b16, ⟨clC, naC0, naC1, mgC⟩, ⟨mkC, a18, i18, kcC⟩, F18, b18, F19, b19, M19, F20, b20, M20, F21, b21, M21, F22, b22, M22, d22, PySem.W.mg_of X G aEBadText, ⟨⟨gaEBadText, ggEBadText, nwEBadText, kcEBadText, exEBadText, tyEBadText, hdEBadText, clEBadText, spEBadText, tkEBadText, mrEBadText⟩, ⟨_, _, _, _, _, _, _, _, _, _, _, _, _, _, _, _, _, _, PySem.F.excBase_ValueError, cEBadText, by decide +kernel, PySem.F.store_ValueError.passes⟩, saEBadText, inEBadText, tiEBadText, ⟨_, _, _, _, _, _, _, _, _, _, _, _, _, _, _, liEBadText, ciEBadText⟩⟩, PySem.W.exm_ref exEBadText hdEBadText tyEBadText suEBadText, PySem.W.mg_of X G aEBadForm, PySem.W.mg_of X G aEBadRow, PySem.W.mg_of X G aEUnfit, PySem.W.mg_none_of X G zEValueError, kit_self, kit_bt sqBadText_ValueError, PySem.W.exm_ref exEBadForm hdEBadForm tyEBadForm sqBadText_BadForm, PySem.W.exm_ref exEBadRow hdEBadRow tyEBadRow sqBadText_BadRow, PySem.W.exm_ref exEUnfit hdEUnfit tyEUnfit sqBadText_Unfit⟩
  exact ok_law F17 B L
end GZ
open PySem PySem.W PyProof.Rows
set_option maxRecDepth 100000 in
set_option maxHeartbeats 0 in
theorem PySem.Challenge.cw_guessedzeros_k04_words_spelled_and_read_holds : PySem.Challenge.rw_guessedzeros_k04_words_spelled_and_read.Holds := by
  w_on; o_law; k_headLK; (case hw => w_witness2)
  k_fill
  refine L2.walk_of (l := PySem.Challenge.rw_guessedzeros_k04_words_spelled_and_read) (n := 63) (k := 9) (x := "_law_script") (CX := fun _ => L2.CX0) (sp := fun w => GZ.spLaw _) rfl (by decide) rfl ⟨rfl, by decide, by decide⟩ (fun w h Y => PySem.W.kIn_of Y) ?F (fun _ _ a ns hl _ hS => ⟨a, ns, rfl, hS, hl, fun _ => rfl⟩) (fun _ _ _ _ _ h => h)
  case F =>
    intro w mg fa h KX G hmg
    refine' GZ.all_mk KX G hmg ?a1 ?l1 ?c1 ?k1 ?a2 ?l2 ?c2 ?k2 ?a3 ?l3 ?c3 ?k3 ?a4 ?l4 ?c4 ?k4 ?a5 ?l5 ?c5 ?k5 ?a6 ?l6 ?c6 ?k6 ?a7 ?l7 ?c7 ?k7 ?a8 ?l8 ?c8 ?k8 ?a9 ?l9 ?c9 ?k9 ?a10 ?l10 ?c10 ?k10 ?a11 ?l11 ?c11 ?k11 ?a12 ?l12 ?c12 ?k12 ?a13 ?l13 ?c13 ?k13 ?a14 ?l14 ?c14 ?k14 ?a15 ?l15 ?c15 ?k15 ?a16 ?l16 ?c16 ?k16 ?a17 ?l17 ?c17 ?k17 ?aC ?pgC ?hdC ?poC ?saC ?mkC ?kcC ?naC0 ?naC1 ?a18 ?i18 ?l18 ?c18 ?k18 ?a19 ?i19 ?l19 ?c19 ?k19 ?a20 ?i20 ?l20 ?c20 ?k20 ?a21 ?i21 ?l21 ?c21 ?k21 ?a22 ?i22 ?l22 ?c22 ?k22 ?t22 ?z1 ?z2 ?z3 ?z4 ?z5 ?z6 ?z7 ?z8 ?z9 ?z10 ?z11 ?z12 ?z13 ?z14 ?z15 ?z16 ?z17 ?aEBadText ?cEBadText ?saEBadText ?gaEBadText ?ggEBadText ?nwEBadText ?inEBadText ?tiEBadText ?liEBadText ?ciEBadText ?kcEBadText ?exEBadText ?tyEBadText ?hdEBadText ?clEBadText ?spEBadText ?tkEBadText ?mrEBadText ?suEBadText ?aEBadForm ?tyEBadForm ?hdEBadForm ?aEBadRow ?tyEBadRow ?hdEBadRow ?aEUnfit ?tyEUnfit ?hdEUnfit ?zEValueError ?sqBadText_ValueError ?exEBadForm ?sqBadText_BadForm ?exEBadRow ?sqBadText_BadRow ?exEUnfit ?sqBadText_Unfit
    (case a1 => k_is)
    (case l1 => k_is)
    (case c1 => k_is)
    (case k1 => k_is)
    (case a2 => k_is)
    (case l2 => k_is)
    (case c2 => k_is)
    (case k2 => k_is)
    (case a3 => k_is)
    (case l3 => k_is)
    (case c3 => k_is)
    (case k3 => k_is)
    (case a4 => k_is)
    (case l4 => k_is)
    (case c4 => k_is)
    (case k4 => k_is)
    (case a5 => k_is)
    (case l5 => k_is)
    (case c5 => k_is)
    (case k5 => k_is)
    (case a6 => k_is)
    (case l6 => k_is)
    (case c6 => k_is)
    (case k6 => k_is)
    (case a7 => k_is)
    (case l7 => k_is)
    (case c7 => k_is)
    (case k7 => k_is)
    (case a8 => k_is)
    (case l8 => k_is)
    (case c8 => k_is)
    (case k8 => k_is)
    (case a9 => k_is)
    (case l9 => k_is)
    (case c9 => k_is)
    (case k9 => k_is)
    (case a10 => k_is)
    (case l10 => k_is)
    (case c10 => k_is)
    (case k10 => k_is)
    (case a11 => k_is)
    (case l11 => k_is)
    (case c11 => k_is)
    (case k11 => k_is)
    (case a12 => k_is)
    (case l12 => k_is)
    (case c12 => k_is)
    (case k12 => k_is)
    (case a13 => k_is)
    (case l13 => k_is)
    (case c13 => k_is)
    (case k13 => k_is)
    (case a14 => k_is)
    (case l14 => k_is)
    (case c14 => k_is)
    (case k14 => k_is)
    (case a15 => k_is)
    (case l15 => k_is)
    (case c15 => k_is)
    (case k15 => k_is)
    (case a16 => k_is)
    (case l16 => k_is)
    (case c16 => k_is)
    (case k16 => k_is)
    (case a17 => k_is)
    (case l17 => k_is)
    (case c17 => k_is)
    (case k17 => k_is)
    (case aC => k_is)
    (case pgC => k_is)
    (case hdC => k_is)
    (case poC => k_is)
    (case saC => k_is)
    (case mkC => k_is)
    (case kcC => k_is)
    (case naC0 => k_is)
    (case naC1 => k_is)
    (case a18 => k_is)
    (case i18 => k_is)
    (case l18 => k_is)
    (case c18 => k_is)
    (case k18 => k_is)
    (case a19 => k_is)
    (case i19 => k_is)
    (case l19 => k_is)
    (case c19 => k_is)
    (case k19 => k_is)
    (case a20 => k_is)
    (case i20 => k_is)
    (case l20 => k_is)
    (case c20 => k_is)
    (case k20 => k_is)
    (case a21 => k_is)
    (case i21 => k_is)
    (case l21 => k_is)
    (case c21 => k_is)
    (case k21 => k_is)
    (case a22 => k_is)
    (case i22 => k_is)
    (case l22 => k_is)
    (case c22 => k_is)
    (case k22 => k_is)
    (case t22 => k_is)
    (case z1 => k_is)
    (case z2 => k_is)
    (case z3 => k_is)
    (case z4 => k_is)
    (case z5 => k_is)
    (case z6 => k_is)
    (case z7 => k_is)
    (case z8 => k_is)
    (case z9 => k_is)
    (case z10 => k_is)
    (case z11 => k_is)
    (case z12 => k_is)
    (case z13 => k_is)
    (case z14 => k_is)
    (case z15 => k_is)
    (case z16 => k_is)
    (case z17 => k_is)
    (case aEBadText => k_is)
    (case cEBadText => k_is)
    (case saEBadText => k_is)
    (case gaEBadText => k_is)
    (case ggEBadText => k_is)
    (case nwEBadText => k_is)
    (case inEBadText => k_is)
    (case tiEBadText => k_is)
    (case liEBadText => k_is)
    (case ciEBadText => k_is)
    (case kcEBadText => k_is)
    (case exEBadText => k_is)
    (case tyEBadText => k_is)
    (case hdEBadText => k_is)
    (case clEBadText => k_is)
    (case spEBadText => k_is)
    (case tkEBadText => k_is)
    (case mrEBadText => k_is)
    (case suEBadText => first | rfl | k_is)
    (case aEBadForm => k_is)
    (case tyEBadForm => k_is)
    (case hdEBadForm => k_is)
    (case aEBadRow => k_is)
    (case tyEBadRow => k_is)
    (case hdEBadRow => k_is)
    (case aEUnfit => k_is)
    (case tyEUnfit => k_is)
    (case hdEUnfit => k_is)
    (case zEValueError => k_is)
    (case sqBadText_ValueError => first | rfl | k_is)
    (case exEBadForm => k_is)
    (case sqBadText_BadForm => first | rfl | k_is)
    (case exEBadRow => k_is)
    (case sqBadText_BadRow => first | rfl | k_is)
    (case exEUnfit => k_is)
    (case sqBadText_Unfit => first | rfl | k_is)

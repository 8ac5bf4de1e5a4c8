import PyProof.Rows.All
import Wide.All
import OpenK.AllK
import Wide.FinOn
import HandS.ForMost
import HandS.Walk
import HandS.Zip
import HandS.WideBits
import HandS.IsInst
import OpenK.KEqL
import HandS.More
import HandS.Flow
import HandS.NoneIn
import HandS.Defaults
import HandS.Wide
import HandS.Style
import KE.OsRunLaw
import HandS.Conv
import HandS.FStr
import HandS.StrMore
import HandS.Text
import HandS.Strs
import HandS.DictComp
import HandS.Deep
import HandS.WordsDict
import HandS.Dict
import HandS.Star
import HandS.Codes
import HandS.Small
import PySem.Challenge.RW_guessedzeros_k81_whole_all_words_of_smal
set_option Elab.async false
set_option linter.all false
set_option maxRecDepth 100000
set_option maxHeartbeats 40000000
namespace GZ
open PySem PySem.Spec PyProof.Rows L2
/-! ### the text by places -/
def topS (i : Nat) : Stmt := PySem.Challenge.pw_guessedzeros_k81_whole_all_words_of_smal.main.body.getD i (.Pass ⟨0, 0, 0, 0⟩)
abbrev s_is_number : Stmt := topS 5
theorem sc_is_number : FnScope ["thing"] ["thing"] (defScope s_is_number) := ⟨rfl, rfl, rfl, by decide +kernel, rfl, by decide +kernel, by decide +kernel⟩
abbrev s_is_number_in : Stmt := topS 6
theorem sc_is_number_in : FnScope ["least", "greatest", "thing"] ["least", "greatest", "thing"] (defScope s_is_number_in) := ⟨rfl, rfl, rfl, by decide +kernel, rfl, by decide +kernel, by decide +kernel⟩
abbrev s_Form___init__ : Stmt := inClass (topS 8) 0
theorem sc_Form___init__ : FnScope ["self", "scale", "tail"] ["self", "scale", "tail"] (defScope s_Form___init__) := ⟨rfl, rfl, rfl, by decide +kernel, rfl, by decide +kernel, by decide +kernel⟩
abbrev s_Form_width : Stmt := inClass (topS 8) 1
theorem sc_Form_width : FnScope ["self"] ["self"] (defScope s_Form_width) := ⟨rfl, rfl, rfl, by decide +kernel, rfl, by decide +kernel, by decide +kernel⟩
abbrev s_Form_bias : Stmt := inClass (topS 8) 2
theorem sc_Form_bias : FnScope ["self"] ["self"] (defScope s_Form_bias) := ⟨rfl, rfl, rfl, by decide +kernel, rfl, by decide +kernel, by decide +kernel⟩
abbrev s_Form_top : Stmt := inClass (topS 8) 3
theorem sc_Form_top : FnScope ["self"] ["self"] (defScope s_Form_top) := ⟨rfl, rfl, rfl, by decide +kernel, rfl, by decide +kernel, by decide +kernel⟩
abbrev s_Form_parts : Stmt := inClass (topS 8) 4
theorem sc_Form_parts : FnScope ["self", "word", "sign", "scale", "tail"] ["self", "word"] (defScope s_Form_parts) := ⟨rfl, rfl, rfl, by decide +kernel, rfl, by decide +kernel, by decide +kernel⟩
abbrev s_Form_word_of : Stmt := inClass (topS 8) 5
theorem sc_Form_word_of : FnScope ["self", "sign", "scale", "tail"] ["self", "sign", "scale", "tail"] (defScope s_Form_word_of) := ⟨rfl, rfl, rfl, by decide +kernel, rfl, by decide +kernel, by decide +kernel⟩
abbrev s_Form_is_word : Stmt := inClass (topS 8) 6
theorem sc_Form_is_word : FnScope ["self", "thing"] ["self", "thing"] (defScope s_Form_is_word) := ⟨rfl, rfl, rfl, by decide +kernel, rfl, by decide +kernel, by decide +kernel⟩
abbrev s_Form_sort_of : Stmt := inClass (topS 8) 7
theorem sc_Form_sort_of : FnScope ["self", "word", "sign", "scale", "tail"] ["self", "word"] (defScope s_Form_sort_of) := ⟨rfl, rfl, rfl, by decide +kernel, rfl, by decide +kernel, by decide +kernel⟩
abbrev s_Form_nought : Stmt := inClass (topS 8) 8
theorem sc_Form_nought : FnScope ["self", "sign"] ["self", "sign"] (defScope s_Form_nought) := ⟨rfl, rfl, rfl, by decide +kernel, rfl, by decide +kernel, by decide +kernel⟩
abbrev s_Form_endless : Stmt := inClass (topS 8) 9
theorem sc_Form_endless : FnScope ["self", "sign"] ["self", "sign"] (defScope s_Form_endless) := ⟨rfl, rfl, rfl, by decide +kernel, rfl, by decide +kernel, by decide +kernel⟩
abbrev s_Form_greatest : Stmt := inClass (topS 8) 10
theorem sc_Form_greatest : FnScope ["self", "sign"] ["self", "sign"] (defScope s_Form_greatest) := ⟨rfl, rfl, rfl, by decide +kernel, rfl, by decide +kernel, by decide +kernel⟩
abbrev s_Form_turned : Stmt := inClass (topS 8) 13
theorem sc_Form_turned : FnScope ["self", "word", "sign", "scale", "tail"] ["self", "word"] (defScope s_Form_turned) := ⟨rfl, rfl, rfl, by decide +kernel, rfl, by decide +kernel, by decide +kernel⟩
abbrev s_Form_worth : Stmt := inClass (topS 8) 14
theorem sc_Form_worth : FnScope ["self", "word", "sign", "scale", "tail", "number", "power"] ["self", "word"] (defScope s_Form_worth) := ⟨rfl, rfl, rfl, by decide +kernel, rfl, by decide +kernel, by decide +kernel⟩
abbrev s_spelled : Stmt := topS 10
theorem sc_spelled : FnScope ["form", "word", "sign", "scale", "tail"] ["form", "word"] (defScope s_spelled) := ⟨rfl, rfl, rfl, by decide +kernel, rfl, by decide +kernel, by decide +kernel⟩
abbrev s_bits_text : Stmt := topS 11
theorem sc_bits_text : FnScope ["number", "many"] ["number", "many"] (defScope s_bits_text) := ⟨rfl, rfl, rfl, by decide +kernel, rfl, by decide +kernel, by decide +kernel⟩
abbrev s_word_in : Stmt := topS 12
theorem sc_word_in : FnScope ["form", "text", "parts", "word", "figure", "part"] ["form", "text"] (defScope s_word_in) := ⟨rfl, rfl, rfl, by decide +kernel, rfl, by decide +kernel, by decide +kernel⟩
abbrev s_worth_text : Stmt := topS 13
theorem sc_worth_text : FnScope ["form", "word", "sort", "ahead", "number", "power"] ["form", "word"] (defScope s_worth_text) := ⟨rfl, rfl, rfl, by decide +kernel, rfl, by decide +kernel, by decide +kernel⟩
abbrev s_compared : Stmt := topS 14
theorem sc_compared : FnScope ["form", "a", "b", "one", "other"] ["form", "a", "b"] (defScope s_compared) := ⟨rfl, rfl, rfl, by decide +kernel, rfl, by decide +kernel, by decide +kernel⟩
abbrev s_rank_of : Stmt := topS 15
theorem sc_rank_of : FnScope ["form", "word", "size"] ["form", "word"] (defScope s_rank_of) := ⟨rfl, rfl, rfl, by decide +kernel, rfl, by decide +kernel, by decide +kernel⟩
abbrev s_size_of : Stmt := topS 16
theorem sc_size_of : FnScope ["form", "word", "sign", "scale", "tail"] ["form", "word"] (defScope s_size_of) := ⟨rfl, rfl, rfl, by decide +kernel, rfl, by decide +kernel, by decide +kernel⟩
abbrev sBox : Stmt := topS 18
abbrev sTake : Stmt := topS 19
abbrev sFolded : Stmt := topS 20
abbrev s__law_sorts_right : Stmt := topS 21
theorem sc__law_sorts_right : FnScope ["_law_form", "_law_words", "_law_found", "_law_word", "_law_tails", "_law_scales", "_law_due"] ["_law_form", "_law_words"] (defScope s__law_sorts_right) := ⟨rfl, rfl, rfl, by decide +kernel, rfl, by decide +kernel, by decide +kernel⟩
abbrev s__law_rise_right : Stmt := topS 22
theorem sc__law_rise_right : FnScope ["_law_form", "_law_least", "_law_last", "_law_number", "_law_power", "_law_more", "_law_other", "_law_gap"] ["_law_form"] (defScope s__law_rise_right) := ⟨rfl, rfl, rfl, by decide +kernel, rfl, by decide +kernel, by decide +kernel⟩
abbrev s__law_place : Stmt := topS 23
theorem sc__law_place : FnScope ["_law_form", "_law_word", "_law_size"] ["_law_form", "_law_word"] (defScope s__law_place) := ⟨rfl, rfl, rfl, by decide +kernel, rfl, by decide +kernel, by decide +kernel⟩
abbrev s__law_pairs_right : Stmt := topS 24
theorem sc__law_pairs_right : FnScope ["_law_form", "_law_words", "_law_a", "_law_one", "_law_b", "_law_other", "_law_due"] ["_law_form", "_law_words"] (defScope s__law_pairs_right) := ⟨rfl, rfl, rfl, by decide +kernel, rfl, by decide +kernel, by decide +kernel⟩
abbrev s__law_right : Stmt := topS 25
theorem sc__law_right : FnScope ["_law_box_here", "_law_scale", "_law_form", "_law_many", "_law_words", "_law_texts", "_law_word", "_law_sign", "_law_high", "_law_low", "_law_text", "_law_worth", "_law_turned", "_law_fine"] ["_law_box_here"] (defScope s__law_right) := ⟨rfl, rfl, rfl, by decide +kernel, rfl, by decide +kernel, by decide +kernel⟩
abbrev s_law : Stmt := topS 26
theorem sc_law : FnScope ["_law_script", "_law_cells", "_law_k"] ["_law_script"] (defScope s_law) := ⟨rfl, rfl, rfl, by decide +kernel, rfl, by decide +kernel, by decide +kernel⟩
/-! ### built-in names that the text leaves alone -/
structure Bl (mg : Str → Option Value) : Prop where
  len : mg "len" = none
  abs : mg "abs" = none
  int : mg "int" = none
  divmod : mg "divmod" = none
  list : mg "list" = none
  enumerate : mg "enumerate" = none
  isinstance : mg "isinstance" = none
  tuple : mg "tuple" = none
  str : mg "str" = none
  bool : mg "bool" = none
  zip : mg "zip" = none
  all : mg "all" = none
  range : mg "range" = none
  max : mg "max" = none
  any : mg "any" = none
  min : mg "min" = none
  sum : mg "sum" = none
/-! ### rules with the written part told (for the blocks of comprehensions) -/
section
variable {X : Cx} {K : PySem.W.Frag}
theorem call_len_seqK (h : X.K = K := by rfl) : CallR X (.builtin "len") (fun xs H Q => ∃ p ys, xs = [.ref p] ∧ (SqL K H p ys ∨ SqT K H p ys) ∧ Q (.int ys.length) H) := by subst h; exact call_len_seq
theorem call_list_ofK (h : X.K = K := by rfl) : CallR X (.type "list") (fun xs H Q => ∃ p ys, xs = [.ref p] ∧ (SqL K H p ys ∨ SqT K H p ys) ∧ ∀ l, H l = none → Q (.ref l) (upd H l (.lst ys))) := by subst h; exact call_list_of
theorem call_tuple_ofK (h : X.K = K := by rfl) : CallR X (.type "tuple") (fun xs H Q => ∃ p ys, xs = [.ref p] ∧ ((SqL K H p ys ∧ ∀ l, H l = none → Q (.ref l) (upd H l (.tup ys))) ∨ (SqT K H p ys ∧ Q (.ref p) H))) := by subst h; exact call_tuple_of
theorem ix_listK (h : X.K = K := by rfl) : IxR X (rIxL K) := by subst h; exact ix_list
theorem ix_tupK (h : X.K = K := by rfl) : IxR X (rIxT K) := by subst h; exact ix_tup
theorem ix_seqK (h : X.K = K := by rfl) : IxR X (rIx K) := by subst h; exact ix_seq
theorem op_in_seqK (h : X.K = K := by rfl) : OpR X (compareOp .In) (rIn K false) := by subst h; exact op_in_seq
theorem op_notIn_seqK (h : X.K = K := by rfl) : OpR X (compareOp .NotIn) (rIn K true) := by subst h; exact op_notIn_seq
theorem sl_listK (h : X.K = K := by rfl) : SlR X (rSlL K) := by subst h; exact sl_list
theorem cr_sumK (hc : X.calm = true) (h : X.K = K := by rfl) : CallR X (.builtin "sum") (rSum K) := by subst h; exact cr_sum hc
theorem cr_allK (hc : X.calm = true) (h : X.K = K := by rfl) : CallR X (.builtin "all") (rAll K) := by subst h; exact cr_all hc
theorem cr_anyK (hc : X.calm = true) (h : X.K = K := by rfl) : CallR X (.builtin "any") (rAny K) := by subst h; exact cr_any hc
theorem call_isiK' (h : X.K = K := by rfl) : CallR X (.builtin "isinstance") (rIsi K) := by subst h; exact call_isi
theorem pi_listK {tg l : Expr} {tl : TE} (hl : PE X l tl) (h : X.K = K := by rfl) : PI X tg l (iList K tl) := by subst h; exact pi_list hl
theorem pi_tupK {tg l : Expr} {tl : TE} (hl : PE X l tl) (h : X.K = K := by rfl) : PI X tg l (iTup K tl) := by subst h; exact pi_tup hl
theorem pe_fldK {e : Expr} {ta : TE} {f : Str} {pos : Pos} (he : PE X e ta) (hb : attributeBase e f X.env (eval e X.env) = eval e X.env) (h : X.K = K := by rfl) : PE X (.Attribute e f pos) (tFld K ta f) := by subst h; exact pe_fld he hb
end
/-! ### heaps -/
theorem same_upd {H : Hp} {p : Addr} {o : HO} (h : H p = none) : Same H (upd H p o) := fun b x e => by
  rw [upd_ne (ne_of_none e h)]
  exact e
/-- all but what stands at b is as it was -/
def Keep (b : Addr) (H H' : Hp) : Prop := ∀ p o, H p = some o → p ≠ b → H' p = some o
theorem Keep.refl (b : Addr) (H : Hp) : Keep b H H := fun _ _ h _ => h
theorem Keep.trans {b : Addr} {H H1 H2 : Hp} (x : Keep b H H1) (y : Keep b H1 H2) : Keep b H H2 := fun p o h n => y p o (x p o h n) n
theorem Keep.ofSame {b : Addr} {H H1 : Hp} (x : Same H H1) : Keep b H H1 := fun p o h _ => x p o h
theorem Keep.upd {b : Addr} {H : Hp} {o : HO} : Keep b H (upd H b o) := fun p x h n => by
  rw [upd_ne n]
  exact h
theorem Keep.new {b p : Addr} {H : Hp} {o : HO} (h : H p = none) : Keep b H (L2.upd H p o) := .ofSame (same_upd h)
theorem Keep.seq {K : PySem.W.Frag} {b a : Addr} {H H' : Hp} {xs : List V} (e : Keep b H H') (n : a ≠ b) (h : SqL K H a xs) : SqL K H' a xs := by
  rcases h with (h | ⟨o, h⟩) | h
  · exact .inl (.inl (e _ _ h n))
  · exact .inl (.inr ⟨o, e _ _ h n⟩)
  · exact .inr h
theorem Keep.seqT {K : PySem.W.Frag} {b a : Addr} {H H' : Hp} {xs : List V} (e : Keep b H H') (n : a ≠ b) (h : SqT K H a xs) : SqT K H' a xs := by
  rcases h with (h | ⟨o, h⟩) | h
  · exact .inl (.inl (e _ _ h n))
  · exact .inl (.inr ⟨o, e _ _ h n⟩)
  · exact .inr h
theorem Same.seqT {K : PySem.W.Frag} {a : Addr} {H H' : Hp} {xs : List V} (e : Same H H') (h : SqT K H a xs) : SqT K H' a xs := by
  rcases h with (h | ⟨o, h⟩) | h
  · exact .inl (.inl (e _ _ h))
  · exact .inl (.inr ⟨o, e _ _ h⟩)
  · exact .inr h
/-- a drawing box: three ints, the last at most c -/
def BoxAt (c : Int) (H : Hp) (b : Addr) : Prop := ∃ x0 x1 x2 : Int, H b = some (.lst [.int x0, .int x1, .int x2]) ∧ 0 ≤ x0 ∧ 0 ≤ x1 ∧ x1 < 2147483647 ∧ 0 ≤ x2 ∧ x2 ≤ c
theorem BoxAt.mono {c d : Int} {H : Hp} {b : Addr} (h : BoxAt c H b) (l : c ≤ d) : BoxAt d H b := by
  obtain ⟨x0, x1, x2, e, a1, a2, a3, a4, a5⟩ := h
  exact ⟨x0, x1, x2, e, a1, a2, a3, a4, by omega⟩
theorem BoxAt.same {c : Int} {H H' : Hp} {b : Addr} (h : BoxAt c H b) (s : Same H H') : BoxAt c H' b := by
  obtain ⟨x0, x1, x2, e, r⟩ := h
  exact ⟨x0, x1, x2, s _ _ e, r⟩
theorem BoxAt.at {c : Int} {H H' : Hp} {b : Addr} (h : BoxAt c H b) (s : H' b = H b) : BoxAt c H' b := by
  obtain ⟨x0, x1, x2, e, r⟩ := h
  exact ⟨x0, x1, x2, by rw [s]; exact e, r⟩
theorem BoxAt.ne {c : Int} {H : Hp} {b p : Addr} (h : BoxAt c H b) (n : H p = none) : b ≠ p := by
  obtain ⟨x0, x1, x2, e, r⟩ := h
  exact ne_of_none e n
theorem e7 : (10 : Int) ^ ((7 : Int).toNat) = 10000000 := by decide
theorem e18 : (10 : Int) ^ ((18 : Int).toNat) = 1000000000000000000 := by decide
theorem divp_small {i j : Int} (h0 : 0 < j) (h1 : j < 2 ^ 250) : CDivP i j := by
  refine ⟨h0, ?_⟩
  show (decide ((if j == 0 then 0 else j.natAbs.log2 / 30 + 1) > 300) && _) = false
  rw [if_neg (show ¬ (j == 0) = true by simpa using (show j ≠ 0 by omega))]
  have hl : j.natAbs.log2 < 250 := PySem.Flt.log2_lt_of (by decide) (by omega)
  rw [decide_eq_false (show ¬ (j.natAbs.log2 / 30 + 1 > 300) by omega), Bool.false_and]
section
variable {P : Program} {w : World} {K : PySem.W.Frag} {mg : Str → Option Value} {base : Heap}
/-! ### _law_take -/
theorem scTake : FnScope ["_law_box_here", "_law_size", "_law_found", "_law_step", "_law_once", "_law_twice"] ["_law_box_here", "_law_size"] (defScope sTake) := ⟨rfl, rfl, rfl, by decide +kernel, rfl, by decide +kernel, by decide +kernel⟩
def spTake (k : Nat) : Sp := fun vs H Q _ => ∃ (b : Addr) (n c : Int), vs = [.ref b, .int n] ∧ BoxAt c H b ∧ 1 ≤ n ∧ n ≤ 10000000 ^ k ∧ n < 2 ^ 250 ∧ c + 2 ^ k ≤ 1000000000 ∧ 0 < k ∧
  ∀ (r : Int) (H' : Hp), 0 ≤ r → r < n → BoxAt (c + 2 ^ (k - 1)) H' b → Keep b H H' → Q (.int r) H'
theorem take_none {f : Addr} {fd : FuncData} : FnOk P w K mg base CX0 0 f fd ["_law_box_here", "_law_size"] (spTake 0) := by
  have no : ∀ vs H Q E, ¬ spTake 0 vs H Q E := fun vs H Q E h => by
    obtain ⟨b, n, c, _, _, _, _, _, _, h0, _⟩ := h
    omega
  exact ⟨fun vs H Q E h => absurd h (no vs H Q E), fun A outer s H args us vs Q E _ _ _ _ h => absurd h (no vs H Q E)⟩
theorem ok_take1 {f : Addr} {fd : FuncData} {k : Nat} (F : Fun K "_law_take" "_law_take" sTake f fd) (G : FnOk P w K mg base CX0 k f fd ["_law_box_here", "_law_size"] (spTake k)) (bf : Binds K fd ["_law_box_here", "_law_size"] []) (mf : mg "_law_take" = some (.ref f)) (B : Bl mg) :
    FnOk P w K mg base CX0 (k + 1) f fd ["_law_box_here", "_law_size"] (spTake (k + 1)) := by
  refine F.ok scTake (fun vs H Q E h => ?_) (fun cdv A outer s H vs Q E hr h => ?_)
  · obtain ⟨b, n, c, rfl, _⟩ := h
    rfl
  obtain ⟨b, n, c, rfl, hB, hn1, hnk, hn60, hc, _, q⟩ := h
  obtain ⟨x0, x1, x2, hb, h0, h1, h1', h2, h2'⟩ := hB
  have hp : (0 : Int) < 2 ^ k := Int.pow_pos (by decide)
  have hk2 : (2 : Int) ^ (k + 1) = 2 ^ k * 2 := Int.pow_succ 2 k
  refine ⟨_, pss_cons (ps_if (pt_cmpR op_gt (pe_ix ix_list (pv 0) pe_int (fun _ _ => rfl)) pe_int (nomark _))
      (pss_cons (ps_asg (pe_callB call_divmodW (by rfl) B.divmod boot_divmod (pa_cons (pe_ix ix_list (pv 0) pe_int (fun _ _ => rfl)) (pa_cons (pv 1) pa_nil)))
          (pg_tup (by rfl) (pgs_cons (pg_sub (pv 0) pe_int set_list) (pgs_cons (pg_name (i := 2) scTake.nd rfl (.inl rfl)) pgs_nil))))
        (pss_one (ps_ret (pv 2)))) pss_nil)
    (pss_cons (ps_if (pt_cmpR op_gt (pv 1) (pe_op op_pow pe_int pe_int) (nomark _))
      (pss_one (ps_ret (pe_op op_mod (pe_op op_add (pe_call G hr (by rfl) mf F.kp bf .nil pass0 (pa_cons (pv 0) (pa_cons (pe_op op_pow pe_int pe_int) pa_nil)))
          (pe_op op_mul (pe_op op_pow pe_int pe_int) (pe_call G hr (by rfl) mf F.kp bf .nil pass0 (pa_cons (pv 0) (pa_cons (pe_op op_add (pe_op op_fdiv (pe_op op_sub (pv 1) pe_int) (pe_op op_pow pe_int pe_int)) pe_int) pa_nil))))) (pv 1)))) pss_nil)
    (pss_cons (ps_asg (pe_op op_add (pe_ix ix_list (pv 0) pe_int (fun _ _ => rfl)) pe_int) (pg_sub (pv 0) pe_int set_list))
    (pss_cons (ps_set (i := 3) scTake.nd rfl (.inl rfl) (pe_op op_add pe_int (pe_op op_mul (pe_ix ix_list (pv 0) pe_int (fun _ _ => rfl)) (pe_ix ix_list (pv 0) pe_int (fun _ _ => rfl)))))
    (pss_cons (ps_set (i := 4) scTake.nd rfl (.inl rfl) (pe_op op_mod (pe_op op_mul (pe_op op_add (pe_ix ix_list (pv 0) pe_int (fun _ _ => rfl)) (pe_op op_mul pe_int (pe_ix ix_list (pv 0) pe_int (fun _ _ => rfl)))) (pv 3)) pe_int))
    (pss_cons (ps_set (i := 5) scTake.nd rfl (.inl rfl) (pe_op op_mod (pe_op op_add (pe_op op_mul (pv 4) (pe_op op_add (pe_op op_mod (pv 4) pe_int) pe_int)) (pe_ix ix_list (pv 0) pe_int (fun _ _ => rfl))) pe_int))
    (pss_one (ps_ret (pe_op op_mod (pe_op op_fdiv (pe_op op_mod (pe_op op_mul (pv 5) (pe_op op_add (pe_op op_mod (pv 5) pe_int) pe_int)) pe_int) pe_int) (pv 1))))))))), ?_⟩
  refine ⟨_, rfl, b, _, _, _, rfl, rfl, SqL.of hb, rfl, _, _, rfl, rfl, _, rfl, ite2 (fun cc => ?_) (fun cc => ?_)⟩
  · -- the great number's own digits
    refine ⟨_, rfl, b, _, _, _, rfl, rfl, SqL.of hb, rfl, _, rfl, _, _, rfl, divp_small (by omega) (by omega), fun p np => ?_⟩
    have nbp : b ≠ p := ne_of_none hb np
    refine ⟨p, _, rfl, .inl (.inl upd_same), rfl, _, _, rfl, _, rfl, b, _, _, 0, rfl, rfl, (by rw [upd_ne nbp]; exact hb), rfl, _, _, rfl, rfl, _, rfl, ?_⟩
    refine q _ _ (Int.emod_nonneg _ (by omega)) (Int.emod_lt_of_pos _ (by omega)) ⟨x0 / n, x1, x2, upd_same, Int.ediv_nonneg h0 (by omega), h1, h1', h2, by show x2 ≤ c + 2 ^ k; omega⟩ ?_
    exact Keep.trans (Keep.new np) Keep.upd
  · refine ⟨_, rfl, _, _, rfl, rfl, ⟨by decide, by decide, by decide⟩, _, _, rfl, rfl, _, rfl, ite2 (fun c2 => ?_) (fun c2 => ?_)⟩
    · -- two lesser draws
      have c3 : (10 : Int) ^ ((7 : Int).toNat) < n := of_decide_eq_true c2
      rw [e7] at c3
      have hk : 0 < k := by
        rcases Nat.eq_zero_or_pos k with z | z
        · subst z
          rw [show (10000000 : Int) ^ (0 + 1) = 10000000 by decide] at hnk
          omega
        · exact z
      obtain ⟨j, rfl⟩ : ∃ j, k = j + 1 := ⟨k - 1, by omega⟩
      have hj2 : (2 : Int) ^ (j + 1) = 2 ^ j * 2 := Int.pow_succ 2 j
      have hjp : (0 : Int) < 2 ^ j := Int.pow_pos (by decide)
      have h10 : (10000000 : Int) ≤ 10000000 ^ (j + 1) := by
        rw [Int.pow_succ]
        have : (0 : Int) < 10000000 ^ j := Int.pow_pos (by decide)
        omega
      have hdiv : (n - 1) / 10000000 + 1 ≤ 10000000 ^ (j + 1) := by
        rw [Int.pow_succ] at hnk
        have : n - 1 < 10000000 ^ (j + 1) * 10000000 := by omega
        have := Int.ediv_lt_of_lt_mul (by decide) this
        omega
      refine ⟨_, rfl, _, _, rfl, rfl, ⟨by decide, by decide, by decide⟩, b, _, c, rfl, ⟨x0, x1, x2, hb, h0, h1, h1', h2, h2'⟩, (by rw [e7]; decide), (by rw [e7]; exact h10), (by rw [e7]; decide), by omega, by omega, fun r1 H1 a1 a2 B1 k1 => ?_⟩
      refine ⟨_, _, rfl, rfl, ⟨by decide, by decide, by decide⟩, _, rfl, _, rfl, _, _, rfl, rfl, _, _, rfl, rfl, ⟨by decide, by decide, by decide⟩, _, _, rfl, rfl, (by rw [e7]; exact ⟨by decide, by decide⟩), _, _, rfl, rfl, ?_⟩
      rw [e7]
      refine ⟨b, _, c + 2 ^ j, rfl, B1, by omega, hdiv, by omega, by omega, by omega, fun r2 H2 a3 a4 B2 k2 => ?_⟩
      refine ⟨_, _, rfl, rfl, .inl ⟨by decide, by decide⟩, _, _, rfl, rfl, _, rfl, _, _, rfl, rfl, (by show (0 : Int) < n; omega), ?_⟩
      refine q _ _ (Int.emod_nonneg _ (by omega)) (Int.emod_lt_of_pos _ (by omega)) (B2.mono ?_) (k1.trans k2)
      show c + 2 ^ j + 2 ^ j ≤ c + 2 ^ (j + 1)
      omega
    · -- a turn of the wheel
      refine ⟨_, rfl, b, _, _, _, rfl, rfl, SqL.of hb, rfl, _, _, rfl, rfl, _, rfl, b, _, _, 2, rfl, rfl, hb, rfl, ?_⟩
      have hb2 : (upd H b (.lst [.int x0, .int x1, .int (x2 + 1)])) b = some (.lst [.int x0, .int x1, .int (x2 + 1)]) := upd_same
      refine ⟨_, rfl, b, _, _, _, rfl, rfl, SqL.of hb2, rfl, _, rfl, b, _, _, _, rfl, rfl, SqL.of hb2, rfl, _, _, rfl, rfl, .inl ⟨by omega, by omega⟩, _, _, rfl, rfl, ?_⟩
      refine ⟨_, rfl, b, _, _, _, rfl, rfl, SqL.of hb2, rfl, _, rfl, b, _, _, _, rfl, rfl, SqL.of hb2, rfl, _, _, rfl, rfl, .inl ⟨by omega, by omega⟩, _, _, rfl, rfl, _, rfl, _, _, rfl, rfl, .inl ⟨by omega, by omega⟩, _, _, rfl, rfl, (by show (0 : Int) < 2147483587; decide), ?_⟩
      generalize (x1 + 39373 * (x2 + 1)) * (69621 + (x2 + 1) * (x2 + 1)) = y
      have y1 := Int.emod_nonneg y (show (2147483587 : Int) ≠ 0 by decide)
      have y2 := Int.emod_lt_of_pos y (show (0 : Int) < 2147483587 by decide)
      refine ⟨_, rfl, _, rfl, _, _, rfl, rfl, (by show (0 : Int) < 30011; decide), _, _, rfl, rfl, _, _, rfl, rfl, .inl ⟨by omega, by omega⟩, _, rfl, b, _, _, _, rfl, rfl, SqL.of hb2, rfl, _, _, rfl, rfl, _, _, rfl, rfl, (by show (0 : Int) < 2147483563; decide), ?_⟩
      generalize (y % 2147483587 * (y % 2147483587 % 30011 + 5) + (x2 + 1)) = z
      have z1 := Int.emod_nonneg z (show (2147483563 : Int) ≠ 0 by decide)
      have z2 := Int.emod_lt_of_pos z (show (0 : Int) < 2147483563 by decide)
      refine ⟨_, rfl, _, rfl, _, _, rfl, rfl, (by show (0 : Int) < 1013; decide), _, _, rfl, rfl, _, _, rfl, rfl, .inl ⟨by omega, by omega⟩, _, _, rfl, rfl, (by show (0 : Int) < 998244353; decide), _, _, rfl, rfl, ⟨by decide, by decide⟩, _, rfl, _, _, rfl, rfl, (by show (0 : Int) < n; omega), ?_⟩
      refine q _ _ (Int.emod_nonneg _ (by omega)) (Int.emod_lt_of_pos _ (by omega)) ⟨x0, x1, x2 + 1, hb2, h0, h1, h1', by omega, by show x2 + 1 ≤ c + 2 ^ k; omega⟩ Keep.upd
theorem ok_take {f : Addr} {fd : FuncData} (F : Fun K "_law_take" "_law_take" sTake f fd) (bf : Binds K fd ["_law_box_here", "_law_size"] []) (mf : mg "_law_take" = some (.ref f)) (B : Bl mg) : ∀ k : Nat, FnOk P w K mg base CX0 k f fd ["_law_box_here", "_law_size"] (spTake k)
  | 0 => take_none
  | k + 1 => ok_take1 F (ok_take F bf mf B k) bf mf B
/-! ### _law_box -/
theorem scBox : FnScope ["_law_script", "_law_k", "_law_cell"] ["_law_script", "_law_k"] (defScope sBox) := ⟨rfl, rfl, rfl, by decide +kernel, rfl, by decide +kernel, by decide +kernel⟩
def spBox (K : PySem.W.Frag) : Sp := fun vs H Q _ => ∃ (a : Addr) (zs : List Int) (k : Int), vs = [.ref a, .int k] ∧ SqL K H a (zs.map V.int) ∧ 0 ≤ k ∧ k ≤ 1000 ∧
  ∀ (p : Addr) (H' : Hp), H p = none → Same H H' → BoxAt 0 H' p → Q (.ref p) H'
theorem b01 (b : Bool) : (-(2 ^ 64) < (if b = true then (1 : Int) else 0)) ∧ (if b = true then (1 : Int) else 0) < 2 ^ 64 := by cases b <;> decide
theorem b01n (b : Bool) : 0 ≤ (if b = true then (1 : Int) else 0) := by cases b <;> decide
theorem abs_nn (i : Int) : 0 ≤ (if i < 0 then -i else i) := by
  split <;> omega
theorem at_int {zs : List Int} {k : Int} (h0 : 0 ≤ k) (h : k < (zs.length : Int)) : ∃ v : Int, atI (zs.map V.int) k = some (.int v) ∧ zs[k.toNat]? = some v := by
  have hk : k.toNat < zs.length := by omega
  have ek : k = ((k.toNat : Nat) : Int) := by omega
  have q : atI (zs.map V.int) ((k.toNat : Nat) : Int) = some (.int zs[k.toNat]) := atI_nat (by rw [List.getElem?_map, List.getElem?_eq_getElem hk] <;> rfl)
  rw [← ek] at q
  exact ⟨zs[k.toNat], q, List.getElem?_eq_getElem hk⟩
theorem ok_box {f : Addr} {fd : FuncData} {k : Nat} (F : Fun K "_law_box" "_law_box" sBox f fd) (B : Bl mg) : FnOk P w K mg base CX0 (k + 1) f fd ["_law_script", "_law_k"] (spBox K) := by
  refine F.ok scBox (fun vs H Q E h => ?_) (fun cdv A outer s H vs Q E hr h => ?_)
  · obtain ⟨a, zs, k, rfl, _⟩ := h
    rfl
  obtain ⟨a, zs, k, rfl, hS, h0, h1, q⟩ := h
  refine ⟨_, pss_cons (ps_set (i := 2) scBox.nd rfl (.inl rfl) (pe_ifExp (pt_cmpR op_lt (pv 1) (pe_callB call_len_seq (by rfl) B.len PySem.boot_len (pa_cons (pv 0) pa_nil)) (nomark _)) (pe_ix ix_list (pv 0) (pv 1) (fun _ _ => rfl)) pe_int))
    (pss_one (ps_ret (pe_lst (pa_cons (pe_op op_mul (pe_callB call_abs (by rfl) B.abs boot_abs (pa_cons (pv 2) pa_nil)) (pe_callTy call_int1 (by rfl) B.int PyProof.Rows.boot_int (pa_cons (pe_cmpR op_ge (pe_callB call_abs (by rfl) B.abs boot_abs (pa_cons (pv 2) pa_nil)) (pe_op op_pow pe_int pe_int) (nomark _)) pa_nil)))
      (pa_cons (pe_op op_mod (pe_op op_mul (pe_op op_add (pe_op op_add (pe_op op_mod (pv 2) pe_int) (pe_op op_mul pe_int (pv 1))) pe_int) pe_int) pe_int) (pa_cons pe_int pa_nil)))))), ?_⟩
  refine ⟨_, rfl, _, rfl, a, _, rfl, .inl hS, _, _, rfl, rfl, _, rfl, ite2 (fun cc => ?_) (fun cc => ?_)⟩
  · have c1 : k < (((zs.map V.int).length : Nat) : Int) := of_decide_eq_true cc
    rw [List.length_map] at c1
    obtain ⟨v, hv, _⟩ := at_int h0 c1
    refine ⟨_, rfl, _, rfl, a, _, _, _, rfl, rfl, hS, hv, ?_⟩
    refine ⟨_, rfl, _, rfl, _, rfl, _, rfl, _, _, rfl, rfl, ⟨by decide, by decide, by decide⟩, _, _, rfl, rfl, .inr ⟨_, rfl, ?_⟩⟩
    refine ⟨_, _, rfl, rfl, .inr (b01 _), _, rfl, _, _, rfl, rfl, (by show (0 : Int) < 2147483629; decide), _, rfl, _, _, rfl, rfl, .inl ⟨by decide, by decide⟩, _, _, rfl, rfl, _, _, rfl, rfl, _, _, rfl, rfl, .inr ⟨by decide, by decide⟩, _, _, rfl, rfl, (by show (0 : Int) < 2147483647; decide), (by show 3 ≤ sizeLine; decide), fun p np => ?_⟩
    refine q p _ np (same_upd np) ⟨_, _, _, upd_same, Int.mul_nonneg (abs_nn v) (b01n _), Int.emod_nonneg _ (by decide), Int.emod_lt_of_pos _ (by decide), by decide, by decide⟩
  · refine ⟨_, rfl, _, rfl, _, rfl, _, rfl, _, _, rfl, rfl, ⟨by decide, by decide, by decide⟩, _, _, rfl, rfl, .inr ⟨_, rfl, ?_⟩⟩
    refine ⟨_, _, rfl, rfl, .inr (b01 _), _, rfl, _, _, rfl, rfl, (by show (0 : Int) < 2147483629; decide), _, rfl, _, _, rfl, rfl, .inl ⟨by decide, by decide⟩, _, _, rfl, rfl, _, _, rfl, rfl, _, _, rfl, rfl, .inr ⟨by decide, by decide⟩, _, _, rfl, rfl, (by show (0 : Int) < 2147483647; decide), (by show 3 ≤ sizeLine; decide), fun p np => ?_⟩
    refine q p _ np (same_upd np) ⟨_, _, _, upd_same, Int.mul_nonneg (abs_nn 0) (b01n _), Int.emod_nonneg _ (by decide), Int.emod_lt_of_pos _ (by decide), by decide, by decide⟩
/-! ### _law_folded -/
theorem scFolded : FnScope ["_law_script", "_law_size", "_law_cells", "_law_k", "_law_cell"] ["_law_script", "_law_size"] (defScope sFolded) := ⟨rfl, rfl, rfl, by decide +kernel, rfl, by decide +kernel, by decide +kernel⟩
def spFolded (K : PySem.W.Frag) : Sp := fun vs H Q _ => ∃ (a : Addr) (ns : List Int) (m : Nat), vs = [.ref a, .int (m : Int)] ∧ SqL K H a (ns.map V.int) ∧ ns.length ≤ 63 ∧ 1 ≤ m ∧ m ≤ 63 ∧
  ∀ (p : Addr) (H' : Hp) (zs : List Int), H p = none → Same H H' → H' p = some (.lst (zs.map V.int)) → zs.length = min ns.length m → Q (.ref p) H'
theorem cut_lo (ns : List Int) (m : Nat) : cutV (ns.map V.int) none (some (m : Int)) = (ns.take m).map V.int := by
  unfold cutV
  rw [HT.sIx_none, HT.sIx_nat, List.drop_zero, Nat.sub_zero, List.length_map, ← List.map_take]
  congr 1
  rw [List.take_eq_take_iff]
  omega
theorem cut_mid (ns : List Int) (m j : Nat) : ∃ ws : List Int, cutV (ns.map V.int) (some (m : Int)) (some (j : Int)) = ws.map V.int ∧ ws.length ≤ ns.length - m := by
  unfold cutV
  rw [HT.sIx_nat, HT.sIx_nat, List.length_map, ← List.map_drop, ← List.map_take]
  refine ⟨_, rfl, ?_⟩
  rw [List.length_take, List.length_drop]
  omega
theorem int_at {ws : List Int} {i : Nat} {x : V} (h : (ws.map V.int)[i]? = some x) : ∃ z, ws[i]? = some z ∧ x = .int z := by
  rw [List.getElem?_map] at h
  cases e : ws[i]? with
  | none =>
    rw [e] at h
    cases h
  | some z =>
    rw [e] at h
    exact ⟨z, rfl, (Option.some.inj h).symm⟩
theorem map_set (zs : List Int) (j : Nat) (v : Int) : (zs.map V.int).set j (.int v) = (zs.set j v).map V.int := List.map_set.symm
theorem ixN_nat {n j : Nat} (h : j < n) : ixN n (j : Int) = some j := by
  unfold ixN
  rw [if_pos (Int.natCast_nonneg j), if_pos (by omega), Int.toNat_natCast]
theorem ok_folded {f : Addr} {fd : FuncData} {k : Nat} (F : Fun K "_law_folded" "_law_folded" sFolded f fd) (B : Bl mg) : FnOk P w K mg base CX0 (k + 1) f fd ["_law_script", "_law_size"] (spFolded K) := by
  refine F.ok scFolded (fun vs H Q E h => ?_) (fun cdv A outer s H vs Q E hr h => ?_)
  · obtain ⟨a, ns, m, rfl, _⟩ := h
    rfl
  obtain ⟨a, ns, m, rfl, hS, h63, hm1, hm2, q⟩ := h
  refine ⟨_, pss_cons (ps_set (i := 2) scFolded.nd rfl (.inl rfl) (pe_callTy call_list_of (by rfl) B.list PyProof.Rows.boot_list (pa_cons (pe_slice sl_list (pv 0) po_none (po_some (pv 1))) pa_nil)))
    (pss_cons (ps_for PassesOwn.never rfl (pi_enum (by rfl) B.enumerate (pa_cons (pe_slice sl_list (pv 0) (po_some (pv 1)) (po_some pe_int)) pa_nil))
        (pg_tup rfl (pgs_cons (pg_name (i := 3) scFolded.nd rfl (.inl rfl)) (pgs_cons (pg_name (i := 4) scFolded.nd rfl (.inl rfl)) pgs_nil)))
      (pss_one (ps_asg (pe_op op_add (pe_ix ix_list (pv 2) (pe_op op_mod (pv 3) (pv 1)) (fun _ _ => rfl)) (pe_op op_mul (pv 4) (pe_op op_add (pv 3) pe_int))) (pg_sub (pv 2) (pe_op op_mod (pv 3) (pv 1)) set_list))))
    (pss_one (ps_ret (pv 2)))), ?_⟩
  refine ⟨_, rfl, _, rfl, _, rfl, a, _, rfl, hS, fun c0 nc0 => ?_⟩
  rw [cut_lo]
  have s0 : Same H (upd H c0 (.lst ((ns.take m).map V.int))) := same_upd nc0
  refine ⟨c0, _, rfl, .inl (.inl (.inl upd_same)), fun p np => ?_⟩
  have npH : H p = none := s0.free np
  have ne0 : c0 ≠ p := fun e => by
    subst e
    rw [upd_same] at np
    cases np
  have s1 := s0.trans (same_upd (o := .lst ((ns.take m).map V.int)) np)
  refine ⟨_, rfl, _, rfl, _, rfl, _, rfl, a, _, rfl, s1.seq hS, fun c nc => ?_⟩
  obtain ⟨ws, ew, lw⟩ := cut_mid ns m 63
  rw [show ((63 : Nat) : Int) = (63 : Int) from rfl] at ew
  rw [ew]
  have s2 := s1.trans (same_upd (o := .lst (ws.map V.int)) nc)
  have nec : c ≠ p := fun e => by
    subst e
    rw [upd_same] at nc
    cases nc
  refine ⟨c, _, rfl, .inl (.inl upd_same), ?_⟩
  refine for_it (walk_enum (K := K) (a := c) (xs := ws.map V.int)) (fun i σ H3 => ∃ (y3 y4 : Option V) (zs : List Int), σ = [some (.ref a), some (.int (m : Int)), some (.ref p), y3, y4] ∧ Same H H3 ∧ H3 c = some (.lst (ws.map V.int)) ∧ H3 p = some (.lst (zs.map V.int)) ∧ zs.length = min ns.length m)
    ⟨none, none, ns.take m, rfl, s2, upd_same, ?_, ?_⟩ (fun i σ H3 _ ⟨_, _, _, _, _, e, _⟩ => .inl (.inl e)) ?_ ?_
  · rw [upd_ne nec.symm]
    exact upd_same
  · rw [List.length_take, Nat.min_comm]
  · rintro i v σ H3 H4 hi ⟨y3, y4, zs, rfl, s3, ec, ep, el⟩ ⟨T, x, y, rfl, nT, rfl, e1, e2⟩
    cases e1
    obtain ⟨z, _, rfl⟩ := int_at e2
    rw [List.length_map] at hi
    have npT : p ≠ T := ne_of_none ep nT
    have ncT : c ≠ T := ne_of_none ec nT
    have sT : Same H3 (upd H3 T (.tup [.int (i : Nat), .int z])) := same_upd nT
    refine ⟨T, _, rfl, .inl (.inl upd_same), rfl, _, _, rfl, _, _, rfl, rfl, ?_⟩
    have lm : (i : Int) % (m : Int) = ((i % m : Nat) : Int) := rfl
    have hl : i % m < zs.length := by
      have := Nat.mod_lt i (show 0 < m by omega)
      omega
    have ev : (zs.map V.int)[i % m]? = some (.int zs[i % m]) := by
      rw [List.getElem?_map, List.getElem?_eq_getElem hl]
      rfl
    refine ⟨_, rfl, _, rfl, _, rfl, _, _, rfl, rfl, (by show (0 : Int) < (m : Int); omega), p, _, _, _, rfl, rfl, SqL.of (sT _ _ ep), (by rw [lm]; exact atI_nat ev), _, rfl, _, rfl, _, _, rfl, rfl, _, _, rfl, rfl, .inr ⟨by omega, by omega⟩, _, _, rfl, rfl, ?_⟩
    refine ⟨_, rfl, _, rfl, _, rfl, _, _, rfl, rfl, (by show (0 : Int) < (m : Int); omega), p, _, _, i % m, rfl, rfl, sT _ _ ep, (by rw [lm, List.length_map]; exact ixN_nat hl), ?_⟩
    refine ⟨_, _, zs.set (i % m) (zs[i % m] + z * ((i : Int) + 2)), rfl, fun b o e => ?_, ?_, ?_, ?_⟩
    · rw [upd_ne (ne_of_none e npH)]
      exact sT _ _ (s3 _ _ e)
    · rw [upd_ne nec]
      exact sT _ _ ec
    · rw [upd_same, map_set]
    · rw [List.length_set]
      exact el
  · rintro σ H3 ⟨y3, y4, zs, rfl, s3, ec, ep, el⟩
    exact ⟨_, rfl, q p H3 zs npH s3 ep el⟩
theorem ty_lst {H : Hp} {a : Addr} {xs : List V} (h : SqL K H a xs) : TyX K H (.ref a) (.type "list") := by
  rcases h with (h | ⟨o, h⟩) | ⟨o, its, n, h1, h2, _⟩
  · exact .base (.lst h)
  · exact .base (.frz h)
  · exact .kList h1 h2
theorem ty_tup {H : Hp} {a : Addr} {xs : List V} (h : SqT K H a xs) : TyX K H (.ref a) (.type "tuple") := by
  rcases h with (h | ⟨o, h⟩) | ⟨o, its, n, h1, h2, _⟩
  · exact .base (.tup h)
  · exact .fTuple h
  · exact .kTuple h1 h2
theorem yesT {σ : L2.St} {H : Hp} {R S : Hp → Prop} (h : R H) : tYes σ H fun b H3 => if b = true then R H3 else S H3 := h
theorem repl_snoc {α : Type} (i : Nat) (x : α) : List.replicate i x ++ [x] = List.replicate (i + 1) x := List.replicate_succ'.symm
theorem all_repl (n : Nat) : (List.replicate n true).all id = true := by
  rw [List.all_eq_true]
  intro x hx
  rw [List.eq_of_mem_replicate hx]
  rfl
end
end GZ
namespace GM
theorem pow_pos' (n : Nat) : (0 : Int) < 2 ^ n := Int.pow_pos (by decide)
theorem pow_s (n : Nat) : (2 : Int) ^ (n + 1) = 2 ^ n * 2 := Int.pow_succ 2 n
theorem pow_le' {m n : Nat} (h : m ≤ n) : (2 : Int) ^ m ≤ 2 ^ n := by
  induction n with
  | zero =>
    have : m = 0 := by omega
    rw [this]
    exact Int.le_refl _
  | succ n ih =>
    by_cases e : m = n + 1
    · rw [e]
      exact Int.le_refl _
    · have := ih (by omega)
      have := pow_s n
      have := pow_pos' n
      omega
theorem pow_add' (m n : Nat) : (2 : Int) ^ (m + n) = 2 ^ m * 2 ^ n := Int.pow_add 2 m n
theorem bits_pow {x : Nat} {e : Nat} (h : x < 2 ^ e) : PySem.Builtin.Int.intBits (x : Int) ≤ e := PyProof.Rows.intBits_le (by rw [Int.natAbs_natCast]; exact h)
theorem bits_le_pow {x : Nat} {e : Nat} (h : 2 ^ e ≤ x) : e + 1 ≤ PySem.Builtin.Int.intBits (x : Int) := by
  have hx : x ≠ 0 := by
    have := Nat.two_pow_pos e
    omega
  unfold PySem.Builtin.Int.intBits
  rw [if_neg (by simpa using hx), Int.natAbs_natCast]
  have := (Nat.le_log2 hx).mpr h
  omega
theorem bits_unique {x e : Nat} (h1 : 2 ^ e ≤ x) (h2 : x < 2 ^ (e + 1)) : PySem.Builtin.Int.intBits (x : Int) = e + 1 := by
  have := bits_pow h2
  have := bits_le_pow h1
  omega
theorem bits_ex {x : Nat} (h : 0 < x) : ∃ e, 2 ^ e ≤ x ∧ x < 2 ^ (e + 1) := ⟨x.log2, Nat.log2_self_le (by omega), Nat.lt_log2_self⟩
theorem bits_half {x : Nat} (h : 0 < x) : PySem.Builtin.Int.intBits (x : Int) = PySem.Builtin.Int.intBits ((x / 2 : Nat) : Int) + 1 := by
  obtain ⟨e, h1, h2⟩ := bits_ex h
  rw [bits_unique h1 h2]
  cases e with
  | zero =>
    have : x = 1 := by
      simp at h1 h2
      omega
    rw [this]
    rfl
  | succ e =>
    rw [bits_unique (x := x / 2) (e := e)]
    · rw [Nat.pow_succ] at h1
      omega
    · rw [Nat.pow_succ] at h2
      omega
theorem bits_double {x m : Nat} (h : 0 < x) (hm : m ≤ 1) : PySem.Builtin.Int.intBits ((2 * x + m : Nat) : Int) = PySem.Builtin.Int.intBits (x : Int) + 1 := by
  rw [bits_half (x := 2 * x + m) (by omega), show (2 * x + m) / 2 = x by omega]
theorem shr_lt {x : Int} {a b : Nat} (h0 : 0 ≤ x) (h : x < 2 ^ (a + b)) : 0 ≤ x / 2 ^ b ∧ x / 2 ^ b < 2 ^ a := by
  have hb := pow_pos' b
  refine ⟨Int.ediv_nonneg h0 (by omega), ?_⟩
  rw [pow_add'] at h
  exact Int.ediv_lt_of_lt_mul hb h
end GM
namespace GM
/-! ### words: a sign, a scale of m bits, a tail of t bits -/
def bit (a : Int) (n : Nat) : Int := a / 2 ^ n % 2
def blr (a : Int) : Nat → List Int
  | 0 => []
  | n + 1 => bit a n :: blr a n
def wv : List Int → Int
  | [] => 0
  | d :: r => d * 2 ^ r.length + wv r
theorem blr_len (a : Int) : ∀ n, (blr a n).length = n
  | 0 => rfl
  | n + 1 => by
    show (blr a n).length + 1 = n + 1
    rw [blr_len a n]
theorem div_div (w : Int) (t m : Nat) : w / 2 ^ t / 2 ^ m = w / 2 ^ (t + m) := by
  rw [pow_add', Int.ediv_ediv_of_nonneg (Int.le_of_lt (pow_pos' t))]
theorem bit_div (w : Int) (t m : Nat) : bit (w / 2 ^ t) m = bit w (m + t) := by
  unfold bit
  rw [div_div, Nat.add_comm t m]
theorem blr_take (w : Int) (t : Nat) : ∀ m, (blr w (m + t)).take m = blr (w / 2 ^ t) m
  | 0 => rfl
  | m + 1 => by
    show (blr w ((m + 1) + t)).take (m + 1) = bit (w / 2 ^ t) m :: blr (w / 2 ^ t) m
    rw [show m + 1 + t = (m + t) + 1 by omega]
    show bit w (m + t) :: (blr w (m + t)).take m = _
    rw [blr_take w t m, bit_div]
theorem blr_drop (w : Int) (t : Nat) : ∀ m, (blr w (m + t)).drop m = blr w t
  | 0 => by rw [Nat.zero_add]; rfl
  | m + 1 => by
    rw [show m + 1 + t = (m + t) + 1 by omega]
    show (blr w (m + t)).drop m = _
    exact blr_drop w t m
theorem mod_step (a : Int) (n : Nat) : bit a n * 2 ^ n + a % 2 ^ n = a % 2 ^ (n + 1) := by
  unfold bit
  have hp := pow_pos' n
  have e1 := Int.emod_add_mul_ediv a (2 ^ n)
  have e2 := Int.emod_add_mul_ediv (a / 2 ^ n) 2
  have h1 := Int.emod_nonneg a (show (2 : Int) ^ n ≠ 0 by omega)
  have h2 := Int.emod_lt_of_pos a hp
  have e3 : 2 ^ n * (a / 2 ^ n) = a / 2 ^ n % 2 * 2 ^ n + a / 2 ^ n / 2 * (2 ^ n * 2) := by
    conv => lhs; rw [← e2]
    rw [Int.mul_add, Int.mul_comm (2 ^ n) (a / 2 ^ n % 2), ← Int.mul_assoc, Int.mul_comm (2 ^ n * 2) _]
  have key : (a / 2 ^ n % 2 * 2 ^ n + a % 2 ^ n) + a / 2 ^ n / 2 * 2 ^ (n + 1) = a := by
    rw [pow_s]
    omega
  have hb : 0 ≤ a / 2 ^ n % 2 * 2 ^ n + a % 2 ^ n ∧ a / 2 ^ n % 2 * 2 ^ n + a % 2 ^ n < 2 ^ (n + 1) := by
    rw [pow_s]
    have : a / 2 ^ n % 2 = 0 ∨ a / 2 ^ n % 2 = 1 := by omega
    rcases this with z | z <;> rw [z] <;> omega
  have em := Int.add_mul_emod_self_right (a / 2 ^ n % 2 * 2 ^ n + a % 2 ^ n) (a / 2 ^ n / 2) (2 ^ (n + 1))
  rw [key, Int.emod_eq_of_lt hb.1 hb.2] at em
  exact em.symm
theorem wv_blr (a : Int) : ∀ n, wv (blr a n) = a % 2 ^ n
  | 0 => by
    show (0 : Int) = a % 1
    omega
  | n + 1 => by
    show bit a n * 2 ^ (blr a n).length + wv (blr a n) = _
    rw [blr_len, wv_blr a n, ← mod_step a n]
theorem fold2 : ∀ (ds : List Int) (w : Int), ds.foldl (fun a b => a * 2 + b) w = w * 2 ^ ds.length + wv ds
  | [], w => by
    show w = w * 2 ^ 0 + 0
    rw [Int.pow_zero]
    omega
  | d :: r, w => by
    show r.foldl (fun a b => a * 2 + b) (w * 2 + d) = w * 2 ^ (r.length + 1) + (d * 2 ^ r.length + wv r)
    rw [fold2 r, pow_s, Int.add_mul, Int.mul_assoc, Int.mul_comm 2 (2 ^ r.length)]
    omega
theorem wv_ones : ∀ k, wv (List.replicate k 1) = 2 ^ k - 1
  | 0 => rfl
  | k + 1 => by
    rw [List.replicate_succ]
    show 1 * 2 ^ (List.replicate k (1 : Int)).length + wv (List.replicate k 1) = _
    rw [List.length_replicate, wv_ones k, pow_s]
    omega
/-- sign, scale, tail of a word -/
def sgn (m t : Nat) (w : Int) : Int := w / 2 ^ (m + t) % 2
def scl (m t : Nat) (w : Int) : Int := w / 2 ^ t % 2 ^ m
def tlp (t : Nat) (w : Int) : Int := w % 2 ^ t
theorem scl_tlp (m t : Nat) (w : Int) : scl m t w * 2 ^ t + tlp t w = w % 2 ^ (m + t) := by
  induction m with
  | zero =>
    unfold scl tlp
    rw [Int.pow_zero, Int.emod_one, Int.zero_mul, Int.zero_add, Nat.zero_add]
  | succ m ih =>
    have e := mod_step (w / 2 ^ t) m
    have e2 := mod_step w (m + t)
    rw [bit_div] at e
    unfold scl at ih ⊢
    rw [← e, Int.add_mul, show m + 1 + t = (m + t) + 1 by omega, ← e2, ← ih, Int.mul_assoc, ← pow_add']
    omega
theorem sgn_01 {m t : Nat} {w : Int} : sgn m t w = 0 ∨ sgn m t w = 1 := by
  unfold sgn
  omega
theorem word_eq {m t : Nat} {w : Int} (h0 : 0 ≤ w) (h1 : w < 2 ^ (1 + m + t)) : sgn m t w * 2 ^ (m + t) + w % 2 ^ (m + t) = w := by
  have e := mod_step w (m + t)
  rw [show m + t + 1 = 1 + m + t by omega, Int.emod_eq_of_lt h0 h1] at e
  exact e
theorem scl_nn (m t : Nat) (w : Int) : 0 ≤ scl m t w ∧ scl m t w < 2 ^ m := ⟨Int.emod_nonneg _ (by have := pow_pos' m; omega), Int.emod_lt_of_pos _ (pow_pos' m)⟩
theorem tlp_nn (t : Nat) (w : Int) : 0 ≤ tlp t w ∧ tlp t w < 2 ^ t := ⟨Int.emod_nonneg _ (by have := pow_pos' t; omega), Int.emod_lt_of_pos _ (pow_pos' t)⟩
/-- with the other sign -/
def trn (m t : Nat) (w : Int) : Int := (1 - sgn m t w) * 2 ^ (m + t) + w % 2 ^ (m + t)
theorem mk_parts {m t : Nat} {s r : Int} (hs : s = 0 ∨ s = 1) (h0 : 0 ≤ r) (h1 : r < 2 ^ (m + t)) : 0 ≤ s * 2 ^ (m + t) + r ∧ s * 2 ^ (m + t) + r < 2 ^ (1 + m + t) ∧ sgn m t (s * 2 ^ (m + t) + r) = s ∧ (s * 2 ^ (m + t) + r) % 2 ^ (m + t) = r := by
  have hp := pow_pos' (m + t)
  have e : (2 : Int) ^ (1 + m + t) = 2 ^ (m + t) * 2 := by rw [← pow_s]; congr 1; omega
  have em : (s * 2 ^ (m + t) + r) % 2 ^ (m + t) = r := by
    rw [Int.add_comm, Int.add_mul_emod_self_right, Int.emod_eq_of_lt h0 h1]
  have ed : (s * 2 ^ (m + t) + r) / 2 ^ (m + t) = s := by
    rw [Int.add_comm, Int.add_mul_ediv_right _ _ (by omega), Int.ediv_eq_zero_of_lt h0 h1, Int.zero_add]
  refine ⟨?_, ?_, ?_, em⟩
  · rcases hs with z | z <;> subst z <;> omega
  · rw [e]
    rcases hs with z | z <;> subst z <;> omega
  · unfold sgn
    rw [ed]
    omega
theorem trn_trn {m t : Nat} {w : Int} (h0 : 0 ≤ w) (h1 : w < 2 ^ (1 + m + t)) : trn m t (trn m t w) = w ∧ 0 ≤ trn m t w ∧ trn m t w < 2 ^ (1 + m + t) := by
  have hp := pow_pos' (m + t)
  have hs : 1 - sgn m t w = 0 ∨ 1 - sgn m t w = 1 := by
    have := sgn_01 (m := m) (t := t) (w := w)
    omega
  obtain ⟨a, b, c, d⟩ := mk_parts (m := m) (t := t) hs (Int.emod_nonneg w (show (2 : Int) ^ (m + t) ≠ 0 by omega)) (Int.emod_lt_of_pos w hp)
  refine ⟨?_, a, b⟩
  show (1 - sgn m t (trn m t w)) * 2 ^ (m + t) + trn m t w % 2 ^ (m + t) = w
  rw [show sgn m t (trn m t w) = 1 - sgn m t w from c, show trn m t w % 2 ^ (m + t) = w % 2 ^ (m + t) from d, show 1 - (1 - sgn m t w) = sgn m t w by omega]
  exact word_eq h0 h1
end GM
namespace GR
open PySem
/-! ### the rounding, as a function -/
def bl (n : Int) : Int := (Builtin.Int.intBits n : Nat)
def cutQ (n b : Int) : Int := if b < 0 then n * 2 ^ (-b).toNat else n / 2 ^ b.toNat
def cutR (n b : Int) : Bool := if b < 0 then false else !decide (n / 2 ^ b.toNat * 2 ^ b.toNat = n)
def lea (sc tl : Nat) : Int := 1 - (2 ^ (sc - 1) - 1) - (tl : Int)
def lap (sc tl : Nat) (n p : Int) : Int := if lea sc tl > bl n + p - 1 - (tl : Int) then lea sc tl else bl n + p - 1 - (tl : Int)
def prQ (n b : Int) : Int := cutQ n (b - 1) / 2 ^ 1
def prR (n b : Int) (more : Bool) : Int := 2 * (cutQ n (b - 1) % 2 ^ 1) + (if cutR n (b - 1) || more then 1 else 0)
def away (way : Str) (s : Int) : Bool := if way = "cut" then false else decide (s = if way = "up" then 0 else 1)
def gup (way : Str) (s many rest : Int) : Bool := if way = "near" then decide (rest = 3) || (decide (rest = 2) && decide (many % 2 = 1)) else !decide (rest = 0) && away way s
def wrd (sc tl : Nat) (s m t : Int) : Int := s * 2 ^ (sc + tl) + (m * 2 ^ tl + t)
def bey (sc tl : Nat) (s : Int) (way : Str) : Int := if (decide (way = "near") || away way s) = true then wrd sc tl s (2 ^ sc - 1) 0 else wrd sc tl s (2 ^ sc - 1 - 1) (2 ^ tl - 1)
def flg (sc : Nat) (n p rest : Int) : List Str := if rest = 0 then [] else if bl n + p ≤ 1 - (2 ^ (sc - 1) - 1) then ["under", "rounded"] else ["rounded"]
def mny (sc tl : Nat) (s n p : Int) (way : Str) (more : Bool) : Int := if gup way s (prQ n (lap sc tl n p - p)) (prR n (lap sc tl n p - p) more) = true then prQ n (lap sc tl n p - p) + 1 else prQ n (lap sc tl n p - p)
def siz (sc tl : Nat) (s n p : Int) (way : Str) (more : Bool) : Int := (lap sc tl n p - lea sc tl) * 2 ^ tl + mny sc tl s n p way more
def rnd (sc tl : Nat) (s n p : Int) (way : Str) (more : Bool) : Int × List Str :=
  if n = 0 then (wrd sc tl s 0 0, [])
  else if siz sc tl s n p way more > wrd sc tl 0 (2 ^ sc - 1 - 1) (2 ^ tl - 1) then (bey sc tl s way, ["over", "rounded"])
  else (wrd sc tl s 0 0 + siz sc tl s n p way more, flg sc n p (prR n (lap sc tl n p - p) more))
theorem lap_ge (sc tl : Nat) (n p : Int) : lea sc tl ≤ lap sc tl n p := by
  unfold lap
  split <;> omega
end GR
namespace GM
/-! ### sizes and their worths -/
def topS (m t : Nat) : Int := (2 ^ m - 1) * 2 ^ t
def num (t : Nat) (s : Int) : Int := if s / 2 ^ t = 0 then s % 2 ^ t else 2 ^ t + s % 2 ^ t
def ex (t : Nat) (s : Int) : Nat := (s / 2 ^ t).toNat - 1
def numE (m t : Nat) (s : Int) : Int := if s = topS m t then 1 else num t s
def exE (m t : Nat) (s : Int) : Nat := if s = topS m t then 1998 + 2 ^ (m - 1) + t else ex t s
def Vv (m t : Nat) (s : Int) : Int := numE m t s * 2 ^ exE m t s
theorem sz_parts (t : Nat) (s : Int) : s / 2 ^ t * 2 ^ t + s % 2 ^ t = s := by
  have := Int.emod_add_mul_ediv s (2 ^ t)
  rw [Int.mul_comm] at this
  omega
theorem num_nn {t : Nat} {s : Int} (h : 0 ≤ s) : 0 ≤ num t s := by
  have hp := pow_pos' t
  have := Int.emod_nonneg s (show (2 : Int) ^ t ≠ 0 by omega)
  unfold num
  split <;> omega
/-- below 2 ^ t times 2 ^ h -/
theorem num_lt {t : Nat} {s : Int} (h0 : 0 ≤ s) : num t s * 2 ^ ex t s < 2 ^ t * 2 ^ (s / 2 ^ t).toNat := by
  have hp := pow_pos' t
  have hl := Int.emod_lt_of_pos s hp
  have hd := Int.ediv_nonneg h0 (Int.le_of_lt hp)
  unfold num ex
  split
  · rename_i e
    rw [e]
    show s % 2 ^ t * 2 ^ 0 < 2 ^ t * 2 ^ 0
    rw [Int.pow_zero]
    omega
  · rename_i e
    obtain ⟨k, hk⟩ : ∃ k : Nat, (s / 2 ^ t).toNat = k + 1 := ⟨(s / 2 ^ t).toNat - 1, by omega⟩
    rw [hk, Nat.add_sub_cancel, pow_s, ← Int.mul_assoc]
    have hk2 := pow_pos' k
    have : (2 ^ t + s % 2 ^ t) * 2 ^ k < (2 ^ t * 2) * 2 ^ k := Int.mul_lt_mul_of_pos_right (by omega) hk2
    rw [show (2 : Int) ^ t * 2 ^ k * 2 = 2 ^ t * 2 * 2 ^ k by rw [Int.mul_assoc, Int.mul_assoc, Int.mul_comm (2 ^ k) 2]]
    exact this
theorem num_ge {t : Nat} {s : Int} {k : Nat} (h : (s / 2 ^ t).toNat = k + 1) : 2 ^ t * 2 ^ k ≤ num t s * 2 ^ ex t s := by
  have hp := pow_pos' t
  have := Int.emod_nonneg s (show (2 : Int) ^ t ≠ 0 by omega)
  have hk2 := pow_pos' k
  unfold num ex
  rw [if_neg (by omega), h, Nat.add_sub_cancel]
  exact Int.mul_le_mul_of_nonneg_right (by omega) (by omega)
theorem num_mono {t : Nat} {a b : Int} (h0 : 0 ≤ a) (h : a < b) : num t a * 2 ^ ex t a < num t b * 2 ^ ex t b := by
  have hp := pow_pos' t
  have ea := sz_parts t a
  have eb := sz_parts t b
  have la := Int.emod_lt_of_pos a hp
  have na := Int.emod_nonneg a (show (2 : Int) ^ t ≠ 0 by omega)
  have nb := Int.emod_nonneg b (show (2 : Int) ^ t ≠ 0 by omega)
  have lb := Int.emod_lt_of_pos b hp
  have hle : a / 2 ^ t ≤ b / 2 ^ t := Int.ediv_le_ediv hp (by omega)
  have hd := Int.ediv_nonneg h0 (Int.le_of_lt hp)
  by_cases e : a / 2 ^ t = b / 2 ^ t
  · have hl : a % 2 ^ t < b % 2 ^ t := by
      rw [e] at ea
      omega
    have hx : ex t a = ex t b := by unfold ex; rw [e]
    rw [hx]
    refine Int.mul_lt_mul_of_pos_right ?_ (pow_pos' _)
    unfold num
    rw [e]
    split <;> omega
  · obtain ⟨k, hk⟩ : ∃ k : Nat, (b / 2 ^ t).toNat = k + 1 := ⟨(b / 2 ^ t).toNat - 1, by omega⟩
    have h1 := num_lt (t := t) h0
    have h2 := num_ge hk
    have h3 : (2 : Int) ^ t * 2 ^ (a / 2 ^ t).toNat ≤ 2 ^ t * 2 ^ k := Int.mul_le_mul_of_nonneg_left (pow_le' (by omega)) (by omega)
    omega
theorem Vv_mono {m t : Nat} (hm : m ≤ 8) {a b : Int} (h0 : 0 ≤ a) (h : a < b) (hb : b ≤ topS m t) : Vv m t a < Vv m t b := by
  unfold Vv numE exE
  rw [if_neg (by omega), if_neg (by omega)]
  by_cases e : b = topS m t
  · rw [if_pos e, if_pos e, Int.one_mul]
    have h1 := num_lt (t := t) h0
    have hp := pow_pos' t
    have hq : a / 2 ^ t < 2 ^ m := by
      refine Int.ediv_lt_of_lt_mul hp ?_
      have : topS m t ≤ 2 ^ m * 2 ^ t := Int.mul_le_mul_of_nonneg_right (by omega) (by omega)
      omega
    have h8 : (2 : Int) ^ m ≤ 2 ^ 8 := pow_le' hm
    rw [← pow_add'] at h1
    have h3 : (a / 2 ^ t).toNat ≤ 256 := by omega
    have h2 : (2 : Int) ^ (t + (a / 2 ^ t).toNat) ≤ 2 ^ (1998 + 2 ^ (m - 1) + t) := pow_le' (by
      generalize 2 ^ (m - 1) = zz
      omega)
    omega
  · rw [if_neg e, if_neg e]
    exact num_mono h0 h
theorem Vv_zero (m t : Nat) (h : 0 < topS m t) : Vv m t 0 = 0 := by
  unfold Vv numE num
  rw [if_neg (by omega), Int.zero_ediv, if_pos rfl, Int.zero_emod, Int.zero_mul]
/-- how two words stand to each other, by worths and by sizes -/
theorem cmp_eq {m t : Nat} (hm : m ≤ 8) {a b : Int} (a0 : 0 ≤ a) (a1 : a ≤ topS m t) (b0 : 0 ≤ b) (b1 : b ≤ topS m t) (hT : 0 < topS m t) (g h : Bool) :
    ((if g then 0 - numE m t a else numE m t a) * 2 ^ (exE m t a - min (exE m t a) (exE m t b)) = (if h then 0 - numE m t b else numE m t b) * 2 ^ (exE m t b - min (exE m t a) (exE m t b)) ↔ (if g then -a else a) = (if h then -b else b)) ∧
    ((if g then 0 - numE m t a else numE m t a) * 2 ^ (exE m t a - min (exE m t a) (exE m t b)) < (if h then 0 - numE m t b else numE m t b) * 2 ^ (exE m t b - min (exE m t a) (exE m t b)) ↔ (if g then -a else a) < (if h then -b else b)) := by
  have pm := pow_pos' (min (exE m t a) (exE m t b))
  have ea : (if g then 0 - numE m t a else numE m t a) * 2 ^ (exE m t a - min (exE m t a) (exE m t b)) * 2 ^ min (exE m t a) (exE m t b) = (if g then -Vv m t a else Vv m t a) := by
    rw [Int.mul_assoc, ← pow_add', show exE m t a - min (exE m t a) (exE m t b) + min (exE m t a) (exE m t b) = exE m t a by omega]
    unfold Vv
    cases g
    · rfl
    · show (0 - numE m t a) * 2 ^ exE m t a = -(numE m t a * 2 ^ exE m t a)
      rw [Int.zero_sub, Int.neg_mul]
  have eb : (if h then 0 - numE m t b else numE m t b) * 2 ^ (exE m t b - min (exE m t a) (exE m t b)) * 2 ^ min (exE m t a) (exE m t b) = (if h then -Vv m t b else Vv m t b) := by
    rw [Int.mul_assoc, ← pow_add', show exE m t b - min (exE m t a) (exE m t b) + min (exE m t a) (exE m t b) = exE m t b by omega]
    unfold Vv
    cases h
    · rfl
    · show (0 - numE m t b) * 2 ^ exE m t b = -(numE m t b * 2 ^ exE m t b)
      rw [Int.zero_sub, Int.neg_mul]
  generalize (if g then 0 - numE m t a else numE m t a) * 2 ^ (exE m t a - min (exE m t a) (exE m t b)) = x at *
  generalize (if h then 0 - numE m t b else numE m t b) * 2 ^ (exE m t b - min (exE m t a) (exE m t b)) = y at *
  have exy : (x = y ↔ (if g then -Vv m t a else Vv m t a) = (if h then -Vv m t b else Vv m t b)) ∧ (x < y ↔ (if g then -Vv m t a else Vv m t a) < (if h then -Vv m t b else Vv m t b)) := by
    rw [← ea, ← eb]
    generalize (2 : Int) ^ min (exE m t a) (exE m t b) = d at *
    refine ⟨⟨fun z => by rw [z], fun z => Int.eq_of_mul_eq_mul_right (by omega) z⟩, ⟨fun z => Int.mul_lt_mul_of_pos_right z pm, fun z => Int.lt_of_mul_lt_mul_right z (by omega)⟩⟩
  rw [exy.1, exy.2]
  have z := Vv_zero m t hT
  have pa : a = 0 ∨ 0 < Vv m t a := by
    rcases Int.lt_or_eq_of_le a0 with q | q
    · have := Vv_mono hm (Int.le_refl 0) q a1
      omega
    · exact .inl q.symm
  have pb : b = 0 ∨ 0 < Vv m t b := by
    rcases Int.lt_or_eq_of_le b0 with q | q
    · have := Vv_mono hm (Int.le_refl 0) q b1
      omega
    · exact .inl q.symm
  have za : a = 0 → Vv m t a = 0 := fun q => by rw [q]; exact z
  have zb : b = 0 → Vv m t b = 0 := fun q => by rw [q]; exact z
  have lt1 : a < b → Vv m t a < Vv m t b := fun q => Vv_mono hm a0 q b1
  have lt2 : b < a → Vv m t b < Vv m t a := fun q => Vv_mono hm b0 q a1
  have eqq : a = b → Vv m t a = Vv m t b := fun q => by rw [q]
  generalize Vv m t a = u at *
  generalize Vv m t b = v at *
  have tri : a < b ∨ a = b ∨ b < a := by omega
  cases g <;> cases h <;> simp only [if_true, if_false, Bool.false_eq_true] <;>
    (rcases tri with q | q | q
     · have := lt1 q; rcases pa with w | w <;> rcases pb with w2 | w2 <;> (try have := za w) <;> (try have := zb w2) <;> constructor <;> omega
     · have := eqq q; rcases pa with w | w <;> rcases pb with w2 | w2 <;> (try have := za w) <;> (try have := zb w2) <;> constructor <;> omega
     · have := lt2 q; rcases pa with w | w <;> rcases pb with w2 | w2 <;> (try have := za w) <;> (try have := zb w2) <;> constructor <;> omega)
end GM
namespace GM
theorem div_s (x : Int) (k : Nat) : x / 2 ^ (k + 1) = x / 2 ^ k / 2 := by
  rw [pow_s, Int.ediv_ediv_of_nonneg (Int.le_of_lt (pow_pos' k))]
end GM
namespace GR
open PySem GM
/-! ### where a worth stands between two words -/
def cmpM (N Mo V : Int) (more : Bool) : Int := if N = V then (if more then 1 else 0) else if N > V then 1 else if N + (if more then 1 else 0) * Mo ≤ V then -1 else 1
theorem cmp_scale {c N Mo V : Int} {more : Bool} (h : 0 < c) : cmpM (N * c) (Mo * c) (V * c) more = cmpM N Mo V more := by
  unfold cmpM
  have e1 : N * c = V * c ↔ N = V := ⟨fun z => Int.eq_of_mul_eq_mul_right (by omega) z, fun z => by rw [z]⟩
  have e2 : N * c > V * c ↔ N > V := ⟨fun z => Int.lt_of_mul_lt_mul_right z (by omega), fun z => Int.mul_lt_mul_of_pos_right z h⟩
  have e3 : N * c + (if more then 1 else 0) * (Mo * c) ≤ V * c ↔ N + (if more then 1 else 0) * Mo ≤ V := by
    rw [← Int.mul_assoc, ← Int.add_mul]
    exact ⟨fun z => Int.le_of_mul_le_mul_right z h, fun z => Int.mul_le_mul_of_nonneg_right z (by omega)⟩
  by_cases c1 : N = V
  · rw [if_pos c1, if_pos (e1.mpr c1)]
  · rw [if_neg c1, if_neg (fun z => c1 (e1.mp z))]
    by_cases c2 : N > V
    · rw [if_pos c2, if_pos (e2.mpr c2)]
    · rw [if_neg c2, if_neg (fun z => c2 (e2.mp z))]
      by_cases c3 : N + (if more then 1 else 0) * Mo ≤ V
      · rw [if_pos c3, if_pos (e3.mpr c3)]
      · rw [if_neg c3, if_neg (fun z => c3 (e3.mp z))]
theorem cmp_ge {N Mo V : Int} {more : Bool} (h : V ≤ N) : 0 ≤ cmpM N Mo V more := by
  unfold cmpM
  split
  · split <;> decide
  · rw [if_pos (by omega)]
    decide
theorem cmp_lt {N Mo V : Int} {more : Bool} (h : N < V) (hm : more = true → N + Mo ≤ V) : cmpM N Mo V more = -1 := by
  unfold cmpM
  rw [if_neg (by omega), if_neg (by omega), if_pos ?_]
  cases more with
  | true =>
    have := hm rfl
    rw [if_pos rfl]
    omega
  | false =>
    rw [if_neg (by decide)]
    omega
/-! ### cutting off, on one scale -/
theorem cut_scale {n : Int} {a D : Nat} {b : Int} (hb : (D : Int) = a + b) : cutQ n b = n * 2 ^ a / 2 ^ D ∧ cutR n b = !decide (n * 2 ^ a % 2 ^ D = 0) := by
  have hD := pow_pos' D
  have ha := pow_pos' a
  unfold cutQ cutR
  by_cases c : b < 0
  · rw [if_pos c, if_pos c]
    have e : (2 : Int) ^ a = 2 ^ (-b).toNat * 2 ^ D := by rw [← pow_add']; congr 1; omega
    rw [e, ← Int.mul_assoc]
    refine ⟨(Int.mul_ediv_cancel _ (by omega)).symm, ?_⟩
    rw [Int.mul_emod_left, decide_eq_true rfl]
    rfl
  · rw [if_neg c, if_neg c]
    have e : (2 : Int) ^ D = 2 ^ b.toNat * 2 ^ a := by rw [← pow_add']; congr 1; omega
    have hp := pow_pos' b.toNat
    rw [e, Int.mul_ediv_mul_of_pos_left _ _ ha]
    refine ⟨rfl, ?_⟩
    rw [show n * 2 ^ a % (2 ^ b.toNat * 2 ^ a) = n % 2 ^ b.toNat * 2 ^ a by rw [Int.mul_comm n, Int.mul_comm (2 ^ b.toNat), Int.mul_emod_mul_of_pos _ _ ha, Int.mul_comm]]
    have e2 := Int.emod_add_mul_ediv n (2 ^ b.toNat)
    rw [Int.mul_comm] at e2
    by_cases d : n % 2 ^ b.toNat = 0
    · rw [d, Int.zero_mul, decide_eq_true rfl, decide_eq_true (by omega)]
    · have d2 : ¬ n % 2 ^ b.toNat * 2 ^ a = 0 := fun z => by
        rcases Int.mul_eq_zero.mp z with y | y
        · exact d y
        · omega
      rw [decide_eq_false d2, decide_eq_false (by omega)]
/-! ### the worth of a size -/
def W (t : Nat) (u : Int) : Int := num t u * 2 ^ ex t u
theorem W_at {t : Nat} {d : Nat} {m : Int} (h0 : 0 ≤ m) (h1 : m ≤ 2 ^ t * 2) (h2 : d = 0 ∨ 2 ^ t ≤ m) : W t (d * 2 ^ t + m) = m * 2 ^ d := by
  have hp := pow_pos' t
  unfold W
  by_cases c : m < 2 ^ t
  · have hd : d = 0 := by omega
    subst hd
    have e : ((0 : Nat) : Int) * 2 ^ t + m = m := by omega
    rw [e]
    unfold num ex
    rw [Int.ediv_eq_zero_of_lt h0 c, if_pos rfl, Int.emod_eq_of_lt h0 c]
    rfl
  · by_cases c2 : m < 2 ^ t * 2
    · have ed : ((d : Int) * 2 ^ t + m) / 2 ^ t = (d : Int) + 1 := by
        rw [show (d : Int) * 2 ^ t + m = (m - 2 ^ t) + ((d : Int) + 1) * 2 ^ t by rw [Int.add_mul]; omega, Int.add_mul_ediv_right _ _ (by omega), Int.ediv_eq_zero_of_lt (by omega) (by omega)]
        omega
      have em : ((d : Int) * 2 ^ t + m) % 2 ^ t = m - 2 ^ t := by
        rw [show (d : Int) * 2 ^ t + m = (m - 2 ^ t) + ((d : Int) + 1) * 2 ^ t by rw [Int.add_mul]; omega, Int.add_mul_emod_self_right, Int.emod_eq_of_lt (by omega) (by omega)]
      unfold num ex
      rw [ed, em, if_neg (by omega), show ((d : Int) + 1).toNat - 1 = d by omega, show 2 ^ t + (m - 2 ^ t) = m by omega]
    · have hm : m = 2 ^ t * 2 := by omega
      have ed : ((d : Int) * 2 ^ t + m) / 2 ^ t = (d : Int) + 2 := by
        rw [show (d : Int) * 2 ^ t + m = 0 + ((d : Int) + 2) * 2 ^ t by rw [Int.add_mul]; omega, Int.add_mul_ediv_right _ _ (by omega), Int.zero_ediv]
        omega
      have em : ((d : Int) * 2 ^ t + m) % 2 ^ t = 0 := by
        rw [show (d : Int) * 2 ^ t + m = 0 + ((d : Int) + 2) * 2 ^ t by rw [Int.add_mul]; omega, Int.add_mul_emod_self_right, Int.zero_emod]
      unfold num ex
      rw [ed, em, if_neg (by omega), show ((d : Int) + 2).toNat - 1 = d + 1 by omega, hm, pow_s, Int.add_zero, Int.mul_assoc, Int.mul_comm 2 (2 ^ d)]
theorem W_mono {t : Nat} {a b : Int} (h0 : 0 ≤ a) (h : a < b) : W t a < W t b := num_mono h0 h
theorem W_le {t : Nat} {a b : Int} (h0 : 0 ≤ a) (h : a ≤ b) : W t a ≤ W t b := by
  rcases Int.lt_or_eq_of_le h with c | c
  · exact Int.le_of_lt (W_mono h0 c)
  · rw [c]
    exact Int.le_refl _
theorem bl_in {n : Int} (h : 0 < n) : ∃ k : Nat, bl n = (k : Int) + 1 ∧ 2 ^ k ≤ n ∧ n < 2 ^ (k + 1) := by
  obtain ⟨e, h1, h2⟩ := bits_ex (x := n.toNat) (by omega)
  have hb := bits_unique h1 h2
  have c1 : ((2 ^ e : Nat) : Int) = (2 : Int) ^ e := PySem.W.kbt_cast _
  have c2 : ((2 ^ (e + 1) : Nat) : Int) = (2 : Int) ^ (e + 1) := PySem.W.kbt_cast _
  rw [show ((n.toNat : Nat) : Int) = n by omega] at hb
  refine ⟨e, ?_, by omega, by omega⟩
  unfold bl
  rw [hb]
  omega
/-- what the search meets, and what the rounding reckons -/
structure Fl (sc tl : Nat) (n p : Int) (more : Bool) (N Mo bq low0 : Int) : Prop where
  lo0 : 0 ≤ low0
  le : ∀ u, 0 ≤ u → u ≤ low0 → 0 ≤ cmpM N Mo (W tl u * bq) more
  gt : ∀ u, low0 < u → cmpM N Mo (W tl u * bq) more = -1
  just : cmpM N Mo (W tl low0 * bq) more = 0 ↔ prR n (lap sc tl n p - p) more = 0
  half : cmpM (N * 2) (Mo * 2) (W tl low0 * bq + W tl (low0 + 1) * bq) more = (if prR n (lap sc tl n p - p) more = 3 then 1 else if prR n (lap sc tl n p - p) more = 2 then 0 else -1)
  rest : 0 ≤ prR n (lap sc tl n p - p) more ∧ prR n (lap sc tl n p - p) more ≤ 3
  odd : low0 % 2 = prQ n (lap sc tl n p - p) % 2
  und : cmpM N Mo (W tl (2 ^ tl) * bq) more < 0 ↔ bl n + p ≤ 1 - (2 ^ (sc - 1) - 1)
theorem floor_facts {sc tl : Nat} {n p : Int} {more : Bool} (htl : 1 ≤ tl) (hn : 0 < n) (hm : more = true → p < lap sc tl n p) {a b : Nat} {B : Int} (ha : p - B = a) (hb : lea sc tl - B = (b : Int) + 1) :
    Fl sc tl n p more (n * 2 ^ a) (2 ^ a) (2 ^ (b + 1)) ((lap sc tl n p - lea sc tl) * 2 ^ tl + prQ n (lap sc tl n p - p)) := by
  obtain ⟨k, hk, hk1, hk2⟩ := bl_in hn
  have hge := lap_ge sc tl n p
  obtain ⟨d, hd⟩ : ∃ d : Nat, lap sc tl n p - lea sc tl = (d : Int) := ⟨(lap sc tl n p - lea sc tl).toNat, by omega⟩
  have hcase : (d = 0 ∧ bl n + p - 1 - tl ≤ lap sc tl n p) ∨ lap sc tl n p = bl n + p - 1 - tl := by
    unfold lap at hd ⊢
    split
    · rename_i c
      rw [if_pos c] at hd
      exact .inl ⟨by omega, by omega⟩
    · exact .inr rfl
  have hle : bl n + p - 1 - tl ≤ lap sc tl n p := by omega
  -- the scale
  obtain ⟨hQ, hR⟩ := cut_scale (n := n) (a := a) (D := d + b) (b := lap sc tl n p - p - 1) (by omega)
  have pD := pow_pos' (d + b)
  have pa := pow_pos' a
  have pt := pow_pos' tl
  have pD1 : (2 : Int) ^ (d + b + 1) = 2 ^ (d + b) * 2 := pow_s _
  have eq : prQ n (lap sc tl n p - p) = n * 2 ^ a / 2 ^ (d + b + 1) := by
    show cutQ n (lap sc tl n p - p - 1) / 2 ^ 1 = _
    rw [hQ, GM.div_div]
  have er : prR n (lap sc tl n p - p) more = 2 * (n * 2 ^ a / 2 ^ (d + b) % 2) + (if (!decide (n * 2 ^ a % 2 ^ (d + b) = 0)) || more then 1 else 0) := by
    show 2 * (cutQ n (lap sc tl n p - p - 1) % 2 ^ 1) + (if cutR n (lap sc tl n p - p - 1) || more then 1 else 0) = _
    rw [hQ, hR]
    rfl
  have hN0 : 0 < n * 2 ^ a := Int.mul_pos hn pa
  have moreD : more = true → ∃ f : Nat, (2 : Int) ^ (d + b) = 2 ^ f * 2 ^ a := fun z => by
    have := hm z
    refine ⟨d + b - a, ?_⟩
    rw [← pow_add']
    congr 1
    omega
  -- sizes of the number
  have hNlt : n * 2 ^ a < 2 ^ (k + 1 + a) := by
    rw [pow_add']
    exact Int.mul_lt_mul_of_pos_right hk2 pa
  have hNge : 2 ^ (k + a) ≤ n * 2 ^ a := by
    rw [pow_add']
    exact Int.mul_le_mul_of_nonneg_right hk1 (by omega)
  have hkd : k + 1 + a ≤ tl + 1 + (d + b + 1) := by omega
  have hm1 : n * 2 ^ a / 2 ^ (d + b + 1) < 2 ^ tl * 2 := by
    refine Int.ediv_lt_of_lt_mul (by omega) ?_
    rw [← pow_s, ← pow_add']
    exact Int.lt_of_lt_of_le hNlt (pow_le' hkd)
  have hm0 : 0 ≤ n * 2 ^ a / 2 ^ (d + b + 1) := Int.ediv_nonneg (by omega) (by omega)
  have hm2 : d = 0 ∨ 2 ^ tl ≤ n * 2 ^ a / 2 ^ (d + b + 1) := by
    rcases hcase with h | h
    · exact .inl h.1
    · right
      refine (Int.le_ediv_iff_mul_le (by omega)).mpr ?_
      rw [← pow_add']
      exact Int.le_trans (pow_le' (by omega)) hNge
  rw [eq, hd]
  have eN := Int.emod_add_mul_ediv (n * 2 ^ a) (2 ^ (d + b + 1))
  have r0 := Int.emod_nonneg (n * 2 ^ a) (show (2 : Int) ^ (d + b + 1) ≠ 0 by omega)
  have r1 := Int.emod_lt_of_pos (n * 2 ^ a) (show (0 : Int) < 2 ^ (d + b + 1) by omega)
  have fN := Int.emod_add_mul_ediv (n * 2 ^ a) (2 ^ (d + b))
  have s0 := Int.emod_nonneg (n * 2 ^ a) (show (2 : Int) ^ (d + b) ≠ 0 by omega)
  have s1 := Int.emod_lt_of_pos (n * 2 ^ a) pD
  have hh : n * 2 ^ a / 2 ^ (d + b + 1) = n * 2 ^ a / 2 ^ (d + b) / 2 := GM.div_s _ _
  have pt2 : (2 : Int) ^ tl = 2 ^ (tl - 1) * 2 := by rw [← pow_s]; congr 1; omega
  have bb : (2 : Int) ^ d * 2 ^ (b + 1) = 2 ^ (d + b) * 2 := by rw [← pow_add', show d + (b + 1) = d + b + 1 by omega, pow_s]
  have v0 : W tl ((d : Int) * 2 ^ tl + n * 2 ^ a / 2 ^ (d + b + 1)) * 2 ^ (b + 1) = n * 2 ^ a / 2 ^ (d + b + 1) * (2 ^ (d + b) * 2) := by
    rw [W_at hm0 (by omega) hm2, Int.mul_assoc, bb]
  have v1 : W tl ((d : Int) * 2 ^ tl + n * 2 ^ a / 2 ^ (d + b + 1) + 1) * 2 ^ (b + 1) = (n * 2 ^ a / 2 ^ (d + b + 1) + 1) * (2 ^ (d + b) * 2) := by
    rw [show (d : Int) * 2 ^ tl + n * 2 ^ a / 2 ^ (d + b + 1) + 1 = (d : Int) * 2 ^ tl + (n * 2 ^ a / 2 ^ (d + b + 1) + 1) by omega, W_at (by omega) (by omega) (by omega), Int.mul_assoc, bb]
  have lo0 : 0 ≤ (d : Int) * 2 ^ tl + n * 2 ^ a / 2 ^ (d + b + 1) := by
    have := Int.mul_nonneg (show (0 : Int) ≤ (d : Int) by omega) (Int.le_of_lt pt)
    omega
  have pb := pow_pos' (b + 1)
  rw [pD1] at eN r0 r1
  have vt : W tl (2 ^ tl) * 2 ^ (b + 1) = 2 ^ (tl + (b + 1)) := by
    have := W_at (t := tl) (d := 0) (m := 2 ^ tl) (by omega) (by omega) (.inl rfl)
    rw [show ((0 : Nat) : Int) * 2 ^ tl + 2 ^ tl = 2 ^ tl by omega, Int.pow_zero, Int.mul_one] at this
    rw [this, ← pow_add']
  have ho : ((d : Int) * 2 ^ tl + n * 2 ^ a / 2 ^ (d + b + 1)) % 2 = n * 2 ^ a / 2 ^ (d + b + 1) % 2 := by
    rw [pt2, ← Int.mul_assoc]
    generalize (d : Int) * 2 ^ (tl - 1) = z
    omega
  have lea1 : 1 - ((2 : Int) ^ (sc - 1) - 1) = lea sc tl + tl := by
    unfold lea
    omega
  -- multiples of what more stands for
  have stepM : more = true → ∀ X : Int, n * 2 ^ a < X * 2 ^ (d + b) → n * 2 ^ a + 2 ^ a ≤ X * 2 ^ (d + b) := fun z X hX => by
    obtain ⟨f, hf⟩ := moreD z
    rw [hf, ← Int.mul_assoc] at hX ⊢
    have h1 : n < X * 2 ^ f := Int.lt_of_mul_lt_mul_right hX (by omega)
    have h2 : (n + 1) * 2 ^ a ≤ X * 2 ^ f * 2 ^ a := Int.mul_le_mul_of_nonneg_right (by omega) (by omega)
    rw [Int.add_mul, Int.one_mul] at h2
    exact h2
  have X1 : more = true → n * 2 ^ a < 2 * (2 ^ (d + b) * (n * 2 ^ a / 2 ^ (d + b + 1))) + 2 ^ (d + b) → n * 2 ^ a + 2 ^ a ≤ 2 * (2 ^ (d + b) * (n * 2 ^ a / 2 ^ (d + b + 1))) + 2 ^ (d + b) := fun z => by
    have := stepM z (2 * (n * 2 ^ a / 2 ^ (d + b + 1)) + 1)
    rw [show (2 * (n * 2 ^ a / 2 ^ (d + b + 1)) + 1) * 2 ^ (d + b) = 2 * (2 ^ (d + b) * (n * 2 ^ a / 2 ^ (d + b + 1))) + 2 ^ (d + b) by rw [Int.add_mul, Int.one_mul, Int.mul_assoc, Int.mul_comm (2 ^ (d + b))]] at this
    exact this
  have X2 : more = true → n * 2 ^ a < 2 * (2 ^ (d + b) * (n * 2 ^ a / 2 ^ (d + b + 1))) + 2 * 2 ^ (d + b) → n * 2 ^ a + 2 ^ a ≤ 2 * (2 ^ (d + b) * (n * 2 ^ a / 2 ^ (d + b + 1))) + 2 * 2 ^ (d + b) := fun z => by
    have := stepM z (2 * (n * 2 ^ a / 2 ^ (d + b + 1)) + 2)
    rw [show (2 * (n * 2 ^ a / 2 ^ (d + b + 1)) + 2) * 2 ^ (d + b) = 2 * (2 ^ (d + b) * (n * 2 ^ a / 2 ^ (d + b + 1))) + 2 * 2 ^ (d + b) by rw [Int.add_mul, Int.mul_assoc, Int.mul_comm (2 ^ (d + b))]] at this
    exact this
  rw [show n * 2 ^ a / 2 ^ (d + b + 1) * (2 ^ (d + b) * 2) = 2 * (2 ^ (d + b) * (n * 2 ^ a / 2 ^ (d + b + 1))) by rw [← Int.mul_assoc, Int.mul_comm _ (2 ^ (d + b)), Int.mul_comm]] at v0
  rw [show (n * 2 ^ a / 2 ^ (d + b + 1) + 1) * (2 ^ (d + b) * 2) = 2 * (2 ^ (d + b) * (n * 2 ^ a / 2 ^ (d + b + 1))) + 2 * 2 ^ (d + b) by rw [Int.add_mul, ← Int.mul_assoc, Int.mul_comm _ (2 ^ (d + b)), Int.mul_comm _ 2]; omega] at v1
  have hb2 : n * 2 ^ a / 2 ^ (d + b) % 2 = 0 ∨ n * 2 ^ a / 2 ^ (d + b) % 2 = 1 := by omega
  have hNN : n * 2 ^ a = n * 2 ^ a % 2 ^ (d + b) + 2 * (2 ^ (d + b) * (n * 2 ^ a / 2 ^ (d + b + 1))) + n * 2 ^ a / 2 ^ (d + b) % 2 * 2 ^ (d + b) := by
    have e1 : n * 2 ^ a / 2 ^ (d + b) = 2 * (n * 2 ^ a / 2 ^ (d + b + 1)) + n * 2 ^ a / 2 ^ (d + b) % 2 := by omega
    have e2 : 2 ^ (d + b) * (n * 2 ^ a / 2 ^ (d + b)) = 2 * (2 ^ (d + b) * (n * 2 ^ a / 2 ^ (d + b + 1))) + n * 2 ^ a / 2 ^ (d + b) % 2 * 2 ^ (d + b) := by
      conv => lhs; rw [e1]
      rw [Int.mul_add, ← Int.mul_assoc, Int.mul_comm _ 2, Int.mul_assoc, Int.mul_comm (2 ^ (d + b)) (n * 2 ^ a / 2 ^ (d + b) % 2)]
    omega
  have hund : (n * 2 ^ a < 2 ^ (tl + (b + 1))) ↔ bl n + p ≤ 1 - (2 ^ (sc - 1) - 1) := by
    constructor
    · intro h
      have : (2 : Int) ^ (k + a) < 2 ^ (tl + (b + 1)) := by omega
      have : k + a < tl + (b + 1) := by
        rcases Nat.lt_or_ge (k + a) (tl + (b + 1)) with c | c
        · exact c
        · have := pow_le' c
          omega
      omega
    · intro h
      have : (2 : Int) ^ (k + 1 + a) ≤ 2 ^ (tl + (b + 1)) := pow_le' (by omega)
      omega
  clear eN r0 r1 fN hh stepM moreD hNlt hNge hkd hm1 hm2 hQ hR hk hk1 hk2 pt2 bb hcase
  have wle : ∀ u v : Int, 0 ≤ u → u ≤ v → W tl u * 2 ^ (b + 1) ≤ W tl v * 2 ^ (b + 1) := fun u v h1 h2 => Int.mul_le_mul_of_nonneg_right (W_le h1 h2) (by omega)
  generalize 2 ^ (d + b) * (n * 2 ^ a / 2 ^ (d + b + 1)) = z at *
  generalize n * 2 ^ a / 2 ^ (d + b) % 2 = hb' at *
  generalize n * 2 ^ a % 2 ^ (d + b) = rem at *
  generalize (d : Int) * 2 ^ tl + n * 2 ^ a / 2 ^ (d + b + 1) = lo at *
  generalize (2 : Int) ^ (d + b) = q at *
  generalize (2 : Int) ^ (b + 1) = bq at *
  generalize n * 2 ^ a = N at *
  generalize (2 : Int) ^ a = Mo at *
  have hgt : ∀ u, lo < u → cmpM N Mo (W tl u * bq) more = -1 := fun u hu => by
    have h1 := wle (lo + 1) u (by omega) (by omega)
    rw [v1] at h1
    have h2 : N < 2 * z + 2 * q := by rcases hb2 with c | c <;> rw [c] at hNN <;> omega
    exact cmp_lt (by omega) fun c => by
      have := X2 c h2
      omega
  refine ⟨lo0, fun u u0 u1 => cmp_ge ?_, hgt, ?_, ?_, ?_, by rw [eq]; exact ho, ?_⟩
  · have h1 := wle u lo u0 u1
    rw [v0] at h1
    rcases hb2 with c | c <;> rw [c] at hNN <;> omega
  · rw [v0, er]
    unfold cmpM
    rcases hb2 with c | c <;> rw [c] at hNN ⊢
    · by_cases c2 : rem = 0
      · rw [if_pos (by omega), c2]
        cases more <;> decide
      · rw [if_neg (by omega), if_pos (by omega), decide_eq_false c2]
        constructor
        · intro h; omega
        · intro h
          revert h
          cases more <;> decide
    · rw [if_neg (by omega), if_pos (by omega)]
      constructor
      · intro h; omega
      · intro h
        split at h <;> omega
  · rw [v0, v1, er]
    rcases hb2 with c | c <;> rw [c] at hNN ⊢
    · have h1 : cmpM (N * 2) (Mo * 2) (2 * z + (2 * z + 2 * q)) more = -1 := cmp_lt (by omega) fun c => by
        have := X1 c (by omega)
        omega
      rw [h1]
      split <;> rfl
    · unfold cmpM
      by_cases c2 : rem = 0
      · rw [if_pos (by omega), c2]
        cases more <;> decide
      · rw [if_neg (by omega), if_pos (by omega), decide_eq_false c2]
        rfl
  · rw [er]
    rcases hb2 with c | c <;> rw [c]
    · split <;> omega
    · split <;> omega
  · rw [vt, ← hund]
    constructor
    · intro h
      rcases Int.lt_or_le N (2 ^ (tl + (b + 1))) with c | c
      · exact c
      · have := cmp_ge (N := N) (Mo := Mo) (more := more) c
        omega
    · intro h
      have h1 : lo < 2 ^ tl := by
        rcases Int.lt_or_le lo (2 ^ tl) with c | c
        · exact c
        · have := wle (2 ^ tl) lo (by omega) c
          rw [vt, v0] at this
          rcases hb2 with c | c <;> rw [c] at hNN <;> omega
      have := hgt _ h1
      rw [vt] at this
      rw [this]
      decide
end GR
namespace GZ
open PySem PySem.Spec PyProof.Rows L2
def pkz {α : Type} : α → List α → Nat → α
  | a, _, 0 => a
  | a, _, 1 => a
  | a, [], _ => a
  | _, b :: xs, n + 2 => pkz b xs (n + 1)
theorem val0 (t : Tok) : Vals [V.int 0] [Value.int 0 t] := .cons ⟨_, rfl⟩ .nil
/-! ### keyword-only parameters -/
theorem kbn_of {K : PySem.W.Frag} {x qual : Str} {st : Stmt} {D : Addr} {an : Option Addr} {doc pm cdv ct : Value} {ps ks : List Str} {n : Nat} {ml : List (Str × Value)} {g : List Value → List Value → List Value} {gV : List V → List V → List V} (hml : ∀ q ∈ ml, PySem.W.nsIn K D q.1 = some (some q.2))
    (h : ∀ us ws : List Value, us.length = n → ws.length = ks.length → KwChain D ml (bindArgs (PySem.W.fnOf x qual (defArgs st) (defBody st) (defScope st) .none (.ref D) doc pm an cdv ct) ⟨us, ks.zip ws⟩) (ps.zip (g us ws)))
    (rel : ∀ {vs : List V} {us : List Value} {zs : List V} {ws : List Value}, vs.length = n → zs.length = ks.length → Vals vs us → Vals zs ws → Vals (gV vs zs) (g us ws)) :
    ∀ (s : Shared) (us ws : List Value), K.In s.heap → us.length = n → ws.length = ks.length → BindsTo s (PySem.W.fnOf x qual (defArgs st) (defBody st) (defScope st) .none (.ref D) doc pm an cdv ct) ⟨us, ks.zip ws⟩ (ps.zip (g us ws)) :=
  fun s us ws X l1 l2 => BindsTo.of_looks fun M => KwChain.looks X hml (h us ws l1 l2)
theorem bnd_of {K : PySem.W.Frag} {x qual : Str} {st : Stmt} {D : Addr} {an : Option Addr} {doc pm cdv ct : Value} {ps : List Str} {ml : List (Str × Value)} {ds : List Value} (hml : ∀ q ∈ ml, PySem.W.nsIn K D q.1 = some (some q.2))
    (h : ∀ us : List Value, us.length + ds.length = ps.length → KwChain D ml (bindArgs (PySem.W.fnOf x qual (defArgs st) (defBody st) (defScope st) .none (.ref D) doc pm an cdv ct) ⟨us, []⟩) (ps.zip (us ++ ds))) :
    Binds K (PySem.W.fnOf x qual (defArgs st) (defBody st) (defScope st) .none (.ref D) doc pm an cdv ct) ps ds := fun s us X hl => by
  rw [List.length_append] at hl
  exact BindsTo.of_looks fun M => KwChain.looks X hml (h us hl)
/-! ### a def whose defaults aren't asked for -/
structure FunA (K : PySem.W.Frag) (x qual : Str) (st : Stmt) (f : Addr) (fd : FuncData) : Prop where
  ex : ∃ (oc : Value) (od : Option Addr) (dV kV doc pm : Value) (an : Option Addr) (cdv ct : Value) (osl : Array (Option Value)),
    fd = PySem.W.fnOf x qual (defArgs st) (defBody st) (defScope st) dV kV doc pm an cdv ct ∧ K.lookup f = some ⟨oc, od, .func fd, osl⟩ ∧ PySem.W.codeIn K cdv qual = true
  kp : PySem.W.keepIn K (.ref f) = true
theorem FunA.ok {P : Program} {w : World} {K : PySem.W.Frag} {mg : Str → Option Value} {base : Heap} {x qual : Str} {st : Stmt} {f : Addr} {fd : FuncData} {N ps : List Str} {k : Nat} {sp : Sp} (F : FunA K x qual st f fd) (S : FnScope N ps (defScope st)) (len : ∀ vs H Q E, sp vs H Q E → vs.length = ps.length)
    (hbody : ∀ (cdv : Value) (A : Around) (outer : List Env) (s : Shared) (H : Hp) (vs : List V) (Q : VK) (E : XK), Room k (A.deeper (envOfC qual (defScope st) s.heap.objs.size f cdv)) → sp vs H Q E →
      ∃ t, PSs (cxOf CX0 P w K mg base N qual (defScope st) f cdv A outer s H E).nox (defBody st) t ∧ t { nx := fun _ H' => Q .non H', rt := Q } (start N vs) H) : FnOk P w K mg base CX0 (k + 1) f fd ps sp := by
  obtain ⟨oc, od, dV, kV, doc, pm, an, cdv, ct, osl, rfl, lk, hcd⟩ := F.ex
  refine fn_of lk hcd S len fun A outer s H vs Q E hr hsp => ?_
  obtain ⟨t, h, q⟩ := hbody cdv A outer s H vs Q E hr hsp
  exact ⟨t, h.nox, q⟩
theorem bindsA {K : PySem.W.Frag} {x qual : Str} {st : Stmt} {f T : Addr} {oc oT vT : Value} {od an dT : Option Addr} {osl sT : Array (Option Value)} {kV doc pm cdv ct : Value} {nT : Nat} {ps : List Str} (l : K.lookup f = some ⟨oc, od, .func (PySem.W.fnOf x qual (defArgs st) (defBody st) (defScope st) (.ref T) kV doc pm an cdv ct), osl⟩)
    (lT : K.lookup T = some ⟨oT, dT, .seq #[vT] nT, sT⟩)
    (h : ∀ (kV doc pm : Value) (an : Option Addr) (cdv ct : Value) (us : List Value), us.length = ps.length → ∃ k, bindArgs (PySem.W.fnOf x qual (defArgs st) (defBody st) (defScope st) (.ref T) kV doc pm an cdv ct) ⟨us, []⟩ = seqItems? (.ref T) >>= k ∧ k (some #[vT]) = pure (ps.zip us)) : Binds K (PySem.W.fnOf x qual (defArgs st) (defBody st) (defScope st) (.ref T) kV doc pm an cdv ct) ps [] := by
  intro s us X hl
  rw [List.append_nil] at hl ⊢
  obtain ⟨k, e1, e2⟩ := h kV doc pm an cdv ct us hl
  refine BindsTo.of_looks fun M => ?_
  rw [e1]
  exact looks_items X lT rfl (.of_pure e2)
theorem bindsAD {K : PySem.W.Frag} {x qual : Str} {st : Stmt} {f T : Addr} {oc oT vT : Value} {od an dT : Option Addr} {osl sT : Array (Option Value)} {kV doc pm cdv ct : Value} {nT : Nat} {ps : List Str} (l : K.lookup f = some ⟨oc, od, .func (PySem.W.fnOf x qual (defArgs st) (defBody st) (defScope st) (.ref T) kV doc pm an cdv ct), osl⟩)
    (lT : K.lookup T = some ⟨oT, dT, .seq #[vT] nT, sT⟩)
    (h : ∀ (kV doc pm : Value) (an : Option Addr) (cdv ct : Value) (us : List Value), us.length + 1 = ps.length → ∃ k, bindArgs (PySem.W.fnOf x qual (defArgs st) (defBody st) (defScope st) (.ref T) kV doc pm an cdv ct) ⟨us, []⟩ = seqItems? (.ref T) >>= k ∧ k (some #[vT]) = pure (ps.zip (us ++ [vT]))) : Binds K (PySem.W.fnOf x qual (defArgs st) (defBody st) (defScope st) (.ref T) kV doc pm an cdv ct) ps [vT] := by
  intro s us X hl
  rw [List.length_append] at hl
  obtain ⟨k, e1, e2⟩ := h kV doc pm an cdv ct us hl
  refine BindsTo.of_looks fun M => ?_
  rw [e1]
  exact looks_items X lT rfl (.of_pure e2)
theorem kbindsA {x1 : Str} {K : PySem.W.Frag} {x qual : Str} {st : Stmt} {f T : Addr} {oc oT vT : Value} {od an dT : Option Addr} {osl sT : Array (Option Value)} {kV doc pm cdv ct : Value} {nT : Nat} {ps : List Str} (l : K.lookup f = some ⟨oc, od, .func (PySem.W.fnOf x qual (defArgs st) (defBody st) (defScope st) (.ref T) kV doc pm an cdv ct), osl⟩)
    (lT : K.lookup T = some ⟨oT, dT, .seq #[vT] nT, sT⟩)
    (h : ∀ (kV doc pm : Value) (an : Option Addr) (cdv ct u w : Value), ∃ k, bindArgs (PySem.W.fnOf x qual (defArgs st) (defBody st) (defScope st) (.ref T) kV doc pm an cdv ct) ⟨[u], [(x1, w)]⟩ = seqItems? (.ref T) >>= k ∧ k (some #[vT]) = pure (ps.zip [u, w])) : KBn K (PySem.W.fnOf x qual (defArgs st) (defBody st) (defScope st) (.ref T) kV doc pm an cdv ct) ps 1 [x1] (fun us ws => us ++ ws) (fun us ws => us ++ ws) := by
  refine ⟨fun s us ws X l1 l2 => ?_, fun r1 r2 => r1.append r2⟩
  match us, ws, l1, l2 with
  | [u], [w], _, _ =>
    obtain ⟨k, e1, e2⟩ := h kV doc pm an cdv ct u w
    refine BindsTo.of_looks fun M => ?_
    show PySem.W.Looks M s.heap (bindArgs (PySem.W.fnOf x qual (defArgs st) (defBody st) (defScope st) (.ref T) kV doc pm an cdv ct) ⟨[u], [(x1, w)]⟩) (ps.zip [u, w])
    rw [e1]
    exact looks_items X lT rfl (.of_pure e2)
theorem funA_mk {K : PySem.W.Frag} {x qual : Str} {st : Stmt} {f : Addr} {oc : Value} {od an : Option Addr} {osl : Array (Option Value)} {dV kV doc pm cdv ct : Value} (l : K.lookup f = some ⟨oc, od, .func (PySem.W.fnOf x qual (defArgs st) (defBody st) (defScope st) dV kV doc pm an cdv ct), osl⟩)
    (c : PySem.W.codeIn K cdv qual = true) (k : PySem.W.keepIn K (.ref f) = true) : FunA K x qual st f (PySem.W.fnOf x qual (defArgs st) (defBody st) (defScope st) dV kV doc pm an cdv ct) := ⟨⟨oc, od, dV, kV, doc, pm, an, cdv, ct, osl, rfl, l, c⟩, k⟩
section
variable {P : Program} {w : World} {K : PySem.W.Frag} {mg : Str → Option Value} {base : Heap}
theorem cutG {Cd A : Int → Int → Hp → Prop} {B : Prop} (h1 : ∀ n p H, Cd n p H → A n p H) (h2 : (∀ n p H, Cd n p H → A n p H) → B) : B := h2 h1
theorem cutA {Cd A : Addr → Hp → Prop} {B : Prop} (h1 : ∀ a H, Cd a H → A a H) (h2 : (∀ a H, Cd a H → A a H) → B) : B := h2 h1
theorem cutH {H : Hp} {A : Hp → Prop} {B : Prop} (h1 : ∀ H', Same H H' → A H') (h2 : (∀ H', Same H H' → A H') → B) : B := h2 h1
theorem cutP {A B : Prop} (h1 : A) (h2 : A → B) : B := h2 h1
theorem gB {i : Nat} {v u : Bool} {σ : L2.St} {H : Hp} {D : L2.St → Hp → Prop} (e : v = u) (h : gName i (V.bl u) σ H D) : gName i (V.bl v) σ H D := e ▸ h
theorem gI {i : Nat} {v u : Int} {σ : L2.St} {H : Hp} {D : L2.St → Hp → Prop} (e : v = u) (h : gName i (V.int u) σ H D) : gName i (V.int v) σ H D := e ▸ h
theorem dvi (a b : Int) : decide (V.int a = V.int b) = decide (a = b) := by
  by_cases c : a = b
  · rw [decide_eq_true c, decide_eq_true (congrArg V.int c)]
  · rw [decide_eq_false c, decide_eq_false (fun z => c (V.int.inj z))]
theorem dvs (a b : Str) : decide (V.str a = V.str b) = decide (a = b) := by
  by_cases c : a = b
  · rw [decide_eq_true c, decide_eq_true (congrArg V.str c)]
  · rw [decide_eq_false c, decide_eq_false (fun z => c (V.str.inj z))]
theorem bx1 {c : Int} {H : Hp} {b : Addr} (h : BoxAt (c + 2 ^ (1 - 1)) H b) : BoxAt (c + 1) H b := h
theorem Keep.none {b p : Addr} {H H' : Hp} (k : Keep b H H') (n : p ≠ b) (h : H' p = none) : H p = none := by
  cases q : H p with
  | none => rfl
  | some o =>
    rw [k p o q n] at h
    cases h
theorem dp_ints {H : Hp} : ∀ ds : List Int, DpAll K H (ds.map V.int) (ds.map PyData.int)
  | [] => .nil
  | d :: ds => .cons (.int d) (dp_ints ds)
theorem eqv_ints (ds : List Int) : PyData.eqv (.list (ds.map PyData.int)) (.list (ds.map PyData.int)) = true := PySem.SeqAt.eqv_refl _ (PySem.SeqAt.canLay_of_shaped (PySem.W.shaped_ints ds))
/-! ### a form -/
/-- at x stands a Form of these two -/
def FAt (C : Addr) (H : Hp) (x : Addr) (sc tl : Nat) : Prop := ∃ dx, H x = some (.ins C dx [("scale", .int (sc : Int)), ("tail", .int (tl : Int))]) ∧ 2 ≤ sc ∧ sc ≤ 8 ∧ 1 ≤ tl ∧ tl ≤ 24
theorem FAt.keep {C : Addr} {b : Addr} {H H' : Hp} {x : Addr} {sc tl : Nat} (h : FAt C H x sc tl) (k : Keep b H H') (n : x ≠ b) : FAt C H' x sc tl := by
  obtain ⟨dx, e, r⟩ := h
  exact ⟨dx, k _ _ e n, r⟩
theorem FAt.same {C : Addr} {H H' : Hp} {x : Addr} {sc tl : Nat} (h : FAt C H x sc tl) (s : Same H H') : FAt C H' x sc tl := by
  obtain ⟨dx, e, r⟩ := h
  exact ⟨dx, s _ _ e, r⟩
structure FT (K : PySem.W.Frag) (mg : Str → Option Value) (C : Addr) : Prop where
  cl : Cls K C
  ns : NoAttr K C "scale"
  nt : NoAttr K C "tail"
  mgC : mg "Form" = some (.ref C)
theorem fl_s (a b : V) : List.lookup ("scale" : Str) ([("scale", a), ("tail", b)] : List (Str × V)) = some a := rfl
theorem fl_t (a b : V) : List.lookup ("tail" : Str) ([("scale", a), ("tail", b)] : List (Str × V)) = some b := rfl
/-- Form(scale, tail) makes one -/
theorem made {C : Addr} {H : Hp} {x dx : Addr} (nx : H x = none) (nd : H dx = none) (ne : dx ≠ x) {H' : Hp} (k : ∀ p o, (upd (upd H dx (.own x)) x (.ins C dx [])) p = some o → p ≠ x → H' p = some o) : Same H H' := fun p o e =>
  k p o (by rw [upd_ne (ne_of_none e nx), upd_ne (ne_of_none e nd)]; exact e) (ne_of_none e nx)
structure LL (K : PySem.W.Frag) (mg : Str → Option Value) (C : Addr) (za : Nat → Addr) (zl : Nat → FuncData) (t26 t27 t28 : Tok) : Prop where
  F_is_number : Fun K "is_number" "is_number" s_is_number (za 1) (zl 1)
  m_is_number : mg "is_number" = some (.ref (za 1))
  b_is_number : Binds K (zl 1) ["thing"] []
  F_is_number_in : Fun K "is_number_in" "is_number_in" s_is_number_in (za 2) (zl 2)
  m_is_number_in : mg "is_number_in" = some (.ref (za 2))
  b_is_number_in : Binds K (zl 2) ["least", "greatest", "thing"] []
  F_spelled : Fun K "spelled" "spelled" s_spelled (za 3) (zl 3)
  m_spelled : mg "spelled" = some (.ref (za 3))
  b_spelled : Binds K (zl 3) ["form", "word"] []
  F_bits_text : Fun K "bits_text" "bits_text" s_bits_text (za 4) (zl 4)
  m_bits_text : mg "bits_text" = some (.ref (za 4))
  b_bits_text : Binds K (zl 4) ["number", "many"] []
  F_word_in : Fun K "word_in" "word_in" s_word_in (za 5) (zl 5)
  m_word_in : mg "word_in" = some (.ref (za 5))
  b_word_in : Binds K (zl 5) ["form", "text"] []
  F_worth_text : Fun K "worth_text" "worth_text" s_worth_text (za 6) (zl 6)
  m_worth_text : mg "worth_text" = some (.ref (za 6))
  b_worth_text : Binds K (zl 6) ["form", "word"] []
  F_compared : Fun K "compared" "compared" s_compared (za 7) (zl 7)
  m_compared : mg "compared" = some (.ref (za 7))
  b_compared : Binds K (zl 7) ["form", "a", "b"] []
  F_rank_of : Fun K "rank_of" "rank_of" s_rank_of (za 8) (zl 8)
  m_rank_of : mg "rank_of" = some (.ref (za 8))
  b_rank_of : Binds K (zl 8) ["form", "word"] []
  F_size_of : Fun K "size_of" "size_of" s_size_of (za 9) (zl 9)
  m_size_of : mg "size_of" = some (.ref (za 9))
  b_size_of : Binds K (zl 9) ["form", "word"] []
  F__law_box : Fun K "_law_box" "_law_box" sBox (za 10) (zl 10)
  m__law_box : mg "_law_box" = some (.ref (za 10))
  b__law_box : Binds K (zl 10) ["_law_script", "_law_k"] []
  F__law_take : Fun K "_law_take" "_law_take" sTake (za 11) (zl 11)
  m__law_take : mg "_law_take" = some (.ref (za 11))
  b__law_take : Binds K (zl 11) ["_law_box_here", "_law_size"] []
  F__law_folded : Fun K "_law_folded" "_law_folded" sFolded (za 12) (zl 12)
  m__law_folded : mg "_law_folded" = some (.ref (za 12))
  b__law_folded : Binds K (zl 12) ["_law_script", "_law_size"] []
  F__law_sorts_right : Fun K "_law_sorts_right" "_law_sorts_right" s__law_sorts_right (za 13) (zl 13)
  m__law_sorts_right : mg "_law_sorts_right" = some (.ref (za 13))
  b__law_sorts_right : Binds K (zl 13) ["_law_form", "_law_words"] []
  F__law_rise_right : Fun K "_law_rise_right" "_law_rise_right" s__law_rise_right (za 14) (zl 14)
  m__law_rise_right : mg "_law_rise_right" = some (.ref (za 14))
  b__law_rise_right : Binds K (zl 14) ["_law_form"] []
  F__law_place : Fun K "_law_place" "_law_place" s__law_place (za 15) (zl 15)
  m__law_place : mg "_law_place" = some (.ref (za 15))
  b__law_place : Binds K (zl 15) ["_law_form", "_law_word"] []
  F__law_pairs_right : Fun K "_law_pairs_right" "_law_pairs_right" s__law_pairs_right (za 16) (zl 16)
  m__law_pairs_right : mg "_law_pairs_right" = some (.ref (za 16))
  b__law_pairs_right : Binds K (zl 16) ["_law_form", "_law_words"] []
  F__law_right : Fun K "_law_right" "_law_right" s__law_right (za 17) (zl 17)
  m__law_right : mg "_law_right" = some (.ref (za 17))
  b__law_right : Binds K (zl 17) ["_law_box_here"] []
  T : FT K mg C
  M : Mk K C (za 18)
  F_Form___init__ : Fun K "__init__" "Form.__init__" s_Form___init__ (za 18) (zl 18)
  b_Form___init__ : Binds K (zl 18) ["self", "scale", "tail"] []
  F_Form_width : Fun K "width" "Form.width" s_Form_width (za 19) (zl 19)
  b_Form_width : Binds K (zl 19) ["self"] []
  M_Form_width : Meth K C "width" (za 19)
  F_Form_bias : Fun K "bias" "Form.bias" s_Form_bias (za 20) (zl 20)
  b_Form_bias : Binds K (zl 20) ["self"] []
  M_Form_bias : Meth K C "bias" (za 20)
  F_Form_top : Fun K "top" "Form.top" s_Form_top (za 21) (zl 21)
  b_Form_top : Binds K (zl 21) ["self"] []
  M_Form_top : Meth K C "top" (za 21)
  F_Form_parts : Fun K "parts" "Form.parts" s_Form_parts (za 22) (zl 22)
  b_Form_parts : Binds K (zl 22) ["self", "word"] []
  M_Form_parts : Meth K C "parts" (za 22)
  F_Form_word_of : Fun K "word_of" "Form.word_of" s_Form_word_of (za 23) (zl 23)
  b_Form_word_of : Binds K (zl 23) ["self", "sign", "scale", "tail"] []
  M_Form_word_of : Meth K C "word_of" (za 23)
  F_Form_is_word : Fun K "is_word" "Form.is_word" s_Form_is_word (za 24) (zl 24)
  b_Form_is_word : Binds K (zl 24) ["self", "thing"] []
  M_Form_is_word : Meth K C "is_word" (za 24)
  F_Form_sort_of : Fun K "sort_of" "Form.sort_of" s_Form_sort_of (za 25) (zl 25)
  b_Form_sort_of : Binds K (zl 25) ["self", "word"] []
  M_Form_sort_of : Meth K C "sort_of" (za 25)
  F_Form_nought : FunA K "nought" "Form.nought" s_Form_nought (za 26) (zl 26)
  b_Form_nought : Binds K (zl 26) ["self", "sign"] []
  M_Form_nought : Meth K C "nought" (za 26)
  d_Form_nought : Binds K (zl 26) ["self", "sign"] [.int 0 t26]
  F_Form_endless : FunA K "endless" "Form.endless" s_Form_endless (za 27) (zl 27)
  b_Form_endless : Binds K (zl 27) ["self", "sign"] []
  M_Form_endless : Meth K C "endless" (za 27)
  d_Form_endless : Binds K (zl 27) ["self", "sign"] [.int 0 t27]
  F_Form_greatest : FunA K "greatest" "Form.greatest" s_Form_greatest (za 28) (zl 28)
  b_Form_greatest : Binds K (zl 28) ["self", "sign"] []
  M_Form_greatest : Meth K C "greatest" (za 28)
  d_Form_greatest : Binds K (zl 28) ["self", "sign"] [.int 0 t28]
  F_Form_turned : Fun K "turned" "Form.turned" s_Form_turned (za 29) (zl 29)
  b_Form_turned : Binds K (zl 29) ["self", "word"] []
  M_Form_turned : Meth K C "turned" (za 29)
  F_Form_worth : Fun K "worth" "Form.worth" s_Form_worth (za 30) (zl 30)
  b_Form_worth : Binds K (zl 30) ["self", "word"] []
  M_Form_worth : Meth K C "worth" (za 30)
  z_set : mg "set" = none
variable {C : Addr} {za : Nat → Addr} {zl : Nat → FuncData} {t26 t27 t28 : Tok}

/-! ### is_number, is_number_in -/
inductive Th (K : PySem.W.Frag) (H : Hp) : V → Prop
  | non : Th K H .non
  | bl (b : Bool) : Th K H (.bl b)
  | int (i : Int) : Th K H (.int i)
  | str (x : Str) : Th K H (.str x)
def isI : V → Bool
  | .int _ => true
  | _ => false
def numIn (a b : Int) : V → Bool
  | .int z => decide (a ≤ z) && decide (z ≤ b)
  | _ => false
def spNum (K : PySem.W.Frag) : Sp := fun vs H Q _ => ∃ x : V, vs = [x] ∧ Th K H x ∧ Q (.bl (isI x)) H
theorem ok_is_number (B : Bl mg) (L : LL K mg C za zl t26 t27 t28) : FnOk P w K mg base CX0 1 (za 1) (zl 1) ["thing"] (spNum K) := by
  refine L.F_is_number.ok sc_is_number (fun vs H Q E h => ?_) (fun cdv A outer s H vs Q E hr h => ?_)
  · obtain ⟨x, rfl, _⟩ := h
    rfl
  obtain ⟨x, rfl, hx, q⟩ := h
  refine ⟨_, (pss_one (ps_ret (pe_and (pe_callB call_isi (by rfl) B.isinstance boot_isinstance (pa_cons (pv 0) (pa_cons (pe_bltn (v := .ty "int") (by rfl) B.int PyProof.Rows.boot_int rfl) pa_nil))) (pe_one (pe_not (pe_callB call_isi (by rfl) B.isinstance boot_isinstance (pa_cons (pv 0) (pa_cons (pe_bltn (v := .ty "bool") (by rfl) B.bool PyProof.Rows.boot_bool rfl) pa_nil)))))))), ?_⟩
  cases hx with
  | non => exact ⟨_, rfl, _, _, _, _, _, rfl, .ty _, .base .non, kit_ty (by decide +kernel : kitB "NoneType" "int" = some false), _, rfl, iteF q⟩
  | bl b =>
    refine ⟨_, rfl, _, _, _, _, _, rfl, .ty _, .base (.bl _), kit_ty (by decide +kernel : kitB "bool" "int" = some true), _, rfl, iteT ?_⟩
    exact ⟨_, rfl, _, _, _, _, _, rfl, .ty _, .base (.bl _), kit_ty (by decide +kernel : kitB "bool" "bool" = some true), _, rfl, q⟩
  | int i =>
    refine ⟨_, rfl, _, _, _, _, _, rfl, .ty _, .base (.int _), kit_ty (by decide +kernel : kitB "int" "int" = some true), _, rfl, iteT ?_⟩
    exact ⟨_, rfl, _, _, _, _, _, rfl, .ty _, .base (.int _), kit_ty (by decide +kernel : kitB "int" "bool" = some false), _, rfl, q⟩
  | str z => exact ⟨_, rfl, _, _, _, _, _, rfl, .ty _, .base (.str _), kit_ty (by decide +kernel : kitB "str" "int" = some false), _, rfl, iteF q⟩
def spNumIn (K : PySem.W.Frag) : Sp := fun vs H Q _ => ∃ (a b : Int) (x : V), vs = [.int a, .int b, x] ∧ Th K H x ∧ Q (.bl (numIn a b x)) H
theorem ok_is_number_in (B : Bl mg) (L : LL K mg C za zl t26 t27 t28) : FnOk P w K mg base CX0 2 (za 2) (zl 2) ["least", "greatest", "thing"] (spNumIn K) := by
  have G_is_number : FnOk P w K mg base CX0 1 (za 1) (zl 1) ["thing"] (spNum K) := (ok_is_number B L).mono (by decide)
  refine L.F_is_number_in.ok sc_is_number_in (fun vs H Q E h => ?_) (fun cdv A outer s H vs Q E hr h => ?_)
  · obtain ⟨a, b, x, rfl, _⟩ := h
    rfl
  obtain ⟨a, b, x, rfl, hx, q⟩ := h
  refine ⟨_, (pss_one (ps_ret (pe_and (pe_call G_is_number hr (by rfl) L.m_is_number L.F_is_number.kp L.b_is_number .nil pass0 (pa_cons (pv 2) pa_nil)) (pe_one (pe_chain op_le op_le (pv 0) (pv 2) (pv 1)))))), ?_⟩
  refine ⟨_, rfl, _, rfl, hx, _, rfl, ?_⟩
  cases hx with
  | non => exact iteF q
  | bl b => exact iteF q
  | str z => exact iteF q
  | int z =>
    refine iteT ?_
    refine ⟨_, rfl, _, rfl, _, _, rfl, rfl, _, rfl, ite2 (fun c => ?_) (fun c => ?_)⟩
    · refine ⟨_, rfl, _, _, rfl, rfl, ?_⟩
      rw [show numIn a b (.int z) = decide (z ≤ b) by show (decide (a ≤ z) && decide (z ≤ b)) = _; rw [c]; rfl] at q
      exact q
    · rw [show numIn a b (.int z) = false by show (decide (a ≤ z) && decide (z ≤ b)) = _; rw [Bool.eq_false_iff.mpr c]; rfl] at q
      exact q
/-! ### Form(scale, tail) and its words -/
def spInit (C : Addr) : Sp := fun vs H Q _ => ∃ (x dx : Addr) (sc tl : Nat), vs = [.ref x, .int (sc : Int), .int (tl : Int)] ∧ H x = some (.ins C dx []) ∧ 2 ≤ sc ∧ sc ≤ 8 ∧ 1 ≤ tl ∧ tl ≤ 24 ∧
  ∀ H', FAt C H' x sc tl → (∀ p o, H p = some o → p ≠ x → H' p = some o) → Q .non H'
theorem numIn_t {a b z : Int} (h1 : a ≤ z) (h2 : z ≤ b) : numIn a b (.int z) = true := by
  show (decide (a ≤ z) && decide (z ≤ b)) = true
  rw [decide_eq_true h1, decide_eq_true h2]
  rfl
theorem ok_Form___init__ (B : Bl mg) (L : LL K mg C za zl t26 t27 t28) : FnOk P w K mg base CX0 3 (za 18) (zl 18) ["self", "scale", "tail"] (spInit C) := by
  have G_is_number_in : FnOk P w K mg base CX0 2 (za 2) (zl 2) ["least", "greatest", "thing"] (spNumIn K) := (ok_is_number_in B L).mono (by decide)
  refine L.F_Form___init__.ok sc_Form___init__ (fun vs H Q E h => ?_) (fun cdv A outer s H vs Q E hr h => ?_)
  · obtain ⟨x, dx, sc, tl, rfl, _⟩ := h
    rfl
  obtain ⟨x, dx, sc, tl, rfl, hx, h1, h2, h3, h4, q⟩ := h
  refine ⟨_, (pss_cons (ps_if (pt_not (pt_val (pe_call G_is_number_in hr (by rfl) L.m_is_number_in L.F_is_number_in.kp L.b_is_number_in .nil pass0 (pa_cons pe_int (pa_cons pe_int (pa_cons (pv 1) pa_nil)))))) (pss_one ps_never) pss_nil)
    (pss_cons (ps_if (pt_not (pt_val (pe_call G_is_number_in hr (by rfl) L.m_is_number_in L.F_is_number_in.kp L.b_is_number_in .nil pass0 (pa_cons pe_int (pa_cons pe_int (pa_cons (pv 2) pa_nil)))))) (pss_one ps_never) pss_nil)
    (pss_cons (ps_fld (pv 0) (pv 1) rfl)
    (pss_one (ps_fld (pv 0) (pv 2) rfl))))), ?_⟩
  refine ⟨_, rfl, _, _, _, rfl, .int _, ?_⟩
  rw [numIn_t (by omega) (by omega)]
  refine ⟨_, rfl, iteF ?_⟩
  refine ⟨_, rfl, _, _, _, rfl, .int _, ?_⟩
  rw [numIn_t (by omega) (by omega)]
  refine ⟨_, rfl, iteF ?_⟩
  refine ⟨_, rfl, _, rfl, x, C, dx, _, rfl, hx, L.T.cl, L.T.ns, (by decide), ?_⟩
  refine ⟨_, rfl, _, rfl, x, C, dx, _, rfl, upd_same, L.T.cl, L.T.nt, (by show 1 < 1000; decide), ?_⟩
  refine q _ ⟨dx, upd_same, h1, h2, h3, h4⟩ fun p o e n => ?_
  rw [upd_ne n, upd_ne n]
  exact e
def spBias (C : Addr) : Sp := fun vs H Q _ => ∃ (x : Addr) (sc tl : Nat), vs = [.ref x] ∧ FAt C H x sc tl ∧ Q (.int (2 ^ (sc - 1) - 1)) H
theorem ok_Form_bias (B : Bl mg) (L : LL K mg C za zl t26 t27 t28) : FnOk P w K mg base CX0 1 (za 20) (zl 20) ["self"] (spBias C) := by
  refine L.F_Form_bias.ok sc_Form_bias (fun vs H Q E h => ?_) (fun cdv A outer s H vs Q E hr h => ?_)
  · obtain ⟨x, sc, tl, rfl, _⟩ := h
    rfl
  obtain ⟨x, sc, tl, rfl, ⟨dx, hx, h1, h2, h3, h4⟩, q⟩ := h
  refine ⟨_, (pss_one (ps_ret (pe_op op_sub (pe_op op_oneShl pe_int (pe_op op_sub (pe_fld (pv 0) rfl) pe_int)) pe_int))), ?_⟩
  exact ⟨_, rfl, x, C, dx, _, _, rfl, hx, L.T.cl, L.T.ns, fl_s _ _, _, _, rfl, rfl, sc - 1, rfl, congrArg V.int (by omega), by omega, _, _, rfl, rfl, q⟩
def spTop (C : Addr) : Sp := fun vs H Q _ => ∃ (x : Addr) (sc tl : Nat), vs = [.ref x] ∧ FAt C H x sc tl ∧ Q (.int (2 ^ sc - 1)) H
theorem ok_Form_top (B : Bl mg) (L : LL K mg C za zl t26 t27 t28) : FnOk P w K mg base CX0 1 (za 21) (zl 21) ["self"] (spTop C) := by
  refine L.F_Form_top.ok sc_Form_top (fun vs H Q E h => ?_) (fun cdv A outer s H vs Q E hr h => ?_)
  · obtain ⟨x, sc, tl, rfl, _⟩ := h
    rfl
  obtain ⟨x, sc, tl, rfl, ⟨dx, hx, h1, h2, h3, h4⟩, q⟩ := h
  refine ⟨_, (pss_one (ps_ret (pe_op op_sub (pe_op op_oneShl pe_int (pe_fld (pv 0) rfl)) pe_int))), ?_⟩
  exact ⟨_, rfl, x, C, dx, _, _, rfl, hx, L.T.cl, L.T.ns, fl_s _ _, sc, rfl, rfl, by omega, _, _, rfl, rfl, q⟩
def spWordOf (C : Addr) : Sp := fun vs H Q _ => ∃ (x : Addr) (sc tl : Nat) (s m t : Int), vs = [.ref x, .int s, .int m, .int t] ∧ FAt C H x sc tl ∧ (s = 0 ∨ s = 1) ∧ 0 ≤ m ∧ m < 2 ^ sc ∧ 0 ≤ t ∧ t < 2 ^ tl ∧ Q (.int (s * 2 ^ (sc + tl) + (m * 2 ^ tl + t))) H
theorem ok_Form_word_of (B : Bl mg) (L : LL K mg C za zl t26 t27 t28) : FnOk P w K mg base CX0 1 (za 23) (zl 23) ["self", "sign", "scale", "tail"] (spWordOf C) := by
  refine L.F_Form_word_of.ok sc_Form_word_of (fun vs H Q E h => ?_) (fun cdv A outer s H vs Q E hr h => ?_)
  · obtain ⟨x, sc, tl, s, m, t, rfl, _⟩ := h
    rfl
  obtain ⟨x, sc, tl, s, m, t, rfl, ⟨dx, hx, h1, h2, h3, h4⟩, hs, m0, m1, t0, t1, q⟩ := h
  refine ⟨_, (pss_one (ps_ret (pe_op op_orL (pe_op op_orL (pe_op op_shlN (pv 1) (pe_op op_add (pe_fld (pv 0) rfl) (pe_fld (pv 0) rfl))) (pe_op op_shlN (pv 2) (pe_fld (pv 0) rfl))) (pv 3)))), ?_⟩
  have p8 : (2 : Int) ^ sc ≤ 2 ^ 8 := GM.pow_le' h2
  have hp := GM.pow_pos' tl
  have hms : m * 2 ^ tl < 2 ^ (sc + tl) := by
    rw [GM.pow_add']
    exact Int.mul_lt_mul_of_pos_right m1 hp
  refine ⟨_, rfl, _, rfl, x, C, dx, _, _, rfl, hx, L.T.cl, L.T.ns, fl_s _ _, _, rfl, x, C, dx, _, _, rfl, hx, L.T.cl, L.T.nt, fl_t _ _, _, _, rfl, rfl, _, sc + tl, rfl, rfl, shl_ok (n := 1) (by omega) (by omega), ?_⟩
  refine ⟨_, rfl, _, rfl, x, C, dx, _, _, rfl, hx, L.T.cl, L.T.nt, fl_t _ _, _, tl, rfl, rfl, shl_ok (n := 9) (by omega) (by omega), ?_⟩
  refine ⟨s, _, sc + tl, rfl, rfl, ⟨by omega, Int.mul_nonneg m0 (by omega), hms⟩, ?_⟩
  have e : s * 2 ^ (sc + tl) + m * 2 ^ tl = (s * 2 ^ sc + m) * 2 ^ tl := by
    rw [GM.pow_add', Int.add_mul, Int.mul_assoc]
  refine ⟨_, rfl, s * 2 ^ sc + m, t, tl, congrArg V.int e, rfl, ⟨?_, t0, t1⟩, ?_⟩
  · have := GM.pow_pos' sc
    rcases hs with z | z <;> subst z <;> omega
  rw [← e, Int.add_assoc]
  exact q
/-- a named word: its sign, scale and tail -/
def spNm (C : Addr) (m t : Nat → Nat → Int) : Sp := fun vs H Q _ => ∃ (x : Addr) (sc tl : Nat) (g : Int), vs = [.ref x, .int g] ∧ FAt C H x sc tl ∧ (g = 0 ∨ g = 1) ∧ Q (.int (g * 2 ^ (sc + tl) + (m sc tl * 2 ^ tl + t sc tl))) H
def mNo : Nat → Nat → Int := fun _ _ => 0
def mEn : Nat → Nat → Int := fun sc _ => 2 ^ sc - 1
def mGr : Nat → Nat → Int := fun sc _ => 2 ^ sc - 1 - 1
def tGr : Nat → Nat → Int := fun _ tl => 2 ^ tl - 1
theorem ok_Form_nought (B : Bl mg) (L : LL K mg C za zl t26 t27 t28) : FnOk P w K mg base CX0 2 (za 26) (zl 26) ["self", "sign"] (spNm C mNo mNo) := by
  have G_Form_word_of : FnOk P w K mg base CX0 1 (za 23) (zl 23) ["self", "sign", "scale", "tail"] (spWordOf C) := (ok_Form_word_of B L).mono (by decide)
  refine L.F_Form_nought.ok sc_Form_nought (fun vs H Q E h => ?_) (fun cdv A outer s H vs Q E hr h => ?_)
  · obtain ⟨x, sc, tl, v, rfl, _⟩ := h
    rfl
  obtain ⟨x, sc, tl, g, rfl, hF, hg, q⟩ := h
  obtain ⟨dx, hx, h1, h2, h3, h4⟩ := id hF
  have pS := GM.pow_pos' sc
  have pT := GM.pow_pos' tl
  refine ⟨_, (pss_one (ps_ret (pe_meth (pv 0) L.T.cl L.M_Form_word_of G_Form_word_of hr L.b_Form_word_of .nil pass0 (pa_cons (pv 1) (pa_cons pe_int (pa_cons pe_int pa_nil)))))), ?_⟩
  exact ⟨_, rfl, x, dx, _, rfl, hx, rfl, _, rfl, x, sc, tl, _, _, _, rfl, hF, hg, by decide, pS, by decide, pT, q⟩
theorem ok_Form_endless (B : Bl mg) (L : LL K mg C za zl t26 t27 t28) : FnOk P w K mg base CX0 2 (za 27) (zl 27) ["self", "sign"] (spNm C mEn mNo) := by
  have G_Form_word_of : FnOk P w K mg base CX0 1 (za 23) (zl 23) ["self", "sign", "scale", "tail"] (spWordOf C) := (ok_Form_word_of B L).mono (by decide)
  have G_Form_top : FnOk P w K mg base CX0 1 (za 21) (zl 21) ["self"] (spTop C) := (ok_Form_top B L).mono (by decide)
  refine L.F_Form_endless.ok sc_Form_endless (fun vs H Q E h => ?_) (fun cdv A outer s H vs Q E hr h => ?_)
  · obtain ⟨x, sc, tl, v, rfl, _⟩ := h
    rfl
  obtain ⟨x, sc, tl, g, rfl, hF, hg, q⟩ := h
  obtain ⟨dx, hx, h1, h2, h3, h4⟩ := id hF
  have pS := GM.pow_pos' sc
  have pT := GM.pow_pos' tl
  refine ⟨_, (pss_one (ps_ret (pe_meth (pv 0) L.T.cl L.M_Form_word_of G_Form_word_of hr L.b_Form_word_of .nil pass0 (pa_cons (pv 1) (pa_cons (pe_meth0 (pv 0) L.T.cl L.M_Form_top G_Form_top hr L.b_Form_top .nil pass0) (pa_cons pe_int pa_nil)))))), ?_⟩
  exact ⟨_, rfl, x, dx, _, rfl, hx, rfl, _, rfl, _, rfl, x, dx, _, rfl, hx, rfl, x, sc, tl, rfl, hF, x, sc, tl, _, _, _, rfl, hF, hg, by omega, by omega, by decide, pT, q⟩
theorem ok_Form_greatest (B : Bl mg) (L : LL K mg C za zl t26 t27 t28) : FnOk P w K mg base CX0 2 (za 28) (zl 28) ["self", "sign"] (spNm C mGr tGr) := by
  have G_Form_word_of : FnOk P w K mg base CX0 1 (za 23) (zl 23) ["self", "sign", "scale", "tail"] (spWordOf C) := (ok_Form_word_of B L).mono (by decide)
  have G_Form_top : FnOk P w K mg base CX0 1 (za 21) (zl 21) ["self"] (spTop C) := (ok_Form_top B L).mono (by decide)
  refine L.F_Form_greatest.ok sc_Form_greatest (fun vs H Q E h => ?_) (fun cdv A outer s H vs Q E hr h => ?_)
  · obtain ⟨x, sc, tl, v, rfl, _⟩ := h
    rfl
  obtain ⟨x, sc, tl, g, rfl, hF, hg, q⟩ := h
  obtain ⟨dx, hx, h1, h2, h3, h4⟩ := id hF
  have pS : (2 : Int) ^ 2 ≤ 2 ^ sc := GM.pow_le' h1
  have pT := GM.pow_pos' tl
  refine ⟨_, (pss_one (ps_ret (pe_meth (pv 0) L.T.cl L.M_Form_word_of G_Form_word_of hr L.b_Form_word_of .nil pass0 (pa_cons (pv 1) (pa_cons (pe_op op_sub (pe_meth0 (pv 0) L.T.cl L.M_Form_top G_Form_top hr L.b_Form_top .nil pass0) pe_int) (pa_cons (pe_op op_sub (pe_op op_oneShl pe_int (pe_fld (pv 0) rfl)) pe_int) pa_nil)))))), ?_⟩
  refine ⟨_, rfl, x, dx, _, rfl, hx, rfl, _, rfl, _, rfl, x, dx, _, rfl, hx, rfl, x, sc, tl, rfl, hF, _, _, rfl, rfl, ?_⟩
  exact ⟨_, rfl, x, C, dx, _, _, rfl, hx, L.T.cl, L.T.nt, fl_t _ _, tl, rfl, rfl, by omega, _, _, rfl, rfl, x, sc, tl, _, _, _, rfl, hF, hg, by omega, by omega, by omega, by omega, q⟩
end
section
variable {P : Program} {w : World} {K : PySem.W.Frag} {mg : Str → Option Value} {base : Heap}
variable {C : Addr} {za : Nat → Addr} {zl : Nat → FuncData} {t26 t27 t28 : Tok}
/-! ### parts, sorts and worths of words -/
def spParts (C : Addr) : Sp := fun vs H Q _ => ∃ (x : Addr) (sc tl : Nat) (v : Int), vs = [.ref x, .int v] ∧ FAt C H x sc tl ∧
  ∀ p, H p = none → Q (.ref p) (upd H p (.tup [.int (GM.sgn sc tl v), .int (GM.scl sc tl v), .int (GM.tlp tl v)]))
theorem ok_Form_parts (B : Bl mg) (L : LL K mg C za zl t26 t27 t28) : FnOk P w K mg base CX0 2 (za 22) (zl 22) ["self", "word"] (spParts C) := by
  have G_Form_top : FnOk P w K mg base CX0 1 (za 21) (zl 21) ["self"] (spTop C) := (ok_Form_top B L).mono (by decide)
  refine L.F_Form_parts.ok sc_Form_parts (fun vs H Q E h => ?_) (fun cdv A outer s H vs Q E hr h => ?_)
  · obtain ⟨x, sc, tl, v, rfl, _⟩ := h
    rfl
  obtain ⟨x, sc, tl, v, rfl, hF, q⟩ := h
  obtain ⟨dx, hx, h1, h2, h3, h4⟩ := id hF
  refine ⟨_, (pss_cons (ps_set (i := 2) sc_Form_parts.nd rfl (.inl rfl) (pe_op op_andM (pe_op op_shrN (pv 1) (pe_op op_add (pe_fld (pv 0) rfl) (pe_fld (pv 0) rfl))) pe_int))
    (pss_cons (ps_set (i := 3) sc_Form_parts.nd rfl (.inl rfl) (pe_op op_andM (pe_op op_shrN (pv 1) (pe_fld (pv 0) rfl)) (pe_meth0 (pv 0) L.T.cl L.M_Form_top G_Form_top hr L.b_Form_top .nil pass0)))
    (pss_cons (ps_set (i := 4) sc_Form_parts.nd rfl (.inl rfl) (pe_op op_andM (pv 1) (pe_op op_sub (pe_op op_oneShl pe_int (pe_fld (pv 0) rfl)) pe_int)))
    (pss_one (ps_ret (pe_tup (pa_cons (pv 2) (pa_cons (pv 3) (pa_cons (pv 4) pa_nil))))))))), ?_⟩
  refine ⟨_, rfl, _, rfl, x, C, dx, _, _, rfl, hx, L.T.cl, L.T.ns, fl_s _ _, _, rfl, x, C, dx, _, _, rfl, hx, L.T.cl, L.T.nt, fl_t _ _, _, _, rfl, rfl, _, sc + tl, rfl, rfl, _, 1, rfl, rfl, ?_⟩
  refine ⟨_, rfl, _, rfl, x, C, dx, _, _, rfl, hx, L.T.cl, L.T.nt, fl_t _ _, _, tl, rfl, rfl, _, rfl, x, dx, _, rfl, hx, rfl, x, sc, tl, rfl, hF, _, sc, rfl, rfl, ?_⟩
  refine ⟨_, rfl, _, rfl, x, C, dx, _, _, rfl, hx, L.T.cl, L.T.nt, fl_t _ _, tl, rfl, rfl, by omega, _, _, rfl, rfl, _, tl, rfl, rfl, ?_⟩
  refine ⟨_, rfl, _, rfl, _, rfl, (by show 3 ≤ sizeLine; decide), fun p np => ?_⟩
  exact q p np
def srt (m t : Nat) (s : Int) : Str := if GM.topS m t ≤ s then (if s = GM.topS m t then "endless" else "none") else if s = 0 then "nought" else if s / 2 ^ t = 0 then "small" else "plain"
theorem str_ne {a b : Str} (h : decide (a = b) = false) : a ≠ b := of_decide_eq_false h
theorem srt_none (m t : Nat) (s : Int) : srt m t s = "none" ↔ GM.topS m t < s := by
  unfold srt
  constructor
  · intro h
    by_cases c : GM.topS m t ≤ s
    · rw [if_pos c] at h
      by_cases e : s = GM.topS m t
      · rw [if_pos e] at h
        exact absurd h (by decide +kernel)
      · omega
    · rw [if_neg c] at h
      by_cases e : s = 0
      · rw [if_pos e] at h
        exact absurd h (by decide +kernel)
      · rw [if_neg e] at h
        by_cases e2 : s / 2 ^ t = 0
        · rw [if_pos e2] at h
          exact absurd h (by decide +kernel)
        · rw [if_neg e2] at h
          exact absurd h (by decide +kernel)
  · intro h
    rw [if_pos (by omega), if_neg (by omega)]
theorem srt_endless {m t : Nat} {s : Int} (h : ¬ GM.topS m t < s) : srt m t s = "endless" ↔ s = GM.topS m t := by
  unfold srt
  constructor
  · intro q
    by_cases c : GM.topS m t ≤ s
    · omega
    · rw [if_neg c] at q
      by_cases e : s = 0
      · rw [if_pos e] at q
        exact absurd q (by decide +kernel)
      · rw [if_neg e] at q
        by_cases e2 : s / 2 ^ t = 0
        · rw [if_pos e2] at q
          exact absurd q (by decide +kernel)
        · rw [if_neg e2] at q
          exact absurd q (by decide +kernel)
  · intro q
    rw [if_pos (by omega), if_pos q]
theorem srt_parts {m t : Nat} (hm : 1 ≤ m) {q r : Int} (q0 : 0 ≤ q) (q1 : q < 2 ^ m) (r0 : 0 ≤ r) (r1 : r < 2 ^ t) :
    srt m t (q * 2 ^ t + r) = if q = 0 then (if r = 0 then ("nought" : Str) else ("small" : Str)) else if q = 2 ^ m - 1 then (if r = 0 then ("endless" : Str) else ("none" : Str)) else ("plain" : Str) := by
  have hp := GM.pow_pos' t
  have hm2 : (2 : Int) ^ 1 ≤ 2 ^ m := GM.pow_le' hm
  have hd : (q * 2 ^ t + r) / 2 ^ t = q := by
    rw [Int.add_comm, Int.add_mul_ediv_right _ _ (by omega), Int.ediv_eq_zero_of_lt r0 r1, Int.zero_add]
  have hT : GM.topS m t = 2 ^ m * 2 ^ t - 2 ^ t := by
    unfold GM.topS
    rw [Int.sub_mul, Int.one_mul]
  have hqt : q = 2 ^ m - 1 ∨ (q + 1) * 2 ^ t ≤ (2 ^ m - 1) * 2 ^ t := by
    by_cases e : q = 2 ^ m - 1
    · exact .inl e
    · exact .inr (Int.mul_le_mul_of_nonneg_right (by omega) (by omega))
  unfold srt
  rw [hd]
  by_cases e : q = 2 ^ m - 1
  · have et : q * 2 ^ t = GM.topS m t := by rw [e]; rfl
    rw [if_pos (show GM.topS m t ≤ q * 2 ^ t + r by omega), if_neg (show ¬ q = 0 by omega), if_pos e]
    by_cases z : r = 0
    · rw [if_pos z, if_pos (by omega)]
    · rw [if_neg z, if_neg (by omega)]
  · have hlt : (q + 1) * 2 ^ t ≤ GM.topS m t := by
      rcases hqt with z | z
      · exact absurd z e
      · exact z
    rw [Int.add_mul, Int.one_mul] at hlt
    rw [if_neg (show ¬ GM.topS m t ≤ q * 2 ^ t + r by omega)]
    by_cases z : q = 0
    · rw [if_pos z, if_pos z]
      subst z
      rw [Int.zero_mul, Int.zero_add]
    · have : 1 * 2 ^ t ≤ q * 2 ^ t := Int.mul_le_mul_of_nonneg_right (by omega) (by omega)
      rw [if_neg (show ¬ q * 2 ^ t + r = 0 by omega), if_neg z, if_neg z, if_neg e]
def sz (m t : Nat) (v : Int) : Int := v % 2 ^ (m + t)
def spSort (C : Addr) : Sp := fun vs H Q _ => ∃ (x : Addr) (sc tl : Nat) (v : Int), vs = [.ref x, .int v] ∧ FAt C H x sc tl ∧ ∀ H', Same H H' → Q (.str (srt sc tl (sz sc tl v))) H'
theorem ok_Form_sort_of (B : Bl mg) (L : LL K mg C za zl t26 t27 t28) : FnOk P w K mg base CX0 3 (za 25) (zl 25) ["self", "word"] (spSort C) := by
  have G_Form_parts : FnOk P w K mg base CX0 2 (za 22) (zl 22) ["self", "word"] (spParts C) := (ok_Form_parts B L).mono (by decide)
  have G_Form_top : FnOk P w K mg base CX0 2 (za 21) (zl 21) ["self"] (spTop C) := (ok_Form_top B L).mono (by decide)
  refine L.F_Form_sort_of.ok sc_Form_sort_of (fun vs H Q E h => ?_) (fun cdv A outer s H vs Q E hr h => ?_)
  · obtain ⟨x, sc, tl, v, rfl, _⟩ := h
    rfl
  obtain ⟨x, sc, tl, v, rfl, hF, q⟩ := h
  obtain ⟨dx, hx, h1, h2, h3, h4⟩ := id hF
  refine ⟨_, (pss_cons (ps_asg (pe_meth (pv 0) L.T.cl L.M_Form_parts G_Form_parts hr L.b_Form_parts .nil pass0 (pa_cons (pv 1) pa_nil)) (pg_tup (by rfl) (pgs_cons (pg_name (i := 2) sc_Form_sort_of.nd rfl (.inl rfl)) (pgs_cons (pg_name (i := 3) sc_Form_sort_of.nd rfl (.inl rfl)) (pgs_cons (pg_name (i := 4) sc_Form_sort_of.nd rfl (.inl rfl)) pgs_nil)))))
    (pss_cons (ps_if (pt_cmpR op_eq (pv 3) pe_int (nomark _)) (pss_one (ps_ret (pe_ifExp (pt_cmpR op_eq (pv 4) pe_int (nomark _)) pe_str pe_str))) pss_nil)
    (pss_cons (ps_if (pt_cmpR op_eq (pv 3) (pe_meth0 (pv 0) L.T.cl L.M_Form_top G_Form_top hr L.b_Form_top .nil pass0) (nomark _)) (pss_one (ps_ret (pe_ifExp (pt_cmpR op_eq (pv 4) pe_int (nomark _)) pe_str pe_str))) pss_nil)
    (pss_one (ps_ret pe_str))))), ?_⟩
  refine ⟨_, rfl, x, dx, _, rfl, hx, rfl, _, rfl, x, sc, tl, v, rfl, hF, fun p np => ?_⟩
  have sp := same_upd (o := .tup [.int (GM.sgn sc tl v), .int (GM.scl sc tl v), .int (GM.tlp tl v)]) np
  refine ⟨p, _, rfl, .inl (.inl upd_same), rfl, _, _, rfl, _, _, rfl, _, _, rfl, rfl, ?_⟩
  have hs := GM.scl_nn sc tl v
  have ht := GM.tlp_nn tl v
  have q' := q _ sp
  rw [show sz sc tl v = GM.scl sc tl v * 2 ^ tl + GM.tlp tl v from (GM.scl_tlp sc tl v).symm, srt_parts (by omega) hs.1 hs.2 ht.1 ht.2] at q'
  refine ⟨_, rfl, rfl, _, rfl, ite2 (fun c => ?_) (fun c => ?_)⟩
  · have c1 : GM.scl sc tl v = 0 := V.int.inj (of_decide_eq_true c)
    rw [if_pos c1] at q'
    refine ⟨_, rfl, rfl, _, rfl, ite2 (fun d => ?_) (fun d => ?_)⟩
    · have d1 : GM.tlp tl v = 0 := V.int.inj (of_decide_eq_true d)
      rw [if_pos d1] at q'
      exact q'
    · have d1 : ¬ GM.tlp tl v = 0 := fun z => d (decide_eq_true (by rw [z]))
      rw [if_neg d1] at q'
      exact q'
  have c1 : ¬ GM.scl sc tl v = 0 := fun z => c (decide_eq_true (by rw [z]))
  rw [if_neg c1] at q'
  refine ⟨_, rfl, _, rfl, x, dx, _, rfl, sp _ _ hx, rfl, x, sc, tl, rfl, hF.same sp, rfl, _, rfl, ite2 (fun c2 => ?_) (fun c2 => ?_)⟩
  · have c3 : GM.scl sc tl v = 2 ^ sc - 1 := V.int.inj (of_decide_eq_true c2)
    rw [if_pos c3] at q'
    refine ⟨_, rfl, rfl, _, rfl, ite2 (fun d => ?_) (fun d => ?_)⟩
    · have d1 : GM.tlp tl v = 0 := V.int.inj (of_decide_eq_true d)
      rw [if_pos d1] at q'
      exact q'
    · have d1 : ¬ GM.tlp tl v = 0 := fun z => d (decide_eq_true (by rw [z]))
      rw [if_neg d1] at q'
      exact q'
  · have c3 : ¬ GM.scl sc tl v = 2 ^ sc - 1 := fun z => c2 (decide_eq_true (by rw [z]))
    rw [if_neg c3] at q'
    exact q'
theorem in_two (x a b : Str) : inV (.str x) [.str a, .str b] = decide (a = x ∨ b = x) := by
  show ((a == x) || ((b == x) || false)) = _
  rw [Bool.or_false, Bool.eq_iff_iff, Bool.or_eq_true, beq_iff_eq, beq_iff_eq, decide_eq_true_iff]
/-! ### sizes by their parts -/
theorem sz_div (m t : Nat) (v : Int) : sz m t v / 2 ^ t = GM.scl m t v := by
  have ht := GM.tlp_nn t v
  have hp := GM.pow_pos' t
  unfold sz
  rw [← GM.scl_tlp, Int.add_comm, Int.add_mul_ediv_right _ _ (by omega), Int.ediv_eq_zero_of_lt ht.1 ht.2, Int.zero_add]
theorem sz_mod (m t : Nat) (v : Int) : sz m t v % 2 ^ t = GM.tlp t v := by
  have ht := GM.tlp_nn t v
  unfold sz
  rw [← GM.scl_tlp, Int.add_comm, Int.add_mul_emod_self_right, Int.emod_eq_of_lt ht.1 ht.2]
theorem top_iff (m t : Nat) (v : Int) : GM.topS m t ≤ sz m t v ↔ GM.scl m t v = 2 ^ m - 1 := by
  have hs := GM.scl_nn m t v
  have ht := GM.tlp_nn t v
  have hp := GM.pow_pos' t
  have e : sz m t v = GM.scl m t v * 2 ^ t + GM.tlp t v := (GM.scl_tlp m t v).symm
  rw [e]
  unfold GM.topS
  constructor
  · intro h
    by_cases c : GM.scl m t v = 2 ^ m - 1
    · exact c
    · have : (GM.scl m t v + 1) * 2 ^ t ≤ (2 ^ m - 1) * 2 ^ t := Int.mul_le_mul_of_nonneg_right (by omega) (by omega)
      rw [Int.add_mul, Int.one_mul] at this
      omega
  · intro h
    rw [h]
    omega
theorem srt_top (m t : Nat) (s : Int) : (srt m t s = "endless" ∨ srt m t s = "none") ↔ GM.topS m t ≤ s := by
  constructor
  · intro h
    by_cases c : GM.topS m t < s
    · omega
    · rcases h with h | h
      · have := (srt_endless c).mp h
        omega
      · have := (srt_none m t s).mp h
        omega
  · intro h
    by_cases c : GM.topS m t < s
    · exact .inr ((srt_none m t s).mpr c)
    · exact .inl ((srt_endless c).mpr (by omega))
def P0 (sc tl : Nat) : Int := 1 - (2 ^ (sc - 1) - 1) - tl
def wn (sc tl : Nat) (v : Int) : Int := if GM.sgn sc tl v = 1 then -(GM.num tl (sz sc tl v)) else GM.num tl (sz sc tl v)
def wp (sc tl : Nat) (v : Int) : Int := P0 sc tl + (GM.ex tl (sz sc tl v) : Nat)
theorem if_ev {t : TT} {ta tb : TE} {σ : L2.St} {H : Hp} {Q : VK} (R : V → Hp → Prop) (h : ∀ Q : VK, (∀ z H', R z H' → Q z H') → tIf t ta tb σ H Q) (q : ∀ z H', R z H' → Q z H') : tIf t ta tb σ H Q := h Q q
def WorthQ (H : Hp) (Q : VK) (sc tl : Nat) (v : Int) : Prop := (∀ H', Same H H' → GM.topS sc tl ≤ sz sc tl v → Q .non H') ∧ ∀ H' p, Same H H' → ¬ GM.topS sc tl ≤ sz sc tl v → H' p = some (.tup [.int (wn sc tl v), .int (wp sc tl v)]) → Q (.ref p) H'
def spWorth (C : Addr) : Sp := fun vs H Q _ => ∃ (x : Addr) (sc tl : Nat) (v : Int), vs = [.ref x, .int v] ∧ FAt C H x sc tl ∧ WorthQ H Q sc tl v
theorem ok_Form_worth (B : Bl mg) (L : LL K mg C za zl t26 t27 t28) : FnOk P w K mg base CX0 3 (za 30) (zl 30) ["self", "word"] (spWorth C) := by
  have G_Form_parts : FnOk P w K mg base CX0 2 (za 22) (zl 22) ["self", "word"] (spParts C) := (ok_Form_parts B L).mono (by decide)
  have G_Form_top : FnOk P w K mg base CX0 2 (za 21) (zl 21) ["self"] (spTop C) := (ok_Form_top B L).mono (by decide)
  have G_Form_bias : FnOk P w K mg base CX0 2 (za 20) (zl 20) ["self"] (spBias C) := (ok_Form_bias B L).mono (by decide)
  refine L.F_Form_worth.ok sc_Form_worth (fun vs H Q E h => ?_) (fun cdv A outer s H vs Q E hr h => ?_)
  · obtain ⟨x, sc, tl, v, rfl, _⟩ := h
    rfl
  obtain ⟨x, sc, tl, v, rfl, hF, qn, qt⟩ := h
  obtain ⟨dx, hx, h1, h2, h3, h4⟩ := id hF
  refine ⟨_, (pss_cons (ps_asg (pe_meth (pv 0) L.T.cl L.M_Form_parts G_Form_parts hr L.b_Form_parts .nil pass0 (pa_cons (pv 1) pa_nil)) (pg_tup (by rfl) (pgs_cons (pg_name (i := 2) sc_Form_worth.nd rfl (.inl rfl)) (pgs_cons (pg_name (i := 3) sc_Form_worth.nd rfl (.inl rfl)) (pgs_cons (pg_name (i := 4) sc_Form_worth.nd rfl (.inl rfl)) pgs_nil)))))
    (pss_cons (ps_if (pt_cmpR op_eq (pv 3) (pe_meth0 (pv 0) L.T.cl L.M_Form_top G_Form_top hr L.b_Form_top .nil pass0) (nomark _)) (pss_one (ps_ret pe_non)) pss_nil)
    (pss_cons (ps_set (i := 5) sc_Form_worth.nd rfl (.inl rfl) (pe_ifExp (pt_cmpR op_eq (pv 3) pe_int (nomark _)) (pv 4) (pe_op op_add (pe_op op_oneShl pe_int (pe_fld (pv 0) rfl)) (pv 4))))
    (pss_cons (ps_set (i := 6) sc_Form_worth.nd rfl (.inl rfl) (pe_op op_sub (pe_op op_sub (pe_callB (call_max2 rfl) (by rfl) B.max boot_max (pa_cons (pv 3) (pa_cons pe_int pa_nil))) (pe_meth0 (pv 0) L.T.cl L.M_Form_bias G_Form_bias hr L.b_Form_bias .nil pass0)) (pe_fld (pv 0) rfl)))
    (pss_one (ps_ret (pe_tup (pa_cons (pe_ifExp (pt_cmpR op_eq (pv 2) pe_int (nomark _)) (pe_un un_neg (pv 5)) (pv 5)) (pa_cons (pv 6) pa_nil))))))))), ?_⟩
  refine ⟨_, rfl, x, dx, _, rfl, hx, rfl, _, rfl, x, sc, tl, v, rfl, hF, fun p np => ?_⟩
  have sp := same_upd (o := .tup [.int (GM.sgn sc tl v), .int (GM.scl sc tl v), .int (GM.tlp tl v)]) np
  refine ⟨p, _, rfl, .inl (.inl upd_same), rfl, _, _, rfl, _, _, rfl, _, _, rfl, rfl, ?_⟩
  have hs := GM.scl_nn sc tl v
  refine ⟨_, rfl, _, rfl, x, dx, _, rfl, sp _ _ hx, rfl, x, sc, tl, rfl, hF.same sp, rfl, _, rfl, ite2 (fun c => ?_) (fun c => ?_)⟩
  · have c1 : GM.scl sc tl v = 2 ^ sc - 1 := V.int.inj (of_decide_eq_true c)
    exact qn _ sp ((top_iff sc tl v).mpr c1)
  have c1 : ¬ GM.scl sc tl v = 2 ^ sc - 1 := fun z => c (decide_eq_true (by rw [z]))
  have c2 : ¬ GM.topS sc tl ≤ sz sc tl v := fun z => c1 ((top_iff sc tl v).mp z)
  try dsimp only [tNext, tSeq, tAsg]
  refine if_ev (fun z H' => z = .int (GM.num tl (sz sc tl v)) ∧ H' = upd H p (.tup [.int (GM.sgn sc tl v), .int (GM.scl sc tl v), .int (GM.tlp tl v)])) (fun Q' q' => ?_) ?_
  · refine ⟨_, rfl, rfl, _, rfl, ite2 (fun d => ?_) (fun d => ?_)⟩
    · have d1 : GM.scl sc tl v = 0 := V.int.inj (of_decide_eq_true d)
      refine ⟨_, rfl, q' _ _ ⟨congrArg V.int ?_, rfl⟩⟩
      unfold GM.num
      rw [sz_div, sz_mod, if_pos d1]
    · have d1 : ¬ GM.scl sc tl v = 0 := fun z => d (decide_eq_true (by rw [z]))
      refine ⟨_, rfl, x, C, dx, _, _, rfl, sp _ _ hx, L.T.cl, L.T.nt, fl_t _ _, tl, rfl, rfl, by omega, _, rfl, _, _, rfl, rfl, q' _ _ ⟨congrArg V.int ?_, rfl⟩⟩
      unfold GM.num
      rw [sz_div, sz_mod, if_neg d1]
  rintro z H' ⟨rfl, rfl⟩
  refine ⟨_, rfl, _, _, rfl, _, rfl, x, dx, _, rfl, sp _ _ hx, rfl, x, sc, tl, rfl, hF.same sp, _, _, rfl, rfl, _, rfl, x, C, dx, _, _, rfl, sp _ _ hx, L.T.cl, L.T.nt, fl_t _ _, _, _, rfl, rfl, ?_⟩
  have ep : (if (1 : Int) > GM.scl sc tl v then 1 else GM.scl sc tl v) - (2 ^ (sc - 1) - 1) - (tl : Int) = wp sc tl v := by
    unfold wp P0 GM.ex
    rw [sz_div]
    split <;> omega
  dsimp only
  rw [ep]
  try dsimp only [gName, tRet, tTup, tCons]
  refine if_ev (fun z H' => z = .int (wn sc tl v) ∧ H' = upd H p (.tup [.int (GM.sgn sc tl v), .int (GM.scl sc tl v), .int (GM.tlp tl v)])) (fun Q' q' => ?_) ?_
  · refine ⟨_, rfl, rfl, _, rfl, ite2 (fun d => ?_) (fun d => ?_)⟩
    · have d1 : GM.sgn sc tl v = 1 := V.int.inj (of_decide_eq_true d)
      refine ⟨_, rfl, _, rfl, q' _ _ ⟨congrArg V.int ?_, rfl⟩⟩
      unfold wn
      rw [if_pos d1]
    · have d1 : ¬ GM.sgn sc tl v = 1 := fun z => d (decide_eq_true (by rw [z]))
      refine ⟨_, rfl, q' _ _ ⟨congrArg V.int ?_, rfl⟩⟩
      unfold wn
      rw [if_neg d1]
  rintro z H' ⟨rfl, rfl⟩
  refine ⟨_, rfl, (by show 2 ≤ sizeLine; decide), fun t nt => ?_⟩
  exact qt _ t (sp.trans (same_upd nt)) c2 upd_same
end
theorem gset_if2 {i : Nat} {v : V} {σ : L2.St} {H : Hp} {c : TT} {t u r : TS} {D : Ends} (h : tIfS c t u { D with nx := r D } (σ.set i (some v)) H) : gName i v σ H ({ D with nx := tSeq (tIfS c t u) r D } : Ends).nx := h
theorem gset_if {σ : L2.St} {H : Hp} {c : TT} {t u r : TS} {D : Ends} (h : tIfS c t u { D with nx := r D } σ H) : tSeq (tIfS c t u) r D σ H := h
theorem ifS_cut {c : TT} {t u : TS} {D : Ends} {σ : L2.St} {H : Hp} (R : L2.St → Hp → Prop) (h : ∀ D' : Ends, (∀ σ' H', R σ' H' → D'.nx σ' H') → tIfS c t u D' σ H) (q : ∀ σ' H', R σ' H' → D.nx σ' H') : tIfS c t u D σ H := h D q
theorem ifS_ev {c : TT} {t u : TS} {D : Ends} {σ : L2.St} {H : Hp} (R : Bool → Hp → Prop) (h : ∀ Q : Bool → Hp → Prop, (∀ z H', R z H' → Q z H') → c σ H Q) (q1 : ∀ H', R true H' → t D σ H') (q2 : ∀ H', R false H' → u D σ H') : tIfS c t u D σ H := h _ fun z H' r => by
  cases z with
  | true => exact q1 H' r
  | false => exact q2 H' r
theorem and_ev {ta tb : TE} {σ : L2.St} {H : Hp} {Q : VK} (R : V → Hp → Prop) (h : ∀ Q : VK, (∀ z H', R z H' → Q z H') → tAndV ta tb σ H Q) (q : ∀ z H', R z H' → Q z H') : tAndV ta tb σ H Q := h Q q
theorem or_ev {ta tb : TE} {σ : L2.St} {H : Hp} {Q : VK} (R : V → Hp → Prop) (h : ∀ Q : VK, (∀ z H', R z H' → Q z H') → tOrV ta tb σ H Q) (q : ∀ z H', R z H' → Q z H') : tOrV ta tb σ H Q := h Q q
theorem ifset_ev {c : TT} {e : TE} {k : Nat} {D : Ends} {σ : L2.St} {H : Hp} {old : V} (hσ : σ.set k (some old) = σ) (R : V → Hp → Prop) (h : ∀ Q : VK, (∀ z H', R z H' → Q z H') → c σ H (fun b H1 => if b = true then e σ H1 Q else Q old H1)) (q : ∀ z H', R z H' → D.nx (σ.set k (some z)) H') : tIfS c (tAsg e (gName k)) tNext D σ H := by
  have t := h (fun z H' => D.nx (σ.set k (some z)) H') q
  rw [hσ] at t
  exact t
theorem two_cut {t : TE} {g : TG} {c : TT} {a b r : TS} {D : Ends} {σ : L2.St} {H : Hp} (R : L2.St → Hp → Prop) (h : ∀ D' : Ends, (∀ σ' H', R σ' H' → D'.nx σ' H') → tSeq (tAsg t g) (tIfS c a b) D' σ H) (q : ∀ σ' H', R σ' H' → r D σ' H') : tSeq (tAsg t g) (tSeq (tIfS c a b) r) D σ H := h { D with nx := r D } q
theorem org80 {ta tb : TE} {σ : L2.St} {H : Hp} {Q : VK} {c d : Bool} (ha : ∀ Q : VK, Q (.bl c) H → ta σ H Q) (hb : ∀ Q : VK, Q (.bl d) H → tb σ H Q) (h : Q (.bl (c || d)) H) : tOrV ta tb σ H Q := by
  refine ha _ ⟨c, rfl, ?_⟩
  cases c
  · exact hb _ h
  · exact h
theorem gnext_if18 {σ : L2.St} {H : Hp} {c : TT} {t u : TS} {r : TS} {D : Ends} (h : tIfS c t u { D with nx := r D } σ H) : tNext ({ D with nx := tSeq (tIfS c t u) r D } : Ends) σ H := h
theorem ret_if18 {c : TT} {ta tb : TE} {D : Ends} {σ : L2.St} {H : Hp} (R : Bool → Hp → Prop) (h : ∀ Q : Bool → Hp → Prop, (∀ z H', R z H' → Q z H') → c σ H Q) (q1 : ∀ H', R true H' → ta σ H' D.rt) (q2 : ∀ H', R false H' → tb σ H' D.rt) : tRet (tIf c ta tb) D σ H := h _ fun z H' r => by
  cases z with
  | true => exact q1 H' r
  | false => exact q2 H' r
theorem gset_if3 {i : Nat} {v : V} {σ : L2.St} {H : Hp} {c : TT} {t u r : TS} {D : Ends} (h : tIfS c t u { D with nx := r D } (σ.set i (some v)) H) : gName i v σ H (tSeq (tIfS c t u) r D) := h
theorem asg_ev {t : TE} {i : Nat} {r : TS} {D : Ends} {σ : L2.St} {H : Hp} (R : V → Hp → Prop) (h : ∀ Q : VK, (∀ z H', R z H' → Q z H') → t σ H Q) (q : ∀ z H', R z H' → r D (σ.set i (some z)) H') : tSeq (tAsg t (gName i)) r D σ H := h _ q
end GZ
namespace GZ
open PySem PySem.Spec PyProof.Rows L2
/-! ### {n:b} -/
def binT (n : Nat) : Str := ⟨((Nat.toDigits 2 n).map Char.toNat).toArray⟩
theorem digc2_ne : ∀ (fuel n : Nat) (ds : List Char), ds ≠ [] → Nat.toDigitsCore 2 fuel n ds ≠ []
  | 0, _, _, h => h
  | fuel + 1, n, ds, h => by
    unfold Nat.toDigitsCore
    simp only
    split
    · exact List.cons_ne_nil _ _
    · exact digc2_ne fuel _ _ (List.cons_ne_nil _ _)
theorem dig2_ne (n : Nat) : Nat.toDigits 2 n ≠ [] := by
  unfold Nat.toDigits Nat.toDigitsCore
  simp only
  split
  · exact List.cons_ne_nil _ _
  · exact digc2_ne _ _ _ (List.cons_ne_nil _ _)
theorem fmt_b {prog : Program} {w : World} {A : Around} {E : Value → Shared → Prop} {s : Shared} {n : Nat} {t : Tok} {Q : Value → Shared → Prop} (hl : (binT n).length ≤ sizeLine)
    (h : Q (.str (binT n) (s.toks + 1)) { s with toks := s.toks + 1 + 1 }) : wpAny (model prog w) A (formatField (.int (n : Int) t) "b") Q E s := by
  show wpAny _ _ (holding [.int (n : Int) t] (pyFormat (.int (n : Int) t) "b")) Q E s; refine wpAny_holding ?_; unfold pyFormat
  refine wpAny_bind (wpAny_mkStr ?_ (by decide))
  refine wpAny_bind (m := callSpecial? (.int (n : Int) t) (Str.ofString "__format__") [.str "b" s.toks]) (wpAny_callSpecial?_slot (name := Str.ofString "__format__") (typeIs_int _ (n : Int) t) slot_int_format ?_)
  refine wpAny_call (codeAny_call_builtin slot_int_format.plain entry_int_format (slot_int_format.check _ _ _ _ _ _ _ _ (typeIs_int _ (n : Int) t) (args_int_format _ _) ?_))
  unfold Builtin.«int.__format__»
  simp only [selfAndOne, noKeywords, Builtin.Int.intOfSelf, asInt?, asStr?, List.isEmpty_nil, if_true, pure_bind, bind_pure, bind_assoc, show (((Str.ofString "b").length == 0) = false) by decide, show ((((Str.ofString "b").cps.toList.drop 1).any (· ≥ 128) || ((Str.ofString "b").cps.getD 0 0 ≥ 128 && !([60, 62, 61, 94] : List Nat).contains ((Str.ofString "b").cps.getD 1 0))) = false) by decide, Bool.false_eq_true, if_false, show (Value.str "b" s.toks == Value.none) = false from rfl]
  refine wpAny_bind (wpAny_typeNameOf (T := "str") (typeIs_str _ _ _) (by decide) fun _ => wpAny_bind (wpAny_typeNameOfCut_int ?_))
  have hp : Builtin.Float.parseFormatSpec (Str.ofString "b").cps.toList "int" 62 = .ok { align := 62, type := some 98 } := by rfl
  simp only [hp, Option.getD_some]
  rw [if_pos (by decide)]
  have hne : (((Nat.toDigits 2 n).map Char.toNat).isEmpty) = false := by
    cases q : Nat.toDigits 2 n with
    | nil => exact absurd q (dig2_ne n)
    | cons _ _ => rfl
  refine (id (?_ : wpAny _ _ (bind _ _) _ _ _))
  have key : ∀ {A' : Around} {E' : Value → Shared → Prop} {Q' : Fin → Shared → Prop} {s' : Shared} (y : Str), y = binT n → Q' (.done (.ret (.str (binT n) s'.toks))) { s' with toks := s'.toks + 1 } → wpAny (model prog w) A' (mkStr y >>= fun v => ret v) Q' E' s' := fun y e q => by
    rw [e]
    exact wpAny_bind (wpAny_mkStr (wpAny_pure q) hl)
  refine key _ ?_ ?_
  · have e0 : decide (((n : Nat) : Int) < 0) = false := decide_eq_false (by omega)
    rw [e0]
    conv => lhs; arg 4; change ((Nat.toDigits 2 n).map Char.toNat)
    unfold binT
    generalize (Nat.toDigits 2 n).map Char.toNat = ds at hne ⊢
    cases ds with
    | nil => cases hne
    | cons d r =>
      conv => lhs; whnf
      simp
      omega
  · exact wpAny_bind (wpAny_isInstance (typeIs_str _ _ _) isSubtype_str_str (wpAny_pure h))
def tFmtB (te ts : TE) : TE := fun σ H Q => te σ H fun x H1 => ts σ H1 fun y H2 => ∃ n : Nat, x = .int (n : Int) ∧ y = .str "b" ∧ (binT n).length ≤ sizeLine ∧ Q (.str (binT n)) H2
theorem pe_fmtB {X : Cx} {e spec : Expr} {te ts : TE} {pos : Pos} (he : PE X e te) (hs : PE X spec ts) : PE X (.FormattedValue e (-1) (some spec) pos) (tFmtB te ts) := by
  refine ⟨fun pins s σ H Q I h => ?_⟩
  refine PySem.wpAny_FormattedValue_spec (thn (he.run pins s σ H _ I h) fun v s1 ⟨x, H1, I1, r1, q1⟩ => thn (hs.run pins s1 σ H1 _ I1 q1) fun u s2 ⟨y, H2, I2, r2, q2⟩ => ?_)
  obtain ⟨n, rfl, rfl, hl, q⟩ := q2
  obtain ⟨t, rfl⟩ := r1
  obtain ⟨t2, rfl⟩ := r2
  exact ⟨_, _, rfl, fmt_b hl ⟨.str (binT n), H2, I2.tok _, ⟨_, rfl⟩, q⟩⟩
/-! ### len(set(xs)), xs a list of unlike texts -/
section
variable {prog : Program} {w : World} {A : Around} {R : Result → Shared → Prop} {I : Addr} {fp wr : List Addr} {G : Array GenState → Array GenState → Prop} {n : Nat} {P : Nat → Value → Prop} {St : Nat → Shared → Prop}
theorem ns_take {xs : List Str} (nd : xs.Nodup) {i : Nat} (hi : i < xs.length) (k' : Str) : ((xs.take i).any (· == k') || decide (k' = xs[i])) = (xs.take (i + 1)).any (· == k') ∧ (xs.take i).any (· == xs[i]) = false := by
  refine ⟨?_, ?_⟩
  · rw [List.take_add_one, List.getElem?_eq_getElem hi, List.any_append]
    congr 1
    show decide (k' = xs[i]) = ((xs[i] == k') || false)
    rw [Bool.or_false, Bool.eq_iff_iff, decide_eq_true_iff, beq_iff_eq]
    exact ⟨fun z => z.symm, fun z => z.symm⟩
  · refine List.any_eq_false.mpr fun x hx z => ?_
    rw [beq_iff_eq] at z
    obtain ⟨j, hj, ej⟩ := List.getElem_of_mem hx
    rw [List.length_take] at hj
    rw [List.getElem_take] at ej
    exact List.pairwise_iff_getElem.mp nd j i (by omega) hi (by omega) (ej.trans z)
theorem ns_loop (W : WalksS prog w A.in1 I fp wr G n P St) (S : Addr) (hSf : S ∉ fp) (xs : List Str) (nd : xs.Nodup) (hsz : xs.length = n) (hb : n < 4000) (hval : ∀ i v, P i v → ∃ t, v = .str (xs.getD i Str.empty) t) :
    ∀ (k i : Nat) (s : Shared), n - i = k → i ≤ n → St i s → s.heap.SetOf (PySem.strKind prog w) S (fun k' => (xs.take i).any (· == k')) i →
      (∀ s', Moved (S :: wr) G s s' → s'.heap.SetOf (PySem.strKind prog w) S (fun k' => xs.any (· == k')) n → R (.ok (.ret .none)) s') → codeAny (model prog w) A (.builtin "set.update.loop" ⟨[.ref S, .ref I], []⟩) R s := by
  have nw : S ∉ wr := fun h => hSf (W.sub _ h)
  have up : ∀ b ∈ wr, b ∈ S :: wr := fun b h => List.mem_cons_of_mem _ h
  have mv : ∀ {m : Nat} {s s' : Shared} {F : Str → Bool}, Moved wr G s s' → s.heap.SetOf (PySem.strKind prog w) S F m → s'.heap.SetOf (PySem.strKind prog w) S F m := fun hm ⟨o, es, ep, t, ho, r⟩ => ⟨o, es, ep, t, hm.heap S _ nw ho, r⟩
  intro k
  induction k with
  | zero =>
    intro i s hk hi st hS hR
    obtain rfl : i = n := by omega
    rw [List.take_of_length_le (by omega)] at hS
    refine codeAny_builtin PyProof.Rows.F.entry_set_update_loop ?_; rw [Around.under_plainId PyProof.Rows.F.plain_set_update_loop _]
    show wpAny _ A.in1 (pyNext (.ref I) >>= fun _ => _) _ _ s; exact wpAny_bind (W.done s _ _ st fun s' hm => wpAny_pure (hR s' (hm.mono up) (mv hm hS)))
  | succ k ih =>
    intro i s hk hi st hS hR
    have lt : i < n := by omega
    have li : i < xs.length := by omega
    refine codeAny_builtin PyProof.Rows.F.entry_set_update_loop ?_; rw [Around.under_plainId PyProof.Rows.F.plain_set_update_loop _]
    show wpAny _ A.in1 (pyNext (.ref I) >>= fun _ => _) _ _ s; refine wpAny_bind (W.item i s _ _ lt st fun v s' hP st' hm => ?_)
    obtain ⟨t, rfl⟩ := hval i v hP
    have ex : xs.getD i Str.empty = xs[i] := by simp [List.getD, List.getElem?_eq_getElem li]
    rw [ex]
    show wpAny _ A.in1 (holding [Value.str xs[i] t] (setAdd S (.str xs[i] t)) >>= fun _ => _) _ _ s'; refine wpAny_bind (wpAny_holding ?_); unfold setAdd
    refine wpAny_holding (wpAny_bind ((PySem.strKind prog w).pyHash (k := xs[i]) (strKind_is _ _ _ _) ?_))
    refine wpAny_setAddHashed_of (knd := PySem.strKind prog w) (s := { s' with toks := s'.toks + 1 }) (strKind_is _ _ _ _) rfl (mv (s' := s') hm hS) (by unfold scanBound; omega) fun h' same hS2 => ?_
    rw [(ns_take nd li xs[i]).2, if_neg Bool.false_ne_true] at hS2
    have hS3 := PyProof.Rows.SetOf_congr hS2 (fun k' => (ns_take nd li k').1) rfl
    refine wpAny_pure ⟨plainId_quiet PyProof.Rows.F.plain_set_update_loop _, ih (i + 1) _ (by omega) lt (W.frame _ s' _ _ st' (Nat.le_succ _) fun b hb o e => ?_) hS3 fun s'' hm'' hS'' => hR s'' (Moved.trans W.gtrans ((hm.mono up).then_heap (Nat.le_succ _) fun b o hb e => ?_) hm'') hS''⟩
    · exact (same.2 b (fun h : b = S => hSf (h ▸ hb))).trans e
    · exact (same.2 b (fun h : b = S => hb (by rw [h]; exact List.mem_cons_self))).trans e
end
section
variable {prog : Program} {w : World} {A : Around} {E : Value → Shared → Prop} {s : Shared}
set_option maxHeartbeats 3200000 in
theorem ns_call {l : Addr} {items : Array Value} {xs : List Str} {Q : Value → Shared → Prop} (hh : A.handled = none) (hl : s.heap.IsList l items) (hi : PyProof.Rows.StrsAre items.toList xs) (nd : xs.Nodup) (hb : xs.length < 4000)
    (h : ∀ (h' : Heap) (tk : Nat), h'.SetOf (PySem.strKind prog w) s.heap.objs.size (fun k' => xs.any (· == k')) xs.length → (∀ b o, b < s.heap.objs.size → s.heap.get? b = some o → h'.get? b = some o) → Q (.ref s.heap.objs.size) { s with heap := h', toks := tk }) :
    wpAny (model prog w) A (call (.type "set") [.ref l]) Q E s := by
  have ⟨c, tl, hmro⟩ := PySem.F.called_set.mro
  have made' := PySem.F.called_set.made; have sub' := PySem.F.called_set.sub; have nt' := PySem.F.called_set.notType; have cc' := PySem.F.called_set.canCreate; have tc' := PySem.F.typeCall_set_1 (.ref l)
  refine wpAny_call (codeAny_of_tree ?_); show wpAny _ _ (callAny (.type "set") _) _ _ _
  refine wpAny_pure ⟨Code.quiet_builtin _ (by decide +kernel), codeAny_builtin PySem.F.entry_type_call ?_⟩; rw [Around.under_plain (weight_type_call_type "set" [.ref l] []) rfl]
  repeat (any_goals (first | assumption | wp_step))
  refine codeAny_mono (PySem.code_set_new_1 (.ref l) (E := E) (Q₁ := fun obj s₁ => ∃ led : Bool, obj = .ref s.heap.objs.size ∧ s₁ = { s with heap := s.heap.push { cls := .type "set", dict := none, data := .set #[] 0 (.fresh 0 0 led) } }) fun led => ⟨led, rfl, rfl⟩) fun r s₁ hr => ?_; cases r with
  | error e => exact hr
  | ok fl =>
    cases fl with
    | ret obj =>
      obtain ⟨led, rfl, rfl⟩ := hr
      obtain ⟨hp, eh⟩ : ∃ hp, hp = s.heap.push { cls := .type "set", dict := none, data := .set #[] 0 (.fresh 0 0 led) } := ⟨_, rfl⟩
      have gS : hp.get? s.heap.objs.size = some { cls := .type "set", dict := none, data := .set #[] 0 (.fresh 0 0 led) } := by rw [eh]; exact Heap.get?_push_size _ rfl
      have zS : hp.objs.size = s.heap.objs.size + 1 := by rw [eh, Heap.size_push]
      have kS : ∀ b o, s.heap.get? b = some o → hp.get? b = some o := fun b o e => by rw [eh]; exact Heap.get?_push_of_some _ e
      rw [← eh]
      have hT : Shared.TypeIs { s with heap := hp } (.ref s.heap.objs.size) "set" := ⟨_, gS, rfl⟩
      have li' := PySem.F.called_set.init.lookup; have bi' := PySem.F.called_set.init.bind (.ref s.heap.objs.size)
      repeat (any_goals (first | assumption | wp_step))
      refine codeAny_mono (codeAny_call_builtin (R := wants (fun r s2 => r = .none ∧ ∃ h' tk, s2 = { s with heap := h', toks := tk } ∧ h'.SetOf (PySem.strKind prog w) s.heap.objs.size (fun k' => xs.any (· == k')) xs.length ∧ (∀ b o, b < s.heap.objs.size → s.heap.get? b = some o → h'.get? b = some o)) E) PySem.F.called_set.init.plain PySem.F.entry_set_init (PySem.check_set_init_1 hT ?_)) fun r2 s2 hr2 => ?_
      · obtain ⟨⟨ocls, odict, odata, oslots⟩, hol, hcl, nl, hdl⟩ := hl
        dsimp only at hcl hdl
        subst hcl hdl
        have hol2 := kS _ _ hol
        have is1 := PySem.F.sub_list_set; have is2 := PySem.F.sub_list_frozenset
        have ne1 : (Value.type "list" == Value.type "dict") = false := by decide
        have hl2 : hp.IsList l items := ⟨_, hol2, rfl, nl, rfl⟩
        have lS : l < s.heap.objs.size := Heap.lt_size hol
        unfold Builtin.«set.__init__» noKeywords Builtin.Frozenset.updateFrom; generalize ePI : pyIter = PI; wp_walk; subst ePI
        refine wpAny_pyIter_list hl2 (wpAny_bind (wpAny_runValue ?_))
        have h3 : A.in1.in1.in1.handled = none := by simp [hh]
        have nI : l ≠ hp.objs.size := by rw [zS]; exact Nat.ne_of_lt (Nat.lt_succ_of_lt lS)
        have nf : s.heap.objs.size ∉ [hp.objs.size, l] := by
          rw [zS]; simp only [List.mem_cons, List.not_mem_nil, or_false, not_or]; exact ⟨Nat.ne_of_lt (Nat.lt_succ_self _), Nat.ne_of_gt lS⟩
        have szx : xs.length = items.size := by rw [← PyProof.Rows.StrsAre.len_eq hi, Array.length_toList]
        refine ns_loop ((Walks.list h3 _ l nI items).toS) s.heap.objs.size nf xs nd szx (by omega) (fun i v hv => SS.strs_at hi i v (by rw [Array.getElem?_toList]; exact hv)) (items.size - 0) 0 _ (by omega) (Nat.zero_le _) ⟨⟨_, Heap.get?_push_size _ rfl, rfl, rfl⟩, (hl2.push _)⟩ ?_ ?_
        · exact PyProof.Rows.SetOf_congr ((PyProof.Rows.setObjOf_fresh (knd := PySem.strKind prog w) led).setOf (Heap.get?_push_of_some _ gS) (by unfold scanBound; omega)) (fun _ => rfl) rfl
        · intro s' hm hS
          obtain ⟨h', g', d', tk', os'⟩ := s'
          obtain rfl : g' = s.gens := hm.gens
          obtain rfl : d' = s.drawn := hm.drawn
          obtain rfl : os' = s.os := hm.os
          show wpAny _ _ _ _ _ _; refine wpAny_pure ?_; show wpAny _ _ (ret Value.none) _ _ _
          refine wpAny_pure ⟨rfl, h', tk', rfl, by rw [szx]; exact hS, fun b o hb e => hm.heap b o ?_ (Heap.get?_push_of_some _ (kS _ _ e))⟩
          simp only [List.mem_cons, List.not_mem_nil, or_false, not_or]; rw [zS]; exact ⟨Nat.ne_of_lt hb, Nat.ne_of_lt (Nat.lt_succ_of_lt hb)⟩
      · cases r2 with
        | error e => exact hr2
        | ok fl2 =>
          cases fl2 with
          | ret r =>
            obtain ⟨rfl, h', tk, rfl, hS', hk'⟩ := hr2
            repeat (any_goals (first | assumption | wp_step))
            exact h _ _ hS' hk'
          | _ => exact hr2.elim
    | _ => exact hr.elim
end
theorem strs_of : ∀ {ys : List Str} {us : List Value}, Vals (ys.map V.str) us → PyProof.Rows.StrsAre us ys
  | [], _, .nil => .nil
  | y :: ys, _, .cons ⟨k, e⟩ t => by subst e; exact .cons y k (strs_of t)
def tLenSetN (K : PySem.W.Frag) (ta : TE) : TE := fun σ H Q => ta σ H fun x H1 => ∃ l, ∃ xs : List Str, x = .ref l ∧ SqL K H1 l (xs.map V.str) ∧ xs.Nodup ∧ xs.length < 4000 ∧ Q (.int xs.length) H1
theorem pe_lenSetN {X : Cx} {a : Expr} {ta : TE} {p p2 q pos : Pos} (hc : X.calm = true) (hg : Gl X "len") (hm : X.mg "len" = none) (hg2 : Gl X "set") (hm2 : X.mg "set" = none) (ha : PE X a ta)
    (na : starEach [a] X.env = (false, eval a X.env) :: starEach [] X.env := by rfl) : PE X (.Call (.Name "len" p) [.Call (.Name "set" p2) [a] [] q] [] pos) (tLenSetN X.K ta) := by
  refine ⟨fun pins s σ H Q I h => Call_ (ld_blt I hg hm boot_len (PyProof.Rows.callWith_builtin1 (PyProof.Rows.args_cons (Call_ (ld_blt I hg2 hm2 boot_set ?_)) rfl) rfl rfl))⟩
  refine PyProof.Rows.callWith_type1 (PyProof.Rows.args_cons (thn (ha.run pins s σ H _ I h) fun v s1 ⟨x, H1, I1, r1, l, xs, ex, hq, nd, hb, q1⟩ => PyProof.Rows.args_nil ?_) na) na rfl
  subst ex
  cases r1
  obtain ⟨its, r, pl, hz⟩ := I1.list hq
  refine ns_call (I1.ok.hd hc) pl.isList (by simpa using strs_of r) nd hb fun h' tk hS hk => PyProof.Rows.args_nil ?_
  obtain ⟨o, es, ep, t, ho, hex, hd, _, _, _, hf, hn⟩ := hS
  have I2 : Inv X pins σ H1 { s1 with heap := h', toks := tk } := I1.kept fun b o e => hk b o (Heap.lt_size e) e
  exact call_len_set ho hex hd hf (by rw [hn]; omega) ⟨.int xs.length, H1, I2.tok _, ⟨_, by rw [hn]⟩, q1⟩
section
variable {P : Program} {w : World} {K : PySem.W.Frag} {mg : Str → Option Value} {base : Heap}
variable {C : Addr} {za : Nat → Addr} {zl : Nat → FuncData} {t26 t27 t28 : Tok}
/-! ### small forms -/
def SF (sc tl : Nat) : Prop := (2 ≤ sc ∧ sc ≤ 3) ∧ 1 ≤ tl ∧ sc + tl ≤ 5
theorem SF.in {sc tl : Nat} (h : SF sc tl) : (sc, tl) ∈ [(2, 1), (2, 2), (2, 3), (3, 1), (3, 2)] := by
  obtain ⟨⟨h1, h2⟩, h3, h4⟩ := h
  have : sc = 2 ∨ sc = 3 := by omega
  rcases this with z | z <;> subst z
  · have : tl = 1 ∨ tl = 2 ∨ tl = 3 := by omega
    rcases this with z | z | z <;> subst z <;> decide
  · have : tl = 1 ∨ tl = 2 := by omega
    rcases this with z | z <;> subst z <;> decide
/-- what holds of the five forms and all their words -/
theorem SF.all {P : Nat → Nat → Nat → Prop} (h : ∀ f ∈ [(2, 1), (2, 2), (2, 3), (3, 1), (3, 2)], ∀ v, v < 2 ^ (1 + f.1 + f.2) → P f.1 f.2 v) {sc tl : Nat} (s : SF sc tl) {v : Nat} (hv : v < 2 ^ (1 + sc + tl)) : P sc tl v := h (sc, tl) s.in v hv
def spWidth (C : Addr) : Sp := fun vs H Q _ => ∃ (x : Addr) (sc tl : Nat), vs = [.ref x] ∧ FAt C H x sc tl ∧ Q (.int ((1 + sc + tl : Nat) : Int)) H
theorem ok_Form_width (B : Bl mg) (L : LL K mg C za zl t26 t27 t28) : FnOk P w K mg base CX0 1 (za 19) (zl 19) ["self"] (spWidth C) := by
  refine L.F_Form_width.ok sc_Form_width (fun vs H Q E h => ?_) (fun cdv A outer s H vs Q E hr h => ?_)
  · obtain ⟨x, sc, tl, rfl, _⟩ := h
    rfl
  obtain ⟨x, sc, tl, rfl, ⟨dx, hx, h1, h2, h3, h4⟩, q⟩ := h
  refine ⟨_, (pss_one (ps_ret (pe_op op_add (pe_op op_add pe_int (pe_fld (pv 0) rfl)) (pe_fld (pv 0) rfl)))), ?_⟩
  refine ⟨_, rfl, x, C, dx, _, _, rfl, hx, L.T.cl, L.T.ns, fl_s _ _, _, _, rfl, rfl, _, rfl, x, C, dx, _, _, rfl, hx, L.T.cl, L.T.nt, fl_t _ _, _, _, rfl, rfl, ?_⟩
  have e : ((1 + sc + tl : Nat) : Int) = 1 + (sc : Int) + (tl : Int) := by omega
  dsimp only
  rw [← e]
  exact q
def spIsW (K : PySem.W.Frag) (C : Addr) : Sp := fun vs H Q _ => ∃ (x : Addr) (sc tl : Nat) (v : Int), vs = [.ref x, .int v] ∧ FAt C H x sc tl ∧ Q (.bl (numIn 0 (2 ^ (1 + sc + tl) - 1) (.int v))) H
theorem ok_Form_is_word (B : Bl mg) (L : LL K mg C za zl t26 t27 t28) : FnOk P w K mg base CX0 3 (za 24) (zl 24) ["self", "thing"] (spIsW K C) := by
  have G_Form_width : FnOk P w K mg base CX0 2 (za 19) (zl 19) ["self"] (spWidth C) := (ok_Form_width B L).mono (by decide)
  have G_is_number_in : FnOk P w K mg base CX0 2 (za 2) (zl 2) ["least", "greatest", "thing"] (spNumIn K) := (ok_is_number_in B L).mono (by decide)
  refine L.F_Form_is_word.ok sc_Form_is_word (fun vs H Q E h => ?_) (fun cdv A outer s H vs Q E hr h => ?_)
  · obtain ⟨x, sc, tl, v, rfl, _⟩ := h
    rfl
  obtain ⟨x, sc, tl, v, rfl, hF, q⟩ := h
  obtain ⟨dx, hx, h1, h2, h3, h4⟩ := id hF
  refine ⟨_, (pss_one (ps_ret (pe_call G_is_number_in hr (by rfl) L.m_is_number_in L.F_is_number_in.kp L.b_is_number_in .nil pass0 (pa_cons pe_int (pa_cons (pe_op op_sub (pe_op op_oneShl pe_int (pe_meth0 (pv 0) L.T.cl L.M_Form_width G_Form_width hr L.b_Form_width .nil pass0)) pe_int) (pa_cons (pv 1) pa_nil)))))), ?_⟩
  exact ⟨_, rfl, x, dx, _, rfl, hx, rfl, x, sc, tl, rfl, hF, 1 + sc + tl, rfl, rfl, by omega, _, _, rfl, rfl, _, rfl, _, _, _, rfl, .int _, q⟩
def trn (sc tl : Nat) (v : Int) : Int := (1 - GM.sgn sc tl v) * 2 ^ (sc + tl) + (GM.scl sc tl v * 2 ^ tl + GM.tlp tl v)
def spTrn (C : Addr) : Sp := fun vs H Q _ => ∃ (x : Addr) (sc tl : Nat) (v : Int), vs = [.ref x, .int v] ∧ FAt C H x sc tl ∧ ∀ H', Same H H' → Q (.int (trn sc tl v)) H'
theorem ok_Form_turned (B : Bl mg) (L : LL K mg C za zl t26 t27 t28) : FnOk P w K mg base CX0 3 (za 29) (zl 29) ["self", "word"] (spTrn C) := by
  have G_Form_parts : FnOk P w K mg base CX0 2 (za 22) (zl 22) ["self", "word"] (spParts C) := (ok_Form_parts B L).mono (by decide)
  have G_Form_word_of : FnOk P w K mg base CX0 2 (za 23) (zl 23) ["self", "sign", "scale", "tail"] (spWordOf C) := (ok_Form_word_of B L).mono (by decide)
  refine L.F_Form_turned.ok sc_Form_turned (fun vs H Q E h => ?_) (fun cdv A outer s H vs Q E hr h => ?_)
  · obtain ⟨x, sc, tl, v, rfl, _⟩ := h
    rfl
  obtain ⟨x, sc, tl, v, rfl, hF, q⟩ := h
  obtain ⟨dx, hx, h1, h2, h3, h4⟩ := id hF
  refine ⟨_, (pss_cons (ps_asg (pe_meth (pv 0) L.T.cl L.M_Form_parts G_Form_parts hr L.b_Form_parts .nil pass0 (pa_cons (pv 1) pa_nil)) (pg_tup (by rfl) (pgs_cons (pg_name (i := 2) sc_Form_turned.nd rfl (.inl rfl)) (pgs_cons (pg_name (i := 3) sc_Form_turned.nd rfl (.inl rfl)) (pgs_cons (pg_name (i := 4) sc_Form_turned.nd rfl (.inl rfl)) pgs_nil)))))
    (pss_one (ps_ret (pe_meth (pv 0) L.T.cl L.M_Form_word_of G_Form_word_of hr L.b_Form_word_of .nil pass0 (pa_cons (pe_op op_sub pe_int (pv 2)) (pa_cons (pv 3) (pa_cons (pv 4) pa_nil))))))), ?_⟩
  refine ⟨_, rfl, x, dx, _, rfl, hx, rfl, _, rfl, x, sc, tl, v, rfl, hF, fun p np => ?_⟩
  have sp := same_upd (o := .tup [.int (GM.sgn sc tl v), .int (GM.scl sc tl v), .int (GM.tlp tl v)]) np
  refine ⟨p, _, rfl, .inl (.inl upd_same), rfl, _, _, rfl, _, _, rfl, _, _, rfl, rfl, ?_⟩
  have hs := GM.scl_nn sc tl v
  have ht := GM.tlp_nn tl v
  have hg : GM.sgn sc tl v = 0 ∨ GM.sgn sc tl v = 1 := by
    unfold GM.sgn
    omega
  exact ⟨_, rfl, x, dx, _, rfl, sp _ _ hx, rfl, _, rfl, _, _, rfl, rfl, _, rfl, _, rfl, x, sc, tl, _, _, _, rfl, hF.same sp, by omega, hs.1, hs.2, ht.1, ht.2, q _ sp⟩
theorem pad_ok : ∀ k : Nat, k < 101 → PadOk (k : Int) = true := by decide +kernel
def zb (n : Int) (k : Nat) : Str := Txt.zfill (binT n.toNat) (k : Int)
def spBits : Sp := fun vs H Q _ => ∃ (n k : Nat), vs = [.int (n : Int), .int (k : Int)] ∧ (binT n).length ≤ 100 ∧ k ≤ 100 ∧ Q (.str (zb (n : Int) k)) H
theorem ok_bits_text (B : Bl mg) (L : LL K mg C za zl t26 t27 t28) : FnOk P w K mg base CX0 1 (za 4) (zl 4) ["number", "many"] spBits := by
  refine L.F_bits_text.ok sc_bits_text (fun vs H Q E h => ?_) (fun cdv A outer s H vs Q E hr h => ?_)
  · obtain ⟨n, k, rfl, _⟩ := h
    rfl
  obtain ⟨n, k, rfl, hl, hp, q⟩ := h
  refine ⟨_, (pss_one (ps_ret (pe_bm PySem.F.plainAttrs_str PySem.F.slot_str_zfill PySem.F.type_str_zfill mt_zfill (pe_joined1 (pe_fmtB (pv 0) (pe_joined1 pe_str))) (pa_cons (pv 1) pa_nil)))), ?_⟩
  refine ⟨_, rfl, n, rfl, rfl, Nat.le_trans hl (by decide), rfl, _, rfl, _, _, rfl, rfl, pad_ok k (by omega), q⟩
theorem zb_len : ∀ n : Nat, n < 8 → ∀ k : Nat, k < 4 → (zb (n : Int) k).length ≤ 10 := by decide +kernel
theorem bin_len : ∀ n : Nat, n < 8 → (binT n).length ≤ 100 := by decide +kernel
theorem sg_len : ∀ g : Nat, g < 2 → (Str.ofString (toString (g : Int))).length ≤ 1 := by decide +kernel
theorem len_ap (a b : Str) : (a ++ b).length = a.length + b.length := by
  have h : ∀ z : Str, z.length = (TL.tl z).length := fun z => (Array.length_toList (xs := z.cps)).symm
  rw [h, h a, h b, TL.tl_append, List.length_append]
def spT (sc tl : Nat) (v : Int) : Str := Str.empty ++ Str.ofString (toString (GM.sgn sc tl v)) ++ " " ++ zb (GM.scl sc tl v) sc ++ " " ++ zb (GM.tlp tl v) tl
def spSpell (C : Addr) : Sp := fun vs H Q _ => ∃ (x : Addr) (sc tl v : Nat), vs = [.ref x, .int (v : Int)] ∧ FAt C H x sc tl ∧ SF sc tl ∧ v < 2 ^ (1 + sc + tl) ∧ ∀ H', Same H H' → Q (.str (spT sc tl v)) H'
theorem ok_spelled (B : Bl mg) (L : LL K mg C za zl t26 t27 t28) : FnOk P w K mg base CX0 3 (za 3) (zl 3) ["form", "word"] (spSpell C) := by
  have G_Form_parts : FnOk P w K mg base CX0 2 (za 22) (zl 22) ["self", "word"] (spParts C) := (ok_Form_parts B L).mono (by decide)
  have G_bits_text : FnOk P w K mg base CX0 2 (za 4) (zl 4) ["number", "many"] spBits := (ok_bits_text B L).mono (by decide)
  refine L.F_spelled.ok sc_spelled (fun vs H Q E h => ?_) (fun cdv A outer s H vs Q E hr h => ?_)
  · obtain ⟨x, sc, tl, v, rfl, _⟩ := h
    rfl
  obtain ⟨x, sc, tl, v, rfl, hF, hs, hv, q⟩ := h
  obtain ⟨dx, hx, h1, h2, h3, h4⟩ := id hF
  refine ⟨_, (pss_cons (ps_asg (pe_meth (pv 0) L.T.cl L.M_Form_parts G_Form_parts hr L.b_Form_parts .nil pass0 (pa_cons (pv 1) pa_nil)) (pg_tup (by rfl) (pgs_cons (pg_name (i := 2) sc_spelled.nd rfl (.inl rfl)) (pgs_cons (pg_name (i := 3) sc_spelled.nd rfl (.inl rfl)) (pgs_cons (pg_name (i := 4) sc_spelled.nd rfl (.inl rfl)) pgs_nil)))))
    (pss_one (ps_ret (pe_joined (.cons (pe_fmt (pv 2)) (.cons pe_str (.cons (pe_fmt (pe_call G_bits_text hr (by rfl) L.m_bits_text L.F_bits_text.kp L.b_bits_text .nil pass0 (pa_cons (pv 3) (pa_cons (pe_fld (pv 0) rfl) pa_nil)))) (.cons pe_str (.cons (pe_fmt (pe_call G_bits_text hr (by rfl) L.m_bits_text L.F_bits_text.kp L.b_bits_text .nil pass0 (pa_cons (pv 4) (pa_cons (pe_fld (pv 0) rfl) pa_nil)))) .nil))))))))), ?_⟩
  refine ⟨_, rfl, x, dx, _, rfl, hx, rfl, _, rfl, x, sc, tl, v, rfl, hF, fun p np => ?_⟩
  have sp := same_upd (o := .tup [.int (GM.sgn sc tl v), .int (GM.scl sc tl v), .int (GM.tlp tl v)]) np
  refine ⟨p, _, rfl, .inl (.inl upd_same), rfl, _, _, rfl, _, _, rfl, _, _, rfl, rfl, ?_⟩
  try simp only [L2.start, List.map_cons, List.map_nil, List.length_cons, List.length_nil, List.replicate_succ, List.replicate_zero, List.cons_append, List.nil_append, List.set_cons_succ, List.set_cons_zero, Nat.reduceAdd, Nat.reduceSub, Nat.zero_add]
  have hsc := GM.scl_nn sc tl v
  have htl := GM.tlp_nn tl v
  have hg : GM.sgn sc tl v = 0 ∨ GM.sgn sc tl v = 1 := by
    unfold GM.sgn
    omega
  have q' := q _ sp
  obtain ⟨⟨s2, s3⟩, s4, s5⟩ := id hs
  have p3 : (2 : Int) ^ sc ≤ 2 ^ 3 := GM.pow_le' s3
  have p4 : (2 : Int) ^ tl ≤ 2 ^ 3 := GM.pow_le' (by omega)
  have hF' := hF.same sp
  have hx' := sp _ _ hx
  obtain ⟨g, eg, hg2⟩ : ∃ g : Nat, GM.sgn sc tl v = (g : Int) ∧ g < 2 := ⟨(GM.sgn sc tl v).toNat, by omega, by omega⟩
  obtain ⟨n1, e1, hn1⟩ : ∃ n1 : Nat, GM.scl sc tl v = (n1 : Int) ∧ n1 < 8 := ⟨(GM.scl sc tl v).toNat, by omega, by omega⟩
  obtain ⟨n2, e2, hn2⟩ : ∃ n2 : Nat, GM.tlp tl v = (n2 : Int) ∧ n2 < 8 := ⟨(GM.tlp tl v).toNat, by omega, by omega⟩
  unfold spT at q'
  generalize upd H p (.tup [.int (GM.sgn sc tl v), .int (GM.scl sc tl v), .int (GM.tlp tl v)]) = H1 at *
  rw [eg, e1, e2] at q' ⊢
  have l1 := sg_len g hg2
  have l2 := zb_len n1 hn1 sc (by omega)
  have l3 := zb_len n2 hn2 tl (by omega)
  have l0 : Str.empty.length = 0 := rfl
  have lb : (" " : Str).length = 1 := rfl
  have big : ∀ {z : Nat}, z ≤ 100 → z ≤ sizeLine := fun h => Nat.le_trans h (by decide)
  refine ⟨_, rfl, .inr ⟨_, rfl, ?_, _, rfl, ?_, _, rfl, ?_, _, rfl, _, rfl, x, C, dx, _, _, rfl, hx', L.T.cl, L.T.ns, fl_s _ _, n1, sc, rfl, bin_len n1 hn1, by omega, .inl ⟨_, rfl, ?_, _, rfl, ?_, _, rfl, ?_, _, rfl, _, rfl, x, C, dx, _, _, rfl, hx', L.T.cl, L.T.nt, fl_t _ _, n2, tl, rfl, bin_len n2 hn2, by omega, .inl ⟨_, rfl, ?_, _, rfl, ?_, q'⟩⟩⟩⟩
  · have : g = 0 ∨ g = 1 := by omega
    rcases this with z | z <;> subst z <;> decide
  all_goals (refine big ?_; first | (simp only [len_ap]; omega) | omega)
/-- what word_in finds in a spelled word -/
theorem sp_split : ∀ {sc tl : Nat}, SF sc tl → ∀ {v : Nat}, v < 2 ^ (1 + sc + tl) → (Txt.split (spT sc tl v) " ").map (·.length) = [1, sc, tl] ∧ (spT sc tl v).length ≤ 20 ∧ (Txt.join "" (Txt.split (spT sc tl v) " ")).cps.toList.all (fun c => c == 48 || c == 49) = true ∧ (Txt.join "" (Txt.split (spT sc tl v) " ")).cps.toList.foldl (fun n c => 2 * n + (c - 48)) 0 = v ∧ (Txt.join "" (Txt.split (spT sc tl v) " ")).cps.size = 1 + sc + tl := fun {sc tl} s {v} hv =>
  SF.all (P := fun sc tl v => (Txt.split (spT sc tl v) " ").map (·.length) = [1, sc, tl] ∧ (spT sc tl v).length ≤ 20 ∧ (Txt.join "" (Txt.split (spT sc tl v) " ")).cps.toList.all (fun c => c == 48 || c == 49) = true ∧ (Txt.join "" (Txt.split (spT sc tl v) " ")).cps.toList.foldl (fun n c => 2 * n + (c - 48)) 0 = v ∧ (Txt.join "" (Txt.split (spT sc tl v) " ")).cps.size = 1 + sc + tl) (by decide +kernel) s hv
theorem iteN81 {c : Bool} {A B : Prop} (h : c = false) (b : B) : (if c = true then A else B) := by
  rw [h]
  exact b
def spWordIn (C : Addr) : Sp := fun vs H Q _ => ∃ (x : Addr) (sc tl v : Nat), vs = [.ref x, .str (spT sc tl v)] ∧ FAt C H x sc tl ∧ SF sc tl ∧ v < 2 ^ (1 + sc + tl) ∧ ∀ H', Same H H' → Q (.int (v : Int)) H'
theorem ok_word_in (B : Bl mg) (L : LL K mg C za zl t26 t27 t28) : FnOk P w K mg base CX0 2 (za 5) (zl 5) ["form", "text"] (spWordIn C) := by
  refine L.F_word_in.ok sc_word_in (fun vs H Q E h => ?_) (fun cdv A outer s H vs Q E hr h => ?_)
  · obtain ⟨x, sc, tl, v, rfl, _⟩ := h
    rfl
  obtain ⟨x, sc, tl, v, rfl, hF, hs, hv, q⟩ := h
  obtain ⟨dx, hx, h1, h2, h3, h4⟩ := id hF
  obtain ⟨t1, t2, t3, t4, t5⟩ := sp_split hs hv
  refine ⟨_, (pss_cons (ps_set (i := 2) sc_word_in.nd rfl (.inl rfl) (pe_split (pv 1) pe_str))
    (pss_cons (ps_if (pt_cmpR (op_neD hr.units) (pe_lc (own := [("part", 5)]) (by rfl) sc_word_in.nd (pi_list (pv 2)) (blkOk_by (own := [("part", 5)]) (N := ["form", "text", "parts", "word", "figure", "part"]) (sc := defScope s_word_in) (by decide +kernel)) (fun _ _ _ _ _ => pg_name (i := 5) sc_word_in.nd rfl (Or.inl rfl)) (fun _ _ _ _ _ => pts_nil) (fun _ _ _ _ _ => (pe_callB call_len_str (by rfl) B.len PySem.boot_len (pa_cons (pv 5) pa_nil)))) (pe_lst (pa_cons pe_int (pa_cons (pe_fld (pv 0) rfl) (pa_cons (pe_fld (pv 0) rfl) pa_nil)))) (nomark _)) (pss_one ps_never) pss_nil)
    (pss_cons (ps_set (i := 3) sc_word_in.nd rfl (.inl rfl) pe_int)
    (pss_cons (ps_for PassesOwn.never rfl (pi_str (pe_bm PySem.F.plainAttrs_str PySem.F.slot_str_join PySem.F.type_str_join mt_join pe_str (pa_cons (pv 2) pa_nil))) (pg_name (i := 4) sc_word_in.nd rfl (.inl rfl)) (pss_cons (ps_if (pt_cmpR op_notIn_seq (pv 4) (pe_tup (pa_cons pe_str (pa_cons pe_str pa_nil))) (by rfl)) (pss_one ps_never) pss_nil)
    (pss_one (ps_set (i := 3) sc_word_in.nd rfl (.inl rfl) (pe_op op_add (pe_op op_mul pe_int (pv 3)) (pe_callTy call_int_str (by rfl) B.int PyProof.Rows.boot_int (pa_cons (pv 4) pa_nil)))))))
    (pss_one (ps_ret (pv 3))))))), ?_⟩
  refine ⟨_, rfl, ⟨_, rfl⟩, _, _, rfl, rfl, rfl, Nat.le_trans (show (spT sc tl v).length + 2 ≤ 22 by omega) (by decide), fun Pp nP => ?_⟩
  obtain ⟨ps, hps⟩ : ∃ ps, ps = Txt.split (spT sc tl v) " " := ⟨_, rfl⟩
  rw [← hps] at t1 t3 t4 t5 ⊢
  have s1 := same_upd (o := .lst (ps.map V.str)) nP
  have eP : (upd H Pp (.lst (ps.map V.str))) Pp = some (.lst (ps.map V.str)) := upd_same
  have hx1 := s1 _ _ hx
  generalize upd H Pp (.lst (ps.map V.str)) = H1 at *
  have lps : ps.length = 3 := by
    have := congrArg List.length t1
    rwa [List.length_map] at this
  try simp only [L2.start, List.map_cons, List.map_nil, List.length_cons, List.length_nil, List.replicate_succ, List.replicate_zero, List.cons_append, List.nil_append, List.set_cons_succ, List.set_cons_zero, Nat.reduceAdd, Nat.reduceSub, Nat.zero_add]
  refine ⟨_, rfl, Pp, rfl, ⟨_, SqL.of eP⟩, fun D nD => ?_⟩
  refine lc_it (walk_list (K := K) (a := Pp) (xs := ps.map V.str)) (fun j H9 => Same H1 H9 ∧ H9 D = some (.lst ((ps.take j).map fun z => V.int (z.length : Int)))) ⟨same_upd nD, upd_same⟩ (fun j H9 _ ⟨s9, _⟩ => SqL.of (s9 _ _ eP)) ?_ ?_
  · rintro j v' Ha H9 hj ⟨s9, eD⟩ ⟨rfl, hz⟩
    replace hz : (ps.map V.str)[j]? = some v' := hz
    rw [List.length_map] at hj
    have hp : ps[j]? = some ps[j] := List.getElem?_eq_getElem hj
    rw [List.getElem?_map, hp] at hz
    cases hz
    refine ⟨rfl, yesT ?_⟩
    try simp only [L2.start, List.map_cons, List.map_nil, List.length_cons, List.length_nil, List.replicate_succ, List.replicate_zero, List.cons_append, List.nil_append, List.set_cons_succ, List.set_cons_zero, Nat.reduceAdd, Nat.reduceSub, Nat.zero_add]
    have pl : (ps[j]).length ≤ 100 := by
      have : (ps[j]).length ∈ ps.map (·.length) := List.mem_map.mpr ⟨_, List.getElem_mem hj, rfl⟩
      rw [t1] at this
      obtain ⟨⟨s2, s3⟩, s4, s5⟩ := hs
      simp only [List.mem_cons, List.not_mem_nil, or_false] at this
      omega
    refine ⟨_, rfl, _, rfl, Nat.le_trans pl (by decide), _, eD, ?_, fun y o e => ?_, ?_⟩
    · rw [List.length_map, List.length_take]
      exact Nat.lt_of_le_of_lt (Nat.min_le_right _ _) (by rw [lps]; decide)
    · rw [upd_ne (ne_of_none e nD)]
      exact s9 _ _ e
    · rw [upd_same, List.take_add_one, hp, List.map_append]
      rfl
  rintro H2 ⟨s2, eD⟩
  rw [List.length_map, List.take_of_length_le (Nat.le_refl _)] at eD
  have eD' : H2 D = some (.lst [.int ((1 : Nat) : Int), .int (sc : Int), .int (tl : Int)]) := by
    rw [eD]
    have : (ps.map fun z => V.int (z.length : Int)) = (ps.map (·.length)).map fun (k : Nat) => V.int (k : Int) := by rw [List.map_map]; rfl
    rw [this, t1]
    rfl
  have hx2 := s2 _ _ hx1
  refine ⟨_, rfl, x, C, dx, _, _, rfl, hx2, L.T.cl, L.T.ns, fl_s _ _, _, rfl, x, C, dx, _, _, rfl, hx2, L.T.cl, L.T.nt, fl_t _ _, (by show 3 ≤ sizeLine; decide), fun D2 nD2 => ?_⟩
  have s3 := same_upd (o := .lst [.int 1, .int (sc : Int), .int (tl : Int)]) nD2
  have e3 : (upd H2 D2 (.lst [.int 1, .int (sc : Int), .int (tl : Int)])) D2 = some (.lst [.int 1, .int (sc : Int), .int (tl : Int)]) := upd_same
  have eD3 := s3 _ _ eD'
  have eP3 := s3 _ _ (s2 _ _ eP)
  have s03 := (s1.trans s2).trans s3
  generalize upd H2 D2 (.lst [.int 1, .int (sc : Int), .int (tl : Int)]) = H3 at *
  refine ⟨.list ([(1 : Int), (sc : Int), (tl : Int)].map PyData.int), .list ([(1 : Int), (sc : Int), (tl : Int)].map PyData.int), .lst (SqL.of eD3) (dp_ints [(1 : Int), (sc : Int), (tl : Int)]), .lst (SqL.of e3) (dp_ints [(1 : Int), (sc : Int), (tl : Int)]), PySem.W.shaped_ints _, PySem.W.shaped_ints _, ?_⟩
  rw [PySem.SeqAt.eqv_refl _ (PySem.SeqAt.canLay_of_shaped (PySem.W.shaped_ints _))]
  refine ⟨_, rfl, iteF ?_⟩
  try dsimp only [tNext]
  try simp only [L2.start, List.map_cons, List.map_nil, List.length_cons, List.length_nil, List.replicate_succ, List.replicate_zero, List.cons_append, List.nil_append, List.set_cons_succ, List.set_cons_zero, Nat.reduceAdd, Nat.reduceSub, Nat.zero_add]
  obtain ⟨J, hJ⟩ : ∃ J, J = Txt.join "" ps := ⟨_, rfl⟩
  have sumL : (ps.map (·.length)).sum + ps.length * ("" : Str).length ≤ 16777216 := by
    rw [t1]
    obtain ⟨⟨s2, s3⟩, s4, s5⟩ := hs
    show 1 + (sc + (tl + 0)) + ps.length * 0 ≤ 16777216
    omega
  refine ⟨rfl, _, rfl, _, Pp, ps, rfl, rfl, .inl (SqL.of eP3), sumL, ?_⟩
  rw [← hJ] at t3 t4 t5 ⊢
  refine ⟨J, rfl, ?_⟩
  refine for_it (walk_str (z := J)) (fun j σ H9 => ∃ (y4 : Option V), σ = [some (.ref x), some (.str (spT sc tl v)), some (.ref Pp), some (.int (((J.cps.toList.take j).foldl (fun n c => 2 * n + (c - 48)) 0 : Nat) : Int)), y4, none] ∧ Same H3 H9) ⟨_, rfl, Same.refl _⟩ (fun _ _ _ _ _ => trivial) ?_ ?_
  · rintro j v' σ H9 H10 hj ⟨y4, rfl, s9⟩ ⟨rfl, c, hc, rfl⟩
    have hc' : J.cps.toList[j]? = some c := by rw [Array.getElem?_toList]; exact hc
    have hm := List.all_eq_true.mp t3 c (List.mem_of_getElem? hc')
    have h01 : c = 48 ∨ c = 49 := by simpa using hm
    dsimp only [gName]
    try simp only [L2.start, List.map_cons, List.map_nil, List.length_cons, List.length_nil, List.replicate_succ, List.replicate_zero, List.cons_append, List.nil_append, List.set_cons_succ, List.set_cons_zero, Nat.reduceAdd, Nat.reduceSub, Nat.zero_add]
    refine ⟨_, rfl, (by show 2 ≤ sizeLine; decide), fun T nT => ?_⟩
    have sT := same_upd (o := .tup [.str "0", .str "1"]) nT
    refine ⟨T, _, rfl, .inr (.inl (.inl upd_same)), rfl, rfl, _, rfl, iteN81 ?_ ?_⟩
    · rcases h01 with z | z <;> subst z <;> rfl
    try dsimp only [tNext]
    refine ⟨_, rfl, _, _, rfl, rfl, .inl ⟨by decide, by decide⟩, _, rfl, _, ((c - 48 : Nat) : Int), rfl, ?_, ?_, _, _, rfl, rfl, ?_⟩
    · rcases h01 with z | z <;> subst z <;> decide +kernel
    · show (1 : Nat) ≤ 640
      decide
    refine ⟨some (.str ⟨#[c]⟩), ?_, s9.trans sT⟩
    rw [List.take_add_one, hc', List.foldl_append]
    generalize (J.cps.toList.take j).foldl (fun n c => 2 * n + (c - 48)) 0 = W
    show [_, _, _, some (V.int (2 * (W : Int) + ((c - 48 : Nat) : Int))), _, _] = [_, _, _, some (V.int ((2 * W + (c - 48) : Nat) : Int)), _, _]
    rw [Int.natCast_add, Int.natCast_mul]
    rfl
  · rintro σ H9 ⟨y4, rfl, s9⟩
    rw [List.take_of_length_le (by rw [Array.length_toList]; exact Nat.le_refl _), t4]
    exact ⟨_, rfl, q _ (s03.trans s9)⟩
end
section
variable {P : Program} {w : World} {K : PySem.W.Frag} {mg : Str → Option Value} {base : Heap}
variable {C : Addr} {za : Nat → Addr} {zl : Nat → FuncData} {t26 t27 t28 : Tok}
def spSz (C : Addr) : Sp := fun vs H Q _ => ∃ (x : Addr) (sc tl : Nat) (v : Int), vs = [.ref x, .int v] ∧ FAt C H x sc tl ∧ ∀ H', Same H H' → Q (.int (sz sc tl v)) H'
theorem ok_size_of (B : Bl mg) (L : LL K mg C za zl t26 t27 t28) : FnOk P w K mg base CX0 3 (za 9) (zl 9) ["form", "word"] (spSz C) := by
  have G_Form_parts : FnOk P w K mg base CX0 2 (za 22) (zl 22) ["self", "word"] (spParts C) := (ok_Form_parts B L).mono (by decide)
  have G_Form_word_of : FnOk P w K mg base CX0 2 (za 23) (zl 23) ["self", "sign", "scale", "tail"] (spWordOf C) := (ok_Form_word_of B L).mono (by decide)
  refine L.F_size_of.ok sc_size_of (fun vs H Q E h => ?_) (fun cdv A outer s H vs Q E hr h => ?_)
  · obtain ⟨x, sc, tl, v, rfl, _⟩ := h
    rfl
  obtain ⟨x, sc, tl, v, rfl, hF, q⟩ := h
  obtain ⟨dx, hx, h1, h2, h3, h4⟩ := id hF
  refine ⟨_, (pss_cons (ps_asg (pe_meth (pv 0) L.T.cl L.M_Form_parts G_Form_parts hr L.b_Form_parts .nil pass0 (pa_cons (pv 1) pa_nil)) (pg_tup (by rfl) (pgs_cons (pg_name (i := 2) sc_size_of.nd rfl (.inl rfl)) (pgs_cons (pg_name (i := 3) sc_size_of.nd rfl (.inl rfl)) (pgs_cons (pg_name (i := 4) sc_size_of.nd rfl (.inl rfl)) pgs_nil)))))
    (pss_one (ps_ret (pe_meth (pv 0) L.T.cl L.M_Form_word_of G_Form_word_of hr L.b_Form_word_of .nil pass0 (pa_cons pe_int (pa_cons (pv 3) (pa_cons (pv 4) pa_nil))))))), ?_⟩
  refine ⟨_, rfl, x, dx, _, rfl, hx, rfl, _, rfl, x, sc, tl, v, rfl, hF, fun p np => ?_⟩
  have sp := same_upd (o := .tup [.int (GM.sgn sc tl v), .int (GM.scl sc tl v), .int (GM.tlp tl v)]) np
  refine ⟨p, _, rfl, .inl (.inl upd_same), rfl, _, _, rfl, _, _, rfl, _, _, rfl, rfl, ?_⟩
  have pT := GM.pow_pos' tl
  have pS := GM.pow_pos' sc
  refine ⟨_, rfl, x, dx, _, rfl, sp _ _ hx, rfl, _, rfl, _, rfl, x, sc, tl, 0, GM.scl sc tl v, GM.tlp tl v, rfl, hF.same sp, .inl rfl, Int.emod_nonneg _ (by omega), Int.emod_lt_of_pos _ pS, Int.emod_nonneg _ (by omega), Int.emod_lt_of_pos _ pT, ?_⟩
  rw [Int.zero_mul, Int.zero_add, GM.scl_tlp]
  exact q _ sp
def rnk (sc tl : Nat) (v : Int) : Int := if GM.sgn sc tl v = 1 then -(sz sc tl v) else sz sc tl v
def spRank83 (C : Addr) : Sp := fun vs H Q _ => ∃ (x : Addr) (sc tl : Nat) (v : Int), vs = [.ref x, .int v] ∧ FAt C H x sc tl ∧ ∀ H', Same H H' → Q (.int (rnk sc tl v)) H'
theorem ok_rank_of (B : Bl mg) (L : LL K mg C za zl t26 t27 t28) : FnOk P w K mg base CX0 4 (za 8) (zl 8) ["form", "word"] (spRank83 C) := by
  have G_size_of : FnOk P w K mg base CX0 3 (za 9) (zl 9) ["form", "word"] (spSz C) := (ok_size_of B L).mono (by decide)
  have G_Form_parts : FnOk P w K mg base CX0 3 (za 22) (zl 22) ["self", "word"] (spParts C) := (ok_Form_parts B L).mono (by decide)
  refine L.F_rank_of.ok sc_rank_of (fun vs H Q E h => ?_) (fun cdv A outer s H vs Q E hr h => ?_)
  · obtain ⟨x, sc, tl, v, rfl, _⟩ := h
    rfl
  obtain ⟨x, sc, tl, v, rfl, hF, q⟩ := h
  obtain ⟨dx, hx, h1, h2, h3, h4⟩ := id hF
  refine ⟨_, (pss_cons (ps_set (i := 2) sc_rank_of.nd rfl (.inl rfl) (pe_call G_size_of hr (by rfl) L.m_size_of L.F_size_of.kp L.b_size_of .nil pass0 (pa_cons (pv 0) (pa_cons (pv 1) pa_nil))))
    (pss_one (ps_ret (pe_ifExp (pt_cmpR op_eq (pe_ix ix_tup (pe_meth (pv 0) L.T.cl L.M_Form_parts G_Form_parts hr L.b_Form_parts .nil pass0 (pa_cons (pv 1) pa_nil)) pe_int (fun _ _ => rfl)) pe_int (nomark _)) (pe_un un_neg (pv 2)) (pv 2))))), ?_⟩
  refine ⟨_, rfl, _, rfl, x, sc, tl, v, rfl, hF, fun H1 s1 => ?_⟩
  show gName 2 _ _ _ _
  try simp only [L2.start, List.map_cons, List.map_nil, List.length_cons, List.length_nil, List.replicate_succ, List.replicate_zero, List.cons_append, List.nil_append, List.set_cons_succ, List.set_cons_zero, Nat.reduceAdd, Nat.reduceSub, Nat.zero_add]
  refine ⟨_, rfl, x, dx, _, rfl, s1 _ _ hx, rfl, _, rfl, x, sc, tl, v, rfl, hF.same s1, fun p np => ?_⟩
  have w := s1.trans (same_upd (o := .tup [.int (GM.sgn sc tl v), .int (GM.scl sc tl v), .int (GM.tlp tl v)]) np)
  refine ⟨p, _, _, _, rfl, rfl, SqT.of upd_same, rfl, rfl, _, rfl, ite2 (fun c => ?_) (fun c => ?_)⟩
  · have c1 : GM.sgn sc tl v = 1 := V.int.inj (of_decide_eq_true c)
    have r := q _ w
    unfold rnk at r
    rw [if_pos c1] at r
    exact ⟨_, rfl, _, rfl, r⟩
  · have c1 : ¬ GM.sgn sc tl v = 1 := fun z => c (decide_eq_true (congrArg V.int z))
    have r := q _ w
    unfold rnk at r
    rw [if_neg c1] at r
    exact ⟨_, rfl, r⟩
def tS (i : Int) : Str := Str.ofString (toString i)
def ah (sc tl : Nat) (v : Int) : Str := if GM.sgn sc tl v = 1 then "-" else ""
/-- the text of a word -/
theorem emp_app (a : Str) : Str.empty ++ a = a := by
  apply TL.ext_tl
  rw [TL.tl_append]
  rfl
theorem len_app (a b : Str) : (a ++ b).length = a.length + b.length := by
  have h : ∀ z : Str, z.length = (TL.tl z).length := fun z => (Array.length_toList (xs := z.cps)).symm
  rw [h, h a, h b, TL.tl_append, List.length_append]
theorem txt_len {i : Int} (h : i.natAbs < 2 ^ 25) : (tS i).length ≤ 100 := by
  have h1 : i.natAbs.log2 < 25 := by
    by_cases c : i.natAbs = 0
    · rw [c]; decide
    · exact (Nat.log2_lt c).mpr h
  have h2 := int_text_length_le (a := i) (k := 25) (by decide) h1
  have h3 : (tS i).length = (toString i).length := by
    show (Str.ofString (toString i)).cps.size = _
    rw [← Array.length_toList, signs_ofString, List.length_map]
    rfl
  omega
theorem log_small {i : Int} (h : i.natAbs < 2 ^ 100) : i.natAbs.log2 < 1920 := by
  by_cases c : i.natAbs = 0
  · rw [c]; decide
  · have := (Nat.log2_lt c).mpr h
    omega
def cmpT (sc tl : Nat) (a b : Int) : Str := if srt sc tl (sz sc tl a) = "none" ∨ srt sc tl (sz sc tl b) = "none" then "none" else if rnk sc tl a = rnk sc tl b then "same" else if rnk sc tl a < rnk sc tl b then "less" else "more"
def spCmp (C : Addr) : Sp := fun vs H Q _ => ∃ (x : Addr) (sc tl : Nat) (a b : Int), vs = [.ref x, .int a, .int b] ∧ FAt C H x sc tl ∧ ∀ H', Same H H' → Q (.str (cmpT sc tl a b)) H'
theorem ok_compared (B : Bl mg) (L : LL K mg C za zl t26 t27 t28) : FnOk P w K mg base CX0 5 (za 7) (zl 7) ["form", "a", "b"] (spCmp C) := by
  have G_rank_of : FnOk P w K mg base CX0 4 (za 8) (zl 8) ["form", "word"] (spRank83 C) := (ok_rank_of B L).mono (by decide)
  have G_Form_sort_of : FnOk P w K mg base CX0 4 (za 25) (zl 25) ["self", "word"] (spSort C) := (ok_Form_sort_of B L).mono (by decide)
  refine L.F_compared.ok sc_compared (fun vs H Q E h => ?_) (fun cdv A outer s H vs Q E hr h => ?_)
  · obtain ⟨x, sc, tl, a, b, rfl, _⟩ := h
    rfl
  obtain ⟨x, sc, tl, a, b, rfl, hF, q⟩ := h
  obtain ⟨dx, hx, h1, h2, h3, h4⟩ := id hF
  refine ⟨_, (pss_cons (ps_if (pt_cmpR op_in_seq pe_str (pe_tup (pa_cons (pe_meth (pv 0) L.T.cl L.M_Form_sort_of G_Form_sort_of hr L.b_Form_sort_of .nil pass0 (pa_cons (pv 1) pa_nil)) (pa_cons (pe_meth (pv 0) L.T.cl L.M_Form_sort_of G_Form_sort_of hr L.b_Form_sort_of .nil pass0 (pa_cons (pv 2) pa_nil)) pa_nil))) (by rfl)) (pss_one (ps_ret pe_str)) pss_nil)
    (pss_cons (ps_set (i := 3) sc_compared.nd rfl (.inl rfl) (pe_call G_rank_of hr (by rfl) L.m_rank_of L.F_rank_of.kp L.b_rank_of .nil pass0 (pa_cons (pv 0) (pa_cons (pv 1) pa_nil))))
    (pss_cons (ps_set (i := 4) sc_compared.nd rfl (.inl rfl) (pe_call G_rank_of hr (by rfl) L.m_rank_of L.F_rank_of.kp L.b_rank_of .nil pass0 (pa_cons (pv 0) (pa_cons (pv 2) pa_nil))))
    (pss_cons (ps_if (pt_cmpR op_eq (pv 3) (pv 4) (nomark _)) (pss_one (ps_ret pe_str)) pss_nil)
    (pss_one (ps_ret (pe_ifExp (pt_cmpR op_lt (pv 3) (pv 4) (nomark _)) pe_str pe_str))))))), ?_⟩
  refine ⟨_, rfl, x, dx, _, rfl, hx, rfl, _, rfl, x, sc, tl, a, rfl, hF, fun H1 s1 => ?_⟩
  refine ⟨_, rfl, x, dx, _, rfl, s1 _ _ hx, rfl, _, rfl, x, sc, tl, b, rfl, hF.same s1, fun H2 s2 => ?_⟩
  refine ⟨(by show 2 ≤ sizeLine; decide), fun U nU => ?_⟩
  have w2 := s1.trans (s2.trans (same_upd (o := .tup [.str (srt sc tl (sz sc tl a)), .str (srt sc tl (sz sc tl b))]) nU))
  have hin := in_two "none" (srt sc tl (sz sc tl a)) (srt sc tl (sz sc tl b))
  refine ⟨U, _, rfl, .inr (.inl (.inl upd_same)), rfl, rfl, ?_⟩
  rw [hin]
  generalize upd H2 U (.tup [.str (srt sc tl (sz sc tl a)), .str (srt sc tl (sz sc tl b))]) = H3 at *
  unfold cmpT at q
  refine ⟨_, rfl, ite2 (fun c => ?_) (fun c => ?_)⟩
  · rw [if_pos (of_decide_eq_true c)] at q
    exact q _ w2
  rw [if_neg (fun z => c (decide_eq_true z))] at q
  dsimp only [tNext]
  refine ⟨_, rfl, _, rfl, x, sc, tl, a, rfl, hF.same w2, fun H4 s4 => ?_⟩
  show gName 3 _ _ _ _
  try simp only [L2.start, List.map_cons, List.map_nil, List.length_cons, List.length_nil, List.replicate_succ, List.replicate_zero, List.cons_append, List.nil_append, List.set_cons_succ, List.set_cons_zero, Nat.reduceAdd, Nat.reduceSub, Nat.zero_add]
  refine ⟨_, rfl, _, rfl, x, sc, tl, b, rfl, (hF.same w2).same s4, fun H5 s5 => ?_⟩
  have w5 := w2.trans (s4.trans s5)
  refine gset_if2 ?_
  try simp only [L2.start, List.map_cons, List.map_nil, List.length_cons, List.length_nil, List.replicate_succ, List.replicate_zero, List.cons_append, List.nil_append, List.set_cons_succ, List.set_cons_zero, Nat.reduceAdd, Nat.reduceSub, Nat.zero_add]
  refine ⟨_, rfl, _, rfl, rfl, _, rfl, ite2 (fun c => ?_) (fun c => ?_)⟩
  · have c1 : rnk sc tl a = rnk sc tl b := V.int.inj (of_decide_eq_true c)
    have r := q _ w5
    rw [if_pos c1] at r
    exact r
  · have c1 : ¬ rnk sc tl a = rnk sc tl b := fun z => c (decide_eq_true (congrArg V.int z))
    have r := q _ w5
    rw [if_neg c1] at r
    dsimp only [tNext]
    refine ⟨_, rfl, _, rfl, _, _, rfl, rfl, _, rfl, ite2 (fun d => ?_) (fun d => ?_)⟩
    · rw [if_pos (of_decide_eq_true d)] at r
      exact r
    · rw [if_neg (fun z => d (decide_eq_true z))] at r
      exact r
/-! ### worth_text -/
def odF : Nat → Int → Int → Int × Int
  | 0, n, p => (n, p)
  | k + 1, n, p => if n % 2 = 0 then odF k (n / 2) (p + 1) else (n, p)
def wtx (sc tl : Nat) (v : Int) : Str := if srt sc tl (sz sc tl v) = "none" then "none" else if srt sc tl (sz sc tl v) = "endless" then Str.empty ++ ah sc tl v ++ "endless" else if srt sc tl (sz sc tl v) = "nought" then Str.empty ++ ah sc tl v ++ "0" else
  Str.empty ++ tS (odF 6 (wn sc tl v) (wp sc tl v)).1 ++ "*2^" ++ tS (odF 6 (wn sc tl v) (wp sc tl v)).2
theorem w_small : ∀ {sc tl : Nat}, SF sc tl → ∀ {v : Nat}, v < 2 ^ (1 + sc + tl) → (wn sc tl v).natAbs < 2 ^ 6 ∧ (wp sc tl v).natAbs < 100 ∧ (sz sc tl v = 0 ∨ wn sc tl v ≠ 0) := fun {sc tl} s {v} hv =>
  SF.all (P := fun sc tl v => (wn sc tl v).natAbs < 2 ^ 6 ∧ (wp sc tl v).natAbs < 100 ∧ (sz sc tl v = 0 ∨ wn sc tl v ≠ 0)) (by decide +kernel) s hv
def spWtx (C : Addr) : Sp := fun vs H Q _ => ∃ (x : Addr) (sc tl v : Nat), vs = [.ref x, .int (v : Int)] ∧ FAt C H x sc tl ∧ SF sc tl ∧ v < 2 ^ (1 + sc + tl) ∧ ∀ H', Same H H' → Q (.str (wtx sc tl v)) H'
theorem ok_worth_text (B : Bl mg) (L : LL K mg C za zl t26 t27 t28) : FnOk P w K mg base CX0 5 (za 6) (zl 6) ["form", "word"] (spWtx C) := by
  have G_Form_sort_of : FnOk P w K mg base CX0 4 (za 25) (zl 25) ["self", "word"] (spSort C) := (ok_Form_sort_of B L).mono (by decide)
  have G_Form_worth : FnOk P w K mg base CX0 4 (za 30) (zl 30) ["self", "word"] (spWorth C) := (ok_Form_worth B L).mono (by decide)
  have G_Form_parts : FnOk P w K mg base CX0 4 (za 22) (zl 22) ["self", "word"] (spParts C) := (ok_Form_parts B L).mono (by decide)
  refine L.F_worth_text.ok sc_worth_text (fun vs H Q E h => ?_) (fun cdv A outer s H vs Q E hr h => ?_)
  · obtain ⟨x, sc, tl, v, rfl, _⟩ := h
    rfl
  obtain ⟨x, sc, tl, v, rfl, hF, hsf, hv, q⟩ := h
  obtain ⟨dx, hx, h1, h2, h3, h4⟩ := id hF
  obtain ⟨b1, b2, b3⟩ := w_small hsf hv
  unfold wtx at q
  refine ⟨_, (pss_cons (ps_set (i := 2) sc_worth_text.nd rfl (.inl rfl) (pe_meth (pv 0) L.T.cl L.M_Form_sort_of G_Form_sort_of hr L.b_Form_sort_of .nil pass0 (pa_cons (pv 1) pa_nil)))
    (pss_cons (ps_if (pt_cmpR op_eq (pv 2) pe_str (nomark _)) (pss_one (ps_ret pe_str)) pss_nil)
    (pss_cons (ps_set (i := 3) sc_worth_text.nd rfl (.inl rfl) (pe_ifExp (pt_cmpR op_eq (pe_ix ix_tup (pe_meth (pv 0) L.T.cl L.M_Form_parts G_Form_parts hr L.b_Form_parts .nil pass0 (pa_cons (pv 1) pa_nil)) pe_int (fun _ _ => rfl)) pe_int (nomark _)) pe_str pe_str))
    (pss_cons (ps_if (pt_cmpR op_eq (pv 2) pe_str (nomark _)) (pss_one (ps_ret (pe_joined (.cons (pe_fmt (pv 3)) (.cons pe_str .nil))))) pss_nil)
    (pss_cons (ps_if (pt_cmpR op_eq (pv 2) pe_str (nomark _)) (pss_one (ps_ret (pe_joined (.cons (pe_fmt (pv 3)) (.cons pe_str .nil))))) pss_nil)
    (pss_cons (ps_asg (pe_meth (pv 0) L.T.cl L.M_Form_worth G_Form_worth hr L.b_Form_worth .nil pass0 (pa_cons (pv 1) pa_nil)) (pg_tup (by rfl) (pgs_cons (pg_name (i := 4) sc_worth_text.nd rfl (.inl rfl)) (pgs_cons (pg_name (i := 5) sc_worth_text.nd rfl (.inl rfl)) pgs_nil))))
    (pss_cons (ps_while PassesOwn.never (pt_cmpR op_eq (pe_op op_mod (pv 4) pe_int) pe_int (nomark _)) (pss_cons (ps_aug (i := 4) sc_worth_text.nd rfl (.inl rfl) pe_int iop_fdiv)
    (pss_one (ps_aug (i := 5) sc_worth_text.nd rfl (.inl rfl) pe_int iop_add))))
    (pss_one (ps_ret (pe_joined (.cons (pe_fmt (pv 4)) (.cons pe_str (.cons (pe_fmt (pv 5)) .nil))))))))))))), ?_⟩
  refine ⟨_, rfl, x, dx, _, rfl, hx, rfl, _, rfl, x, sc, tl, v, rfl, hF, fun H1 s1 => ?_⟩
  refine ⟨_, rfl, rfl, _, rfl, ite2 (fun c => ?_) (fun c => ?_)⟩
  · rw [if_pos (V.str.inj (of_decide_eq_true c))] at q
    exact q _ s1
  rw [if_neg (fun z => c (decide_eq_true (by rw [z])))] at q
  try dsimp only [tNext, tSeq, tAsg]
  refine if_ev (fun z H' => z = .str (ah sc tl v) ∧ Same H H') (fun Q' q' => ?_) ?_
  · refine ⟨_, rfl, x, dx, _, rfl, s1 _ _ hx, rfl, _, rfl, x, sc, tl, v, rfl, hF.same s1, fun p np => ?_⟩
    have sp := same_upd (o := .tup [.int (GM.sgn sc tl v), .int (GM.scl sc tl v), .int (GM.tlp tl v)]) np
    refine ⟨p, _, _, _, rfl, rfl, .inl (.inl upd_same), rfl, rfl, _, rfl, ite2 (fun d => ?_) (fun d => ?_)⟩
    · have d1 : GM.sgn sc tl v = 1 := V.int.inj (of_decide_eq_true d)
      exact q' _ _ ⟨congrArg V.str (if_pos d1).symm, s1.trans sp⟩
    · have d1 : ¬ GM.sgn sc tl v = 1 := fun z => d (decide_eq_true (by rw [z]))
      exact q' _ _ ⟨congrArg V.str (if_neg d1).symm, s1.trans sp⟩
  rintro z H2 ⟨rfl, s2⟩
  have al : (ah sc tl v).length ≤ 1 := by
    unfold ah
    split <;> decide
  have l0 : Str.empty.length = 0 := rfl
  have big : ∀ {z : Nat}, z ≤ 300 → z ≤ sizeLine := fun h => Nat.le_trans h (by decide)
  refine ⟨_, rfl, rfl, _, rfl, ite2 (fun d => ?_) (fun d => ?_)⟩
  · rw [if_pos (V.str.inj (of_decide_eq_true d))] at q
    refine ⟨_, rfl, .inl ⟨_, rfl, big (by omega), _, rfl, big ?_, _, rfl, big ?_, q _ s2⟩⟩
    · rw [len_app]
      omega
    · rw [len_app, len_app]
      have : ("endless" : Str).length = 7 := rfl
      omega
  have d' : ¬ srt sc tl (sz sc tl v) = "endless" := fun z => d (decide_eq_true (by rw [z]))
  rw [if_neg d'] at q
  have dt : ¬ GM.topS sc tl ≤ sz sc tl v := fun z => by
    have c' : ¬ srt sc tl (sz sc tl v) = "none" := fun z => c (decide_eq_true (by rw [z]))
    unfold srt at c' d'
    rw [if_pos z] at c' d'
    by_cases e : sz sc tl v = GM.topS sc tl
    · exact d' (if_pos e)
    · exact c' (if_neg e)
  refine ⟨_, rfl, rfl, _, rfl, ite2 (fun f => ?_) (fun f => ?_)⟩
  · rw [if_pos (V.str.inj (of_decide_eq_true f))] at q
    refine ⟨_, rfl, .inl ⟨_, rfl, big (by omega), _, rfl, big ?_, _, rfl, big ?_, q _ s2⟩⟩
    · rw [len_app]
      omega
    · rw [len_app, len_app]
      have : ("0" : Str).length = 1 := rfl
      omega
  have f' : ¬ srt sc tl (sz sc tl v) = "nought" := fun z => f (decide_eq_true (by rw [z]))
  rw [if_neg f'] at q
  have wn0 : wn sc tl v ≠ 0 := by
    rcases b3 with z | z
    · exfalso
      apply f'
      unfold srt
      rw [if_neg dt, if_pos z]
    · exact z
  refine ⟨_, rfl, x, dx, _, rfl, s2 _ _ hx, rfl, _, rfl, x, sc, tl, v, rfl, hF.same s2, fun _ _ z => absurd z dt, fun H3 p s3 _ ep => ?_⟩
  refine ⟨p, _, rfl, .inl (.inl ep), rfl, _, _, rfl, _, _, rfl, rfl, ?_⟩
  have q3 := q H3 (s2.trans s3)
  refine while_by (fun σ H4 => ∃ (k : Nat) (n p' : Int), σ = [some (.ref x), some (.int v), some (.str (srt sc tl (sz sc tl v))), some (.str (ah sc tl v)), some (.int n), some (.int p')] ∧ H4 = H3 ∧ n ≠ 0 ∧ n.natAbs < 2 ^ k ∧ k ≤ 6 ∧ p'.natAbs ≤ 100 + (6 - k) ∧ odF 6 (wn sc tl v) (wp sc tl v) = odF k n p')
    (fun (σ : L2.St) (_ : Hp) => match σ[4]? with | some (some (V.int n)) => n.natAbs | _ => 0) ⟨6, _, _, rfl, rfl, wn0, b1, Nat.le_refl _, by omega, rfl⟩ ?_ ?_
  · rintro σ H4 ⟨k, n, p', rfl, rfl, n0, nk, k6, pb, hod⟩
    refine ⟨_, rfl, _, _, rfl, rfl, (by show (0 : Int) < 2; decide), rfl, _, rfl, ite2 (fun g => ?_) (fun g => ?_)⟩
    · have g1 : n % 2 = 0 := V.int.inj (of_decide_eq_true g)
      obtain ⟨j, rfl⟩ : ∃ j, k = j + 1 := ⟨k - 1, by
        have : k ≠ 0 := fun z => by
          rw [z] at nk
          omega
        omega⟩
      rw [Nat.pow_succ] at nk
      refine ⟨_, rfl, _, _, rfl, rfl, ⟨by decide, by decide⟩, _, rfl, _, _, rfl, rfl, ⟨j, _, _, rfl, rfl, by omega, by omega, by omega, by omega, ?_⟩, ?_⟩
      · rw [hod]
        show (if n % 2 = 0 then _ else _) = _
        rw [if_pos g1]
      · show (n / 2).natAbs < n.natAbs
        omega
    · have g1 : ¬ n % 2 = 0 := fun z => g (decide_eq_true (show V.int (n % 2) = V.int 0 by rw [z]))
      have eo : odF k n p' = (n, p') := by
        cases k with
        | zero => rfl
        | succ j => exact if_neg g1
      rw [hod, eo] at q3
      have n64 : n.natAbs < 2 ^ 25 := Nat.lt_of_lt_of_le nk (Nat.pow_le_pow_right (by decide) (by omega))
      have ln : n.natAbs.log2 < 1920 := log_small (Nat.lt_of_lt_of_le n64 (by decide))
      have lp : p'.natAbs.log2 < 1920 := log_small (Nat.lt_of_lt_of_le (show p'.natAbs < 2 ^ 25 by omega) (by decide))
      have tn : (tS n).length ≤ 100 := txt_len n64
      have tp : (tS p').length ≤ 100 := txt_len (show p'.natAbs < 2 ^ 25 by omega)
      have ls : ("*2^" : Str).length = 3 := rfl
      refine ⟨_, rfl, .inr ⟨n, rfl, ln, _, rfl, big ?_, _, rfl, big ?_, _, rfl, .inr ⟨p', rfl, lp, _, rfl, big ?_, q3⟩⟩⟩
      · rw [len_app]
        have h : (Str.ofString (toString n)).length ≤ 100 := tn
        omega
      · rw [len_app, len_app]
        have h : (Str.ofString (toString n)).length ≤ 100 := tn
        omega
      · rw [len_app, len_app, len_app]
        have h : (Str.ofString (toString n)).length ≤ 100 := tn
        have h' : (Str.ofString (toString p')).length ≤ 100 := tp
        omega
  · rintro σ H4 Q1 Q2 hq ⟨a, ha, i, j, e1, e2, hc, hs, k, hk, q⟩
    exact ⟨a, ha, i, j, e1, e2, hc, hs, k, hk, hq _ _ q⟩
end
section
variable {P : Program} {w : World} {K : PySem.W.Frag} {mg : Str → Option Value} {base : Heap}
variable {C : Addr} {za : Nat → Addr} {zl : Nat → FuncData} {t26 t27 t28 : Tok}
/-! ### the law's own places -/
def pl (sc tl : Nat) (v : Nat) : Option Int := if srt sc tl (sz sc tl v) = "none" then none else if (v : Int) ≠ sz sc tl v then some (0 - sz sc tl v) else some (sz sc tl v)
def oV : Option Int → V
  | none => .non
  | some i => .int i
def spPlace (C : Addr) : Sp := fun vs H Q _ => ∃ (x : Addr) (sc tl v : Nat), vs = [.ref x, .int (v : Int)] ∧ FAt C H x sc tl ∧ ∀ H', Same H H' → Q (oV (pl sc tl v)) H'
theorem ok__law_place (B : Bl mg) (L : LL K mg C za zl t26 t27 t28) : FnOk P w K mg base CX0 4 (za 15) (zl 15) ["_law_form", "_law_word"] (spPlace C) := by
  have G_Form_width : FnOk P w K mg base CX0 3 (za 19) (zl 19) ["self"] (spWidth C) := (ok_Form_width B L).mono (by decide)
  have G_Form_sort_of : FnOk P w K mg base CX0 3 (za 25) (zl 25) ["self", "word"] (spSort C) := (ok_Form_sort_of B L).mono (by decide)
  refine L.F__law_place.ok sc__law_place (fun vs H Q E h => ?_) (fun cdv A outer s H vs Q E hr h => ?_)
  · obtain ⟨x, sc, tl, v, rfl, _⟩ := h
    rfl
  obtain ⟨x, sc, tl, v, rfl, hF, q⟩ := h
  obtain ⟨dx, hx, h1, h2, h3, h4⟩ := id hF
  refine ⟨_, (pss_cons (ps_set (i := 2) sc__law_place.nd rfl (.inl rfl) (pe_op op_andM (pv 1) (pe_op op_sub (pe_op op_oneShl pe_int (pe_op op_sub (pe_meth0 (pv 0) L.T.cl L.M_Form_width G_Form_width hr L.b_Form_width .nil pass0) pe_int)) pe_int)))
    (pss_cons (ps_if (pt_cmpR op_eq (pe_meth (pv 0) L.T.cl L.M_Form_sort_of G_Form_sort_of hr L.b_Form_sort_of .nil pass0 (pa_cons (pv 1) pa_nil)) pe_str (nomark _)) (pss_one (ps_ret pe_non)) pss_nil)
    (pss_one (ps_ret (pe_ifExp (pt_cmpR op_ne (pv 1) (pv 2) (nomark _)) (pe_op op_sub pe_int (pv 2)) (pv 2)))))), ?_⟩
  refine ⟨_, rfl, _, rfl, x, dx, _, rfl, hx, rfl, x, sc, tl, rfl, hF, _, _, rfl, rfl, sc + tl, rfl, congrArg V.int (by omega), by omega, _, _, rfl, rfl, _, sc + tl, rfl, rfl, ?_⟩
  try dsimp only [gName]
  try simp only [L2.start, List.map_cons, List.map_nil, List.length_cons, List.length_nil, List.replicate_succ, List.replicate_zero, List.cons_append, List.nil_append, List.set_cons_succ, List.set_cons_zero, Nat.reduceAdd, Nat.reduceSub, Nat.zero_add]
  unfold pl at q
  refine ⟨_, rfl, x, dx, _, rfl, hx, rfl, _, rfl, x, sc, tl, v, rfl, hF, fun H1 s1 => ?_⟩
  refine ⟨rfl, _, rfl, ite2 (fun c => ?_) (fun c => ?_)⟩
  · rw [if_pos (V.str.inj (of_decide_eq_true c))] at q
    exact q _ s1
  rw [if_neg (fun z => c (decide_eq_true (by rw [z])))] at q
  try dsimp only [tNext]
  refine ⟨_, rfl, _, rfl, rfl, _, rfl, ite2 (fun d => ?_) (fun d => ?_)⟩
  · have d1 : (v : Int) ≠ sz sc tl v := fun z => by
      rw [show (decide (V.int (v : Int) = V.int ((v : Int) % 2 ^ (sc + tl)))) = true from decide_eq_true (congrArg V.int z)] at d
      cases d
    rw [if_pos d1] at q
    exact ⟨_, rfl, _, _, rfl, rfl, q _ s1⟩
  · have d1 : ¬ (v : Int) ≠ sz sc tl v := fun z => d (by
      rw [show (decide (V.int (v : Int) = V.int ((v : Int) % 2 ^ (sc + tl)))) = false from decide_eq_false (fun y => z (V.int.inj y))]
      rfl)
    rw [if_neg d1] at q
    exact ⟨_, rfl, q _ s1⟩
def dueT : Option Int → Option Int → Str
  | some i, some j => if i = j then "same" else if i < j then "less" else "more"
  | _, _ => "none"
def d0 : Option Int → Option Int → Str
  | some _, some _ => "same"
  | _, _ => "none"
theorem iteY81 {c : Bool} {A B : Prop} (h : c = true) (b : A) : (if c = true then A else B) := by
  rw [h]
  exact b
theorem pairs_fin : ∀ f ∈ [(2, 1), (2, 2), (2, 3), (3, 1), (3, 2)], ((List.range (2 ^ (1 + f.1 + f.2))).all fun a => (List.range (2 ^ (1 + f.1 + f.2))).all fun b => decide (cmpT f.1 f.2 (a : Int) (b : Int) = dueT (pl f.1 f.2 a) (pl f.1 f.2 b))) = true := by decide +kernel
theorem pairs_ok {sc tl : Nat} (h : SF sc tl) {a b : Nat} (ha : a < 2 ^ (1 + sc + tl)) (hb : b < 2 ^ (1 + sc + tl)) : cmpT sc tl a b = dueT (pl sc tl a) (pl sc tl b) :=
  of_decide_eq_true (List.all_eq_true.mp (List.all_eq_true.mp (pairs_fin (sc, tl) h.in) a (List.mem_range.mpr ha)) b (List.mem_range.mpr hb))
def WdAt (K : PySem.W.Frag) (H : Hp) (t : Addr) (N : Nat) : Prop := SqL K H t ((List.range N).map fun (i : Nat) => V.int (i : Int))
theorem wd_at {N j : Nat} {v : V} (hj : j < N) (h : ((List.range N).map fun (i : Nat) => V.int (i : Int))[j]? = some v) : v = .int (j : Int) := by
  rw [List.getElem?_map, List.getElem?_range hj] at h
  exact (Option.some.inj h).symm
def spPairs (K : PySem.W.Frag) (C : Addr) : Sp := fun vs H Q _ => ∃ (x t : Addr) (sc tl : Nat), vs = [.ref x, .ref t] ∧ FAt C H x sc tl ∧ SF sc tl ∧ WdAt K H t (2 ^ (1 + sc + tl)) ∧ ∀ H', Same H H' → Q (.bl true) H'
theorem ok__law_pairs_right (B : Bl mg) (L : LL K mg C za zl t26 t27 t28) : FnOk P w K mg base CX0 6 (za 16) (zl 16) ["_law_form", "_law_words"] (spPairs K C) := by
  have G__law_place : FnOk P w K mg base CX0 5 (za 15) (zl 15) ["_law_form", "_law_word"] (spPlace C) := (ok__law_place B L).mono (by decide)
  have G_compared : FnOk P w K mg base CX0 5 (za 7) (zl 7) ["form", "a", "b"] (spCmp C) := (ok_compared B L).mono (by decide)
  refine L.F__law_pairs_right.ok sc__law_pairs_right (fun vs H Q E h => ?_) (fun cdv A outer s H vs Q E hr h => ?_)
  · obtain ⟨x, t, sc, tl, rfl, _⟩ := h
    rfl
  obtain ⟨x, t, sc, tl, rfl, hF, hs, hW, q⟩ := h
  obtain ⟨N, hN⟩ : ∃ N, N = 2 ^ (1 + sc + tl) := ⟨_, rfl⟩
  have ln : ((List.range N).map fun (i : Nat) => V.int (i : Int)).length = N := by rw [List.length_map, List.length_range]
  rw [← hN] at hW
  refine ⟨_, (pss_cons (ps_for PassesOwn.never rfl (pi_list (pv 1)) (pg_name (i := 2) sc__law_pairs_right.nd rfl (.inl rfl)) (pss_cons (ps_set (i := 3) sc__law_pairs_right.nd rfl (.inl rfl) (pe_call G__law_place hr (by rfl) L.m__law_place L.F__law_place.kp L.b__law_place .nil pass0 (pa_cons (pv 0) (pa_cons (pv 2) pa_nil))))
    (pss_one (ps_for PassesOwn.never rfl (pi_list (pv 1)) (pg_name (i := 4) sc__law_pairs_right.nd rfl (.inl rfl)) (pss_cons (ps_set (i := 5) sc__law_pairs_right.nd rfl (.inl rfl) (pe_call G__law_place hr (by rfl) L.m__law_place L.F__law_place.kp L.b__law_place .nil pass0 (pa_cons (pv 0) (pa_cons (pv 4) pa_nil))))
    (pss_cons (ps_set (i := 6) sc__law_pairs_right.nd rfl (.inl rfl) (pe_ifExp (PW.pt (pw_or (pt_cmpR op_isN (pv 3) pe_non (nomark _)) (pw_or1 (pt_cmpR op_isN (pv 5) pe_non (nomark _))))) pe_str pe_str))
    (pss_cons (ps_if (PW.pt (pw_and (pt_cmpR op_eq (pv 6) pe_str (nomark _)) (pw_and1 (pt_cmpR op_ne (pv 3) (pv 5) (nomark _))))) (pss_one (ps_set (i := 6) sc__law_pairs_right.nd rfl (.inl rfl) (pe_ifExp (pt_cmpR op_lt (pv 3) (pv 5) (nomark _)) pe_str pe_str))) pss_nil)
    (pss_one (ps_if (pt_cmpR op_ne (pe_call G_compared hr (by rfl) L.m_compared L.F_compared.kp L.b_compared .nil pass0 (pa_cons (pv 0) (pa_cons (pv 2) (pa_cons (pv 4) pa_nil)))) (pv 6) (nomark _)) (pss_one (ps_ret pe_bl)) pss_nil)))))))))
    (pss_one (ps_ret pe_bl))), ?_⟩
  refine ⟨_, rfl, t, rfl, ⟨_, hW⟩, ?_⟩
  refine for_it (walk_list (K := K) (a := t) (xs := (List.range N).map fun (i : Nat) => V.int (i : Int))) (fun j σ H9 => ∃ (y2 y3 y4 y5 y6 : Option V), σ = [some (.ref x), some (.ref t), y2, y3, y4, y5, y6] ∧ Same H H9) ⟨_, _, _, _, _, rfl, Same.refl _⟩ (fun j σ H9 _ ⟨_, _, _, _, _, _, s9⟩ => s9.seq hW) ?_ ?_
  · rintro j v σ H10 H9 hj ⟨y2, y3, y4, y5, y6, rfl, s9⟩ ⟨rfl, hz⟩
    rw [ln] at hj
    have ev := wd_at hj hz
    subst ev
    dsimp only [gName]
    try simp only [L2.start, List.map_cons, List.map_nil, List.length_cons, List.length_nil, List.replicate_succ, List.replicate_zero, List.cons_append, List.nil_append, List.set_cons_succ, List.set_cons_zero, Nat.reduceAdd, Nat.reduceSub, Nat.zero_add]
    refine ⟨_, rfl, _, rfl, x, sc, tl, j, rfl, hF.same s9, fun H1 s1 => ?_⟩
    try dsimp only [gName]
    try simp only [L2.start, List.map_cons, List.map_nil, List.length_cons, List.length_nil, List.replicate_succ, List.replicate_zero, List.cons_append, List.nil_append, List.set_cons_succ, List.set_cons_zero, Nat.reduceAdd, Nat.reduceSub, Nat.zero_add]
    refine ⟨_, rfl, t, rfl, ⟨_, (s9.trans s1).seq hW⟩, ?_⟩
    refine for_it (walk_list (K := K) (a := t) (xs := (List.range N).map fun (i : Nat) => V.int (i : Int))) (fun k σ H8 => ∃ (y4 y5 y6 : Option V), σ = [some (.ref x), some (.ref t), some (.int (j : Int)), some (oV (pl sc tl j)), y4, y5, y6] ∧ Same H H8) ⟨_, _, _, rfl, s9.trans s1⟩ (fun k σ H8 _ ⟨_, _, _, _, s8⟩ => s8.seq hW) ?_ ?_
    · rintro k v σ H7 H8 hk ⟨z4, z5, z6, rfl, s8⟩ ⟨rfl, hz'⟩
      rw [ln] at hk
      have ev := wd_at hk hz'
      subst ev
      have hp := pairs_ok hs (a := j) (b := k) (by omega) (by omega)
      dsimp only [gName]
      try simp only [L2.start, List.map_cons, List.map_nil, List.length_cons, List.length_nil, List.replicate_succ, List.replicate_zero, List.cons_append, List.nil_append, List.set_cons_succ, List.set_cons_zero, Nat.reduceAdd, Nat.reduceSub, Nat.zero_add]
      refine ⟨_, rfl, _, rfl, x, sc, tl, k, rfl, hF.same s8, fun H2 s2 => ?_⟩
      have s82 := s8.trans s2
      try dsimp only [gName]
      try simp only [L2.start, List.map_cons, List.map_nil, List.length_cons, List.length_nil, List.replicate_succ, List.replicate_zero, List.cons_append, List.nil_append, List.set_cons_succ, List.set_cons_zero, Nat.reduceAdd, Nat.reduceSub, Nat.zero_add]
      generalize pl sc tl j = A at hp ⊢
      generalize pl sc tl k = B at hp ⊢
      refine gset_if (ifS_cut (fun σ' H' => σ' = [some (.ref x), some (.ref t), some (.int (j : Int)), some (oV A), some (.int (k : Int)), some (oV B), some (.str (d0 A B))] ∧ H' = H2) (fun D' q' => ?_) ?_)
      · cases A with
        | none => exact ⟨_, rfl, rfl, _, rfl, iteY81 (by rfl) (q' _ _ ⟨rfl, rfl⟩)⟩
        | some a =>
          refine ⟨_, rfl, rfl, _, rfl, iteN81 (by rfl) ?_⟩
          cases B with
          | none => exact ⟨_, rfl, rfl, _, rfl, iteY81 (by rfl) (q' _ _ ⟨rfl, rfl⟩)⟩
          | some b => exact ⟨_, rfl, rfl, _, rfl, iteN81 (by rfl) (q' _ _ ⟨rfl, rfl⟩)⟩
      rintro σ' H' ⟨rfl, rfl⟩
      dsimp only
      refine gset_if (ifS_cut (fun σ' H'' => σ' = [some (.ref x), some (.ref t), some (.int (j : Int)), some (oV A), some (.int (k : Int)), some (oV B), some (.str (dueT A B))] ∧ H'' = H') (fun D' q' => ?_) ?_)
      · cases A with
        | none => exact ⟨_, rfl, rfl, _, rfl, iteN81 (show decide (V.str "none" = V.str "same") = false by decide) (iteF (q' _ _ ⟨rfl, rfl⟩))⟩
        | some a =>
          cases B with
          | none => exact ⟨_, rfl, rfl, _, rfl, iteN81 (show decide (V.str "none" = V.str "same") = false by decide) (iteF (q' _ _ ⟨rfl, rfl⟩))⟩
          | some b =>
            refine ⟨_, rfl, rfl, _, rfl, iteY81 (show decide (V.str "same" = V.str "same") = true by decide) ?_⟩
            by_cases e : a = b
            · have ed : dueT (some a) (some b) = "same" := if_pos e
              rw [ed] at q'
              exact ⟨_, rfl, _, rfl, rfl, _, rfl, iteN81 (by rw [e]; simp) (q' _ _ ⟨rfl, rfl⟩)⟩
            · refine ⟨_, rfl, _, rfl, rfl, _, rfl, iteY81 (show (!decide (V.int a = V.int b)) = true by simp [e]) ?_⟩
              refine ⟨_, rfl, _, rfl, _, _, rfl, rfl, _, rfl, ite2 (fun d => ?_) (fun d => ?_)⟩
              · have ed : dueT (some a) (some b) = "less" := (if_neg e).trans (if_pos (of_decide_eq_true d))
                rw [ed] at q'
                exact q' _ _ ⟨rfl, rfl⟩
              · have ed : dueT (some a) (some b) = "more" := (if_neg e).trans (if_neg (fun z => d (decide_eq_true z)))
                rw [ed] at q'
                exact q' _ _ ⟨rfl, rfl⟩
      rintro σ' H'' ⟨rfl, rfl⟩
      refine ⟨_, rfl, _, rfl, _, rfl, x, sc, tl, _, _, rfl, hF.same s82, fun H3 s3 => ?_⟩
      rw [hp]
      refine ⟨_, rfl, rfl, _, rfl, iteN81 (by simp) ?_⟩
      try dsimp only [tNext]
      exact ⟨_, _, _, rfl, s82.trans s3⟩
    · rintro σ H8 ⟨_, _, _, rfl, s8⟩
      exact ⟨_, _, _, _, _, rfl, s8⟩
  · rintro σ H9 ⟨_, _, _, _, _, rfl, s9⟩
    exact q _ s9
end
section
variable {P : Program} {w : World} {K : PySem.W.Frag} {mg : Str → Option Value} {base : Heap}
variable {C : Addr} {za : Nat → Addr} {zl : Nat → FuncData} {t26 t27 t28 : Tok}
theorem units1 {k : Nat} {A : Around} (r : Room k A) : A.units + 1 < cLine := by have := r.un; omega
theorem valV_out {kvs : List (Key × V)} {k : Key} (h : k ∉ kvs.map (·.1)) : valV kvs k = none := by
  have e := valV_any k kvs
  cases q : valV kvs k with
  | none => rfl
  | some v =>
    rw [q] at e
    obtain ⟨x, hx, hd⟩ := List.any_eq_true.mp e
    exact absurd (List.mem_map.mpr ⟨x, hx, of_decide_eq_true hd⟩) h
theorem mergeK_nodup : ∀ (kvs acc : List (Key × V)), ((acc ++ kvs).map (·.1)).Nodup → mergeK acc kvs = acc ++ kvs
  | [], acc, _ => (List.append_nil _).symm
  | (k, v) :: kvs, acc, h => by
    have e : putK acc k v = acc ++ [(k, v)] := putK_new _ (valV_out (fun z => by
      rw [List.map_append, List.map_cons, List.nodup_append] at h
      exact h.2.2 k z k (by simp) rfl))
    show mergeK (putK acc k v) kvs = _
    rw [e, mergeK_nodup kvs (acc ++ [(k, v)]) (by rw [List.append_assoc]; exact h), List.append_assoc]
    rfl
/-! ### how many of each sort -/
def getI (kv : List (Key × V)) (k : Key) : Int := match valV kv k with
  | some (.int n) => n
  | _ => 0
def kvI : List (Key × V) := [(.inr "nought", .int 0), (.inr "small", .int 0), (.inr "plain", .int 0), (.inr "endless", .int 0), (.inr "none", .int 0)]
def kvF (sc tl j : Nat) : List (Key × V) := (List.range j).foldl (fun kv (i : Nat) => putK kv (.inr (srt sc tl (sz sc tl i))) (.int (getI kv (.inr (srt sc tl (sz sc tl i))) + 1))) kvI
def dueK (sc tl : Nat) : List (Key × V) := [(.inr "nought", .int 2), (.inr "small", .int (2 * 2 ^ tl - 2)), (.inr "plain", .int (2 * 2 ^ tl * (2 ^ sc - 2))), (.inr "endless", .int 2), (.inr "none", .int (2 * 2 ^ tl - 2))]
theorem kvF_step (sc tl j : Nat) : kvF sc tl (j + 1) = putK (kvF sc tl j) (.inr (srt sc tl (sz sc tl j))) (.int (getI (kvF sc tl j) (.inr (srt sc tl (sz sc tl j))) + 1)) := by
  unfold kvF
  rw [List.range_succ, List.foldl_append]
  rfl
theorem sorts_step : ∀ {sc tl : Nat}, SF sc tl → ∀ {v : Nat}, v < 2 ^ (1 + sc + tl) → valV (kvF sc tl v) (.inr (srt sc tl (sz sc tl v))) = some (.int (getI (kvF sc tl v) (.inr (srt sc tl (sz sc tl v))))) ∧ (kvF sc tl v).length = 5 := fun {sc tl} s {v} hv =>
  SF.all (P := fun sc tl v => valV (kvF sc tl v) (.inr (srt sc tl (sz sc tl v))) = some (.int (getI (kvF sc tl v) (.inr (srt sc tl (sz sc tl v))))) ∧ (kvF sc tl v).length = 5) (by decide +kernel) s hv
theorem sorts_all : ∀ f ∈ [(2, 1), (2, 2), (2, 3), (3, 1), (3, 2)], (kvF f.1 f.2 (2 ^ (1 + f.1 + f.2))).length = (dueK f.1 f.2).length ∧ ∀ p ∈ kvF f.1 f.2 (2 ^ (1 + f.1 + f.2)), valV (dueK f.1 f.2) p.1 = some p.2 ∧ flatB p.2 = true := by decide +kernel
theorem keys81 : ([.inr "nought", .inr "small", .inr "plain", .inr "endless", .inr "none"] : List Key).Nodup := by decide +kernel
def spSorts (K : PySem.W.Frag) (C : Addr) : Sp := fun vs H Q _ => ∃ (x t : Addr) (sc tl : Nat), vs = [.ref x, .ref t] ∧ FAt C H x sc tl ∧ SF sc tl ∧ WdAt K H t (2 ^ (1 + sc + tl)) ∧ ∀ H', Same H H' → Q (.bl true) H'
theorem ok__law_sorts_right (B : Bl mg) (L : LL K mg C za zl t26 t27 t28) : FnOk P w K mg base CX0 5 (za 13) (zl 13) ["_law_form", "_law_words"] (spSorts K C) := by
  have G_Form_sort_of : FnOk P w K mg base CX0 4 (za 25) (zl 25) ["self", "word"] (spSort C) := (ok_Form_sort_of B L).mono (by decide)
  refine L.F__law_sorts_right.ok sc__law_sorts_right (fun vs H Q E h => ?_) (fun cdv A outer s H vs Q E hr h => ?_)
  · obtain ⟨x, t, sc, tl, rfl, _⟩ := h
    rfl
  obtain ⟨x, t, sc, tl, rfl, hF, hs, hW, q⟩ := h
  obtain ⟨dx, hx, h1, h2, h3, h4⟩ := id hF
  obtain ⟨N, hN⟩ : ∃ N, N = 2 ^ (1 + sc + tl) := ⟨_, rfl⟩
  have ln : ((List.range N).map fun (i : Nat) => V.int (i : Int)).length = N := by rw [List.length_map, List.length_range]
  have fin := sorts_all (sc, tl) hs.in
  dsimp only at fin
  rw [← hN] at hW fin
  refine ⟨_, (pss_cons (ps_set (i := 2) sc__law_sorts_right.nd rfl (.inl rfl) (pe_disp (pps_cons pe_str pe_int (pps_cons pe_str pe_int (pps_cons pe_str pe_int (pps_cons pe_str pe_int (pps_cons pe_str pe_int pps_nil))))) rfl rfl (by decide) (by decide)))
    (pss_cons (ps_for PassesOwn.never rfl (pi_list (pv 1)) (pg_name (i := 3) sc__law_sorts_right.nd rfl (.inl rfl)) (pss_one (ps_asg (pe_op op_add (pe_dget (units1 hr) (pv 2) (pe_meth (pv 0) L.T.cl L.M_Form_sort_of G_Form_sort_of hr L.b_Form_sort_of .nil pass0 (pa_cons (pv 3) pa_nil)) (fun _ _ => rfl)) pe_int) (pg_sub (pv 2) (pe_meth (pv 0) L.T.cl L.M_Form_sort_of G_Form_sort_of hr L.b_Form_sort_of .nil pass0 (pa_cons (pv 3) pa_nil)) (set_dict (units1 hr))))))
    (pss_cons (ps_par (by rfl) sc__law_sorts_right.nd (i := 4) (j := 5) rfl rfl (by decide) rfl rfl (pa_cons (pe_op op_oneShl pe_int (pe_fld (pv 0) rfl)) (pa_cons (pe_op op_oneShl pe_int (pe_fld (pv 0) rfl)) pa_nil)) (by rfl))
    (pss_cons (ps_set (i := 6) sc__law_sorts_right.nd rfl (.inl rfl) (pe_disp (pps_cons pe_str pe_int (pps_cons pe_str (pe_op op_sub (pe_op op_mul pe_int (pv 4)) pe_int) (pps_cons pe_str (pe_op op_mul (pe_op op_mul pe_int (pv 4)) (pe_op op_sub (pv 5) pe_int)) (pps_cons pe_str pe_int (pps_cons pe_str (pe_op op_sub (pe_op op_mul pe_int (pv 4)) pe_int) pps_nil))))) rfl rfl (by decide) (by decide)))
    (pss_one (ps_ret (pe_cmpR (op_eq_dictA (Nat.lt_of_succ_lt (units1 hr))) (pv 2) (pv 6) (nomark _)))))))), ?_⟩
  refine fun d nd => ⟨upd_same, kvI, rfl, (by show 5 ≤ 15; decide), ?_⟩
  rw [mergeK_nodup kvI [] keys81, upd_upd]
  have sd := same_upd (o := .dK kvI) nd
  have ed : (upd H d (.dK kvI)) d = some (.dK kvI) := upd_same
  try dsimp only [gName]
  try simp only [L2.start, List.map_cons, List.map_nil, List.length_cons, List.length_nil, List.replicate_succ, List.replicate_zero, List.cons_append, List.nil_append, List.set_cons_succ, List.set_cons_zero, Nat.reduceAdd, Nat.reduceSub, Nat.zero_add]
  generalize upd H d (.dK kvI) = H1 at *
  refine ⟨_, rfl, t, rfl, ⟨_, sd.seq hW⟩, ?_⟩
  refine for_it (walk_list (K := K) (a := t) (xs := (List.range N).map fun (i : Nat) => V.int (i : Int))) (fun j σ H9 => ∃ (y3 : Option V), σ = [some (.ref x), some (.ref t), some (.ref d), y3, none, none, none] ∧ Same H H9 ∧ H9 d = some (.dK (kvF sc tl j))) ⟨_, rfl, sd, ed⟩ (fun j σ H9 _ ⟨_, _, s9, _⟩ => s9.seq hW) ?_ ?_
  · rintro j v σ H10 H9 hj ⟨y3, rfl, s9, e9⟩ ⟨rfl, hz⟩
    rw [ln] at hj
    have ev := wd_at hj hz
    subst ev
    obtain ⟨g1, g2⟩ := sorts_step hs (v := j) (by omega)
    dsimp only [gName]
    try simp only [L2.start, List.map_cons, List.map_nil, List.length_cons, List.length_nil, List.replicate_succ, List.replicate_zero, List.cons_append, List.nil_append, List.set_cons_succ, List.set_cons_zero, Nat.reduceAdd, Nat.reduceSub, Nat.zero_add]
    have dg : DGet H9 d (.str (srt sc tl (sz sc tl j))) (some (.int (getI (kvF sc tl j) (.inr (srt sc tl (sz sc tl j)))))) := by
      have := DGet.k (k := .inr (srt sc tl (sz sc tl j))) e9
      rw [g1] at this
      exact this
    refine ⟨_, rfl, _, rfl, x, dx, _, rfl, s9 _ _ hx, rfl, _, rfl, x, sc, tl, j, rfl, hF.same s9, fun H2 s2 => ?_⟩
    have dg2 : DGet H2 d (.str (srt sc tl (sz sc tl j))) (some (.int (getI (kvF sc tl j) (.inr (srt sc tl (sz sc tl j)))))) := by
      have := DGet.k (k := .inr (srt sc tl (sz sc tl j))) (s2 _ _ e9)
      rw [g1] at this
      exact this
    have s92 := s9.trans s2
    refine ⟨d, _, rfl, dg2, _, _, rfl, rfl, _, rfl, _, rfl, x, dx, _, rfl, s92 _ _ hx, rfl, _, rfl, x, sc, tl, j, rfl, hF.same s92, fun H3 s3 => ?_⟩
    have e3 := s3 _ _ (s2 _ _ e9)
    refine ⟨d, _, rfl, DPut.k (k := .inr (srt sc tl (sz sc tl j))) e3 (by rw [g2]; decide), ?_⟩
    refine ⟨_, rfl, fun y o e => ?_, ?_⟩
    · rw [upd_ne (ne_of_none e nd)]
      exact s3 _ _ (s92 _ _ e)
    · rw [upd_same, kvF_step]
  rintro σ H9 ⟨y3, rfl, s9, e9⟩
  rw [ln] at e9
  have p4 : (2 : Int) ^ tl ≤ 2 ^ 4 := GM.pow_le' (by have := hs.2.2; omega)
  have p5 := GM.pow_pos' tl
  refine ⟨_, rfl, x, C, dx, _, _, rfl, s9 _ _ hx, L.T.cl, L.T.nt, fl_t _ _, tl, rfl, rfl, by omega, _, rfl, x, C, dx, _, _, rfl, s9 _ _ hx, L.T.cl, L.T.ns, fl_s _ _, sc, rfl, rfl, by omega, _, _, rfl, ?_⟩
  try simp only [L2.start, List.map_cons, List.map_nil, List.length_cons, List.length_nil, List.replicate_succ, List.replicate_zero, List.cons_append, List.nil_append, List.set_cons_succ, List.set_cons_zero, Nat.reduceAdd, Nat.reduceSub, Nat.zero_add]
  refine fun d2 nd2 => ⟨_, rfl, _, _, rfl, rfl, .inl ⟨by decide, by decide⟩, _, _, rfl, rfl, _, rfl, _, _, rfl, rfl, .inl ⟨by decide, by decide⟩, _, rfl, _, _, rfl, rfl, _, _, rfl, rfl, .inl ⟨by omega, by omega⟩, _, rfl, _, _, rfl, rfl, .inl ⟨by decide, by decide⟩, _, _, rfl, rfl, upd_same, dueK sc tl, rfl, (by show 5 ≤ 15; decide), ?_⟩
  rw [mergeK_nodup (dueK sc tl) [] keys81, upd_upd]
  have sd2 := same_upd (o := .dK (dueK sc tl)) nd2
  have ed2 : (upd H9 d2 (.dK (dueK sc tl))) d2 = some (.dK (dueK sc tl)) := upd_same
  have e92 := sd2 _ _ e9
  try dsimp only [gName]
  try simp only [L2.start, List.map_cons, List.map_nil, List.length_cons, List.length_nil, List.replicate_succ, List.replicate_zero, List.cons_append, List.nil_append, List.set_cons_succ, List.set_cons_zero, Nat.reduceAdd, Nat.reduceSub, Nat.zero_add]
  generalize upd H9 d2 (.dK (dueK sc tl)) = H4 at *
  exact ⟨_, rfl, _, rfl, d, d2, _, _, rfl, rfl, e92, ed2, fin.1, fin.2, q _ (s9.trans sd2)⟩
end
section
variable {P : Program} {w : World} {K : PySem.W.Frag} {mg : Str → Option Value} {base : Heap}
variable {C : Addr} {za : Nat → Addr} {zl : Nat → FuncData} {t26 t27 t28 : Tok}
/-! ### sizes rise -/
def gtI (sc tl : Nat) : Int := 0 * 2 ^ (sc + tl) + (mGr sc tl * 2 ^ tl + tGr sc tl)
def enI (sc tl : Nat) : Int := 0 * 2 ^ (sc + tl) + (mEn sc tl * 2 ^ tl + mNo sc tl)
def shA (sc tl v : Nat) : Nat := (wp sc tl v - wp sc tl 1).toNat
def gapT (sc tl v : Nat) : Int := wn sc tl ((v : Int) + 1) * 2 ^ shA sc tl (v + 1) - wn sc tl v * 2 ^ shA sc tl v
theorem rise_fin : ∀ {sc tl : Nat}, SF sc tl → ∀ {v : Nat}, v < 2 ^ (1 + sc + tl) → (v : Int) < gtI sc tl → (¬ GM.topS sc tl ≤ sz sc tl v) ∧ (¬ GM.topS sc tl ≤ sz sc tl ((v : Int) + 1)) ∧ (wp sc tl v - wp sc tl 1 = (shA sc tl v : Int)) ∧ (wp sc tl ((v : Int) + 1) - wp sc tl 1 = (shA sc tl (v + 1) : Int)) ∧ shA sc tl v ≤ 20 ∧ shA sc tl (v + 1) ≤ 20 ∧ (wn sc tl v).natAbs < 100 ∧ (wn sc tl ((v : Int) + 1)).natAbs < 100 ∧ ¬ gapT sc tl v < 1 ∧ Builtin.bitAnd (gapT sc tl v) (gapT sc tl v - 1) = 0 ∧ cmpT sc tl v ((v : Int) + 1) = "less" := fun {sc tl} s {v} hv =>
  SF.all (P := fun sc tl v => (v : Int) < gtI sc tl → (¬ GM.topS sc tl ≤ sz sc tl v) ∧ (¬ GM.topS sc tl ≤ sz sc tl ((v : Int) + 1)) ∧ (wp sc tl v - wp sc tl 1 = (shA sc tl v : Int)) ∧ (wp sc tl ((v : Int) + 1) - wp sc tl 1 = (shA sc tl (v + 1) : Int)) ∧ shA sc tl v ≤ 20 ∧ shA sc tl (v + 1) ≤ 20 ∧ (wn sc tl v).natAbs < 100 ∧ (wn sc tl ((v : Int) + 1)).natAbs < 100 ∧ ¬ gapT sc tl v < 1 ∧ Builtin.bitAnd (gapT sc tl v) (gapT sc tl v - 1) = 0 ∧ cmpT sc tl v ((v : Int) + 1) = "less") (by decide +kernel) s hv
theorem rise_end : ∀ f ∈ [(2, 1), (2, 2), (2, 3), (3, 1), (3, 2)], gtI f.1 f.2 + 1 = enI f.1 f.2 ∧ cmpT f.1 f.2 (gtI f.1 f.2) (gtI f.1 f.2 + 1) = "less" ∧ 0 ≤ gtI f.1 f.2 ∧ gtI f.1 f.2 < 2 ^ (f.1 + f.2) ∧ ¬ GM.topS f.1 f.2 ≤ sz f.1 f.2 1 := by decide +kernel
def spRise (K : PySem.W.Frag) (C : Addr) : Sp := fun vs H Q _ => ∃ (x : Addr) (sc tl : Nat), vs = [.ref x] ∧ FAt C H x sc tl ∧ SF sc tl ∧ ∀ H', Same H H' → Q (.bl true) H'
theorem ok__law_rise_right (B : Bl mg) (L : LL K mg C za zl t26 t27 t28) : FnOk P w K mg base CX0 7 (za 14) (zl 14) ["_law_form"] (spRise K C) := by
  have G_Form_worth : FnOk P w K mg base CX0 6 (za 30) (zl 30) ["self", "word"] (spWorth C) := (ok_Form_worth B L).mono (by decide)
  have G_Form_nought : FnOk P w K mg base CX0 6 (za 26) (zl 26) ["self", "sign"] (spNm C mNo mNo) := (ok_Form_nought B L).mono (by decide)
  have G_Form_greatest : FnOk P w K mg base CX0 6 (za 28) (zl 28) ["self", "sign"] (spNm C mGr tGr) := (ok_Form_greatest B L).mono (by decide)
  have G_Form_endless : FnOk P w K mg base CX0 6 (za 27) (zl 27) ["self", "sign"] (spNm C mEn mNo) := (ok_Form_endless B L).mono (by decide)
  have G_compared : FnOk P w K mg base CX0 6 (za 7) (zl 7) ["form", "a", "b"] (spCmp C) := (ok_compared B L).mono (by decide)
  refine L.F__law_rise_right.ok sc__law_rise_right (fun vs H Q E h => ?_) (fun cdv A outer s H vs Q E hr h => ?_)
  · obtain ⟨x, sc, tl, rfl, _⟩ := h
    rfl
  obtain ⟨x, sc, tl, rfl, hF, hs, q⟩ := h
  obtain ⟨dx, hx, h1, h2, h3, h4⟩ := id hF
  obtain ⟨f1, f2, f3, f4, f5⟩ := rise_end (sc, tl) hs.in
  dsimp only at f1 f2 f3 f4 f5
  refine ⟨_, (pss_cons (ps_par (by rfl) sc__law_rise_right.nd (i := 1) (j := 2) rfl rfl (by decide) rfl rfl (pa_cons (pe_ix ix_tup (pe_meth (pv 0) L.T.cl L.M_Form_worth G_Form_worth hr L.b_Form_worth .nil pass0 (pa_cons pe_int pa_nil)) pe_int (fun _ _ => rfl)) (pa_cons (pe_meth0 (pv 0) L.T.cl L.M_Form_nought G_Form_nought hr L.d_Form_nought (val0 _) pass0) pa_nil)) (by rfl))
    (pss_cons (ps_while PassesOwn.never (pt_cmpR op_ne (pv 2) (pe_meth0 (pv 0) L.T.cl L.M_Form_greatest G_Form_greatest hr L.d_Form_greatest (val0 _) pass0) (nomark _)) (pss_cons (ps_asg (pe_tup (pa_cons (pe_meth (pv 0) L.T.cl L.M_Form_worth G_Form_worth hr L.b_Form_worth .nil pass0 (pa_cons (pv 2) pa_nil)) (pa_cons (pe_meth (pv 0) L.T.cl L.M_Form_worth G_Form_worth hr L.b_Form_worth .nil pass0 (pa_cons (pe_op op_add (pv 2) pe_int) pa_nil)) pa_nil))) (pg_tup (by rfl) (pgs_cons (pg_tup (by rfl) (pgs_cons (pg_name (i := 3) sc__law_rise_right.nd rfl (.inl rfl)) (pgs_cons (pg_name (i := 4) sc__law_rise_right.nd rfl (.inl rfl)) pgs_nil))) (pgs_cons (pg_tup (by rfl) (pgs_cons (pg_name (i := 5) sc__law_rise_right.nd rfl (.inl rfl)) (pgs_cons (pg_name (i := 6) sc__law_rise_right.nd rfl (.inl rfl)) pgs_nil))) pgs_nil))))
    (pss_cons (ps_set (i := 7) sc__law_rise_right.nd rfl (.inl rfl) (pe_op op_sub (pe_op op_shlN (pv 5) (pe_op op_sub (pv 6) (pv 1))) (pe_op op_shlN (pv 3) (pe_op op_sub (pv 4) (pv 1)))))
    (pss_cons (ps_if (PW.pt (pw_or (pt_cmpR op_lt (pv 7) pe_int (nomark _)) (pw_or (pt_cmpR op_ne (pe_op op_and (pv 7) (pe_op op_sub (pv 7) pe_int)) pe_int (nomark _)) (pw_or1 (pt_cmpR op_ne (pe_call G_compared hr (by rfl) L.m_compared L.F_compared.kp L.b_compared .nil pass0 (pa_cons (pv 0) (pa_cons (pv 2) (pa_cons (pe_op op_add (pv 2) pe_int) pa_nil)))) pe_str (nomark _)))))) (pss_one (ps_ret pe_bl)) pss_nil)
    (pss_one (ps_set (i := 2) sc__law_rise_right.nd rfl (.inl rfl) (pe_op op_add (pv 2) pe_int)))))))
    (pss_one (ps_ret (pe_and (pe_cmpR op_eq (pe_op op_add (pv 2) pe_int) (pe_meth0 (pv 0) L.T.cl L.M_Form_endless G_Form_endless hr L.d_Form_endless (val0 _) pass0) (nomark _)) (pe_one (pe_cmpR op_eq (pe_call G_compared hr (by rfl) L.m_compared L.F_compared.kp L.b_compared .nil pass0 (pa_cons (pv 0) (pa_cons (pv 2) (pa_cons (pe_op op_add (pv 2) pe_int) pa_nil)))) pe_str (nomark _)))))))), ?_⟩
  refine ⟨_, rfl, x, dx, _, rfl, hx, rfl, x, sc, tl, 1, rfl, hF, fun _ _ z => absurd z f5, fun H1 p s1 _ ep => ?_⟩
  refine ⟨p, _, _, _, rfl, rfl, SqT.of ep, rfl, ?_⟩
  refine ⟨_, rfl, x, dx, _, rfl, s1 _ _ hx, rfl, x, sc, tl, 0, rfl, hF.same s1, .inl rfl, ?_⟩
  have e0 : (0 : Int) * 2 ^ (sc + tl) + (mNo sc tl * 2 ^ tl + mNo sc tl) = 0 := by
    show (0 : Int) * 2 ^ (sc + tl) + (0 * 2 ^ tl + 0) = 0
    omega
  rw [e0]
  refine ⟨_, _, rfl, ?_⟩
  try simp only [L2.start, List.map_cons, List.map_nil, List.length_cons, List.length_nil, List.replicate_succ, List.replicate_zero, List.cons_append, List.nil_append, List.set_cons_succ, List.set_cons_zero, Nat.reduceAdd, Nat.reduceSub, Nat.zero_add]
  refine while_by (fun σ H4 => ∃ (j : Nat) (y3 y4 y5 y6 y7 : Option V), σ = [some (.ref x), some (.int (wp sc tl 1)), some (.int (j : Int)), y3, y4, y5, y6, y7] ∧ Same H H4 ∧ (j : Int) ≤ gtI sc tl)
    (fun (σ : L2.St) (_ : Hp) => match σ[2]? with | some (some (V.int n)) => (gtI sc tl - n).toNat | _ => 0) ⟨0, _, _, _, _, _, rfl, s1, f3⟩ ?_ ?_
  · rintro σ H4 ⟨j, y3, y4, y5, y6, y7, rfl, s4, lj⟩
    refine ⟨_, rfl, _, rfl, x, dx, _, rfl, s4 _ _ hx, rfl, x, sc, tl, 0, rfl, hF.same s4, .inl rfl, rfl, _, rfl, ite2 (fun c => ?_) (fun c => ?_)⟩
    · have c1 : (j : Int) < gtI sc tl := by
        have : (j : Int) ≠ gtI sc tl := fun z => by
          have : decide (V.int (j : Int) = V.int (0 * 2 ^ (sc + tl) + (mGr sc tl * 2 ^ tl + tGr sc tl))) = true := decide_eq_true (congrArg V.int z)
          rw [this] at c
          cases c
        omega
      have jN : j < 2 ^ (1 + sc + tl) := by
        have e1 : ((2 ^ (sc + tl) : Nat) : Int) = (2 : Int) ^ (sc + tl) := PySem.W.kbt_cast _
        have e2 : 2 ^ (1 + sc + tl) = 2 * 2 ^ (sc + tl) := by rw [Nat.add_assoc, Nat.pow_add]
        omega
      obtain ⟨g1, g2, g3, g4, g5, g6, g7, g8, g9, g10, g11⟩ := rise_fin hs jN c1
      dsimp only [gName]
      try simp only [L2.start, List.map_cons, List.map_nil, List.length_cons, List.length_nil, List.replicate_succ, List.replicate_zero, List.cons_append, List.nil_append, List.set_cons_succ, List.set_cons_zero, Nat.reduceAdd, Nat.reduceSub, Nat.zero_add]
      refine ⟨_, rfl, x, dx, _, rfl, s4 _ _ hx, rfl, _, rfl, x, sc, tl, j, rfl, hF.same s4, fun _ _ z => absurd z g1, fun H5 p5 s5 _ ep5 => ?_⟩
      have s45 := s4.trans s5
      refine ⟨_, rfl, x, dx, _, rfl, s45 _ _ hx, rfl, _, rfl, _, _, rfl, rfl, x, sc, tl, (j : Int) + 1, rfl, hF.same s45, fun _ _ z => absurd z g2, fun H6 p6 s6 _ ep6 => ?_⟩
      have s46 := s45.trans s6
      refine ⟨(by show 2 ≤ sizeLine; decide), fun TT nTT => ?_⟩
      have sTT := same_upd (o := .tup [.ref p5, .ref p6]) nTT
      have eTT : (upd H6 TT (.tup [.ref p5, .ref p6])) TT = some (.tup [.ref p5, .ref p6]) := upd_same
      have e5' := sTT _ _ (s6 _ _ ep5)
      have e6' := sTT _ _ ep6
      have s47 := s46.trans sTT
      generalize upd H6 TT (.tup [.ref p5, .ref p6]) = H7 at *
      refine ⟨TT, _, rfl, .inl (.inl eTT), rfl, _, _, rfl, p5, _, rfl, .inl (.inl e5'), rfl, _, _, rfl, _, _, rfl, rfl, _, _, rfl, p6, _, rfl, .inl (.inl e6'), rfl, _, _, rfl, _, _, rfl, rfl, rfl, ?_⟩
      try simp only [L2.start, List.map_cons, List.map_nil, List.length_cons, List.length_nil, List.replicate_succ, List.replicate_zero, List.cons_append, List.nil_append, List.set_cons_succ, List.set_cons_zero, Nat.reduceAdd, Nat.reduceSub, Nat.zero_add]
      refine ⟨_, rfl, _, rfl, _, rfl, _, _, rfl, rfl, _, shA sc tl (j + 1), rfl, congrArg V.int g4, shl_ok (n := 7) (by omega) (by omega), _, rfl, _, rfl, _, rfl, _, _, rfl, rfl, _, shA sc tl j, rfl, congrArg V.int g3, shl_ok (n := 7) (by omega) (by omega), _, _, rfl, rfl, ?_⟩
      try dsimp only [gName]
      try simp only [L2.start, List.map_cons, List.map_nil, List.length_cons, List.length_nil, List.replicate_succ, List.replicate_zero, List.cons_append, List.nil_append, List.set_cons_succ, List.set_cons_zero, Nat.reduceAdd, Nat.reduceSub, Nat.zero_add]
      have eg : wn sc tl ((j : Int) + 1) * 2 ^ shA sc tl (j + 1) - wn sc tl j * 2 ^ shA sc tl j = gapT sc tl j := rfl
      rw [eg]
      generalize gapT sc tl j = gap at *
      refine ⟨_, rfl, _, _, rfl, rfl, _, rfl, iteN81 (decide_eq_false g9) ?_⟩
      refine ⟨_, rfl, _, rfl, _, _, rfl, rfl, _, _, rfl, rfl, rfl, _, rfl, iteN81 (by
        have z : decide (V.int (Builtin.bitAnd gap (gap - 1)) = V.int 0) = true := decide_eq_true (congrArg V.int g10)
        show (!decide (V.int (Builtin.bitAnd gap (gap - 1)) = V.int 0)) = false
        rw [z]
        rfl) ?_⟩
      refine ⟨_, rfl, _, rfl, _, rfl, _, _, rfl, rfl, x, sc, tl, j, (j : Int) + 1, rfl, hF.same s47, fun H8 s8 => ?_⟩
      rw [g11]
      refine ⟨rfl, _, rfl, iteN81 (by rfl) ?_⟩
      try dsimp only [tNext]
      refine ⟨_, rfl, _, _, rfl, rfl, ⟨j + 1, _, _, _, _, _, rfl, s47.trans s8, by omega⟩, ?_⟩
      show (gtI sc tl - ((j : Int) + 1)).toNat < (gtI sc tl - (j : Int)).toNat
      omega
    · have c1 : (j : Int) = gtI sc tl := by
        by_cases z : (j : Int) = gtI sc tl
        · exact z
        · exfalso
          apply c
          have : decide (V.int (j : Int) = V.int (0 * 2 ^ (sc + tl) + (mGr sc tl * 2 ^ tl + tGr sc tl))) = false := decide_eq_false (fun w => z (V.int.inj w))
          rw [this]
          rfl
      rw [c1]
      refine ⟨_, rfl, _, _, rfl, rfl, _, rfl, x, dx, _, rfl, s4 _ _ hx, rfl, x, sc, tl, 0, rfl, hF.same s4, .inl rfl, rfl, _, rfl, iteY81 (decide_eq_true (congrArg V.int f1)) ?_⟩
      refine ⟨_, rfl, _, rfl, _, rfl, _, _, rfl, rfl, x, sc, tl, _, _, rfl, hF.same s4, fun H5 s5 => ?_⟩
      rw [f2]
      refine ⟨rfl, ?_⟩
      have z : decide (V.str "less" = V.str "less") = true := by decide
      rw [z]
      exact q _ (s4.trans s5)
  · rintro σ H4 Q1 Q2 hq ⟨a, ha, b, hb, x', dx', fs, e1, e2, e3, y, s', t', g', e4, e5, e6, r1, k, hk, q1⟩
    exact ⟨a, ha, b, hb, x', dx', fs, e1, e2, e3, y, s', t', g', e4, e5, e6, r1, k, hk, hq _ _ q1⟩
end
section
variable {P : Program} {w : World} {K : PySem.W.Frag} {mg : Str → Option Value} {base : Heap}
variable {C : Addr} {za : Nat → Addr} {zl : Nat → FuncData} {t26 t27 t28 : Tok}
/-! ### one form -/
theorem word_fin : ∀ {sc tl : Nat}, SF sc tl → ∀ {v : Nat}, v < 2 ^ (1 + sc + tl) → numIn 0 (2 ^ (1 + sc + tl) - 1) (.int (v : Int)) = true ∧ GM.sgn sc tl v * 2 ^ (sc + tl) + (GM.scl sc tl v * 2 ^ tl + GM.tlp tl v) = (v : Int) ∧ inV (.str (srt sc tl (sz sc tl v))) [.str "endless", .str "none"] = decide (GM.topS sc tl ≤ sz sc tl v) ∧ (¬ GM.topS sc tl ≤ sz sc tl v → ¬ GM.topS sc tl ≤ sz sc tl (trn sc tl v) ∧ wn sc tl (trn sc tl v) = 0 - wn sc tl v ∧ wp sc tl (trn sc tl v) = wp sc tl v) ∧ (GM.topS sc tl ≤ sz sc tl v → GM.topS sc tl ≤ sz sc tl (trn sc tl v)) := fun {sc tl} s {v} hv =>
  SF.all (P := fun sc tl v => numIn 0 (2 ^ (1 + sc + tl) - 1) (.int (v : Int)) = true ∧ GM.sgn sc tl v * 2 ^ (sc + tl) + (GM.scl sc tl v * 2 ^ tl + GM.tlp tl v) = (v : Int) ∧ inV (.str (srt sc tl (sz sc tl v))) [.str "endless", .str "none"] = decide (GM.topS sc tl ≤ sz sc tl v) ∧ (¬ GM.topS sc tl ≤ sz sc tl v → ¬ GM.topS sc tl ≤ sz sc tl (trn sc tl v) ∧ wn sc tl (trn sc tl v) = 0 - wn sc tl v ∧ wp sc tl (trn sc tl v) = wp sc tl v) ∧ (GM.topS sc tl ≤ sz sc tl v → GM.topS sc tl ≤ sz sc tl (trn sc tl v))) (by decide +kernel) s hv
def fineT (sc tl j : Nat) : List Str := ((List.range j).filter fun (v : Nat) => !decide (srt sc tl (sz sc tl v) = "none")).map fun (v : Nat) => wtx sc tl v
def txT (sc tl j : Nat) : List Str := (List.range j).map fun (v : Nat) => spT sc tl v
theorem texts_fin : ∀ f ∈ [(2, 1), (2, 2), (2, 3), (3, 1), (3, 2)], (txT f.1 f.2 (2 ^ (1 + f.1 + f.2))).Nodup ∧ (fineT f.1 f.2 (2 ^ (1 + f.1 + f.2))).Nodup ∧ (fineT f.1 f.2 (2 ^ (1 + f.1 + f.2))).length < 4000 ∧ 2 ^ (1 + f.1 + f.2) < 1000 ∧ numIn 0 (2 ^ (1 + f.1 + f.2) - 1) (.int ((2 ^ (1 + f.1 + f.2) : Nat) : Int)) = false ∧ numIn 0 (2 ^ (1 + f.1 + f.2) - 1) (.int (-1)) = false := by decide +kernel
theorem txT_succ (sc tl j : Nat) : txT sc tl (j + 1) = txT sc tl j ++ [spT sc tl j] := by
  unfold txT
  rw [List.range_succ, List.map_append]
  rfl
theorem fineT_succ (sc tl j : Nat) : fineT sc tl (j + 1) = if srt sc tl (sz sc tl j) = "none" then fineT sc tl j else fineT sc tl j ++ [wtx sc tl j] := by
  unfold fineT
  rw [List.range_succ, List.filter_append, List.map_append]
  by_cases c : srt sc tl (sz sc tl j) = "none"
  · rw [if_pos c]
    simp [c]
  · rw [if_neg c]
    simp [c]
theorem fineT_len (sc tl j : Nat) : (fineT sc tl j).length ≤ j := by
  unfold fineT
  rw [List.length_map]
  exact Nat.le_trans (List.length_filter_le _ _) (by rw [List.length_range]; exact Nat.le_refl _)
def spRight : Sp := fun vs H Q _ => ∃ (b : Addr) (c : Int), vs = [.ref b] ∧ BoxAt c H b ∧ c ≤ 700000000 ∧ (∀ H', Keep b H H' → Q (.bl true) H')
theorem ok__law_right (B : Bl mg) (L : LL K mg C za zl t26 t27 t28) : FnOk P w K mg base CX0 8 (za 17) (zl 17) ["_law_box_here"] spRight := by
  have G__law_take : FnOk P w K mg base CX0 7 (za 11) (zl 11) ["_law_box_here", "_law_size"] (spTake 1) := (ok_take L.F__law_take L.b__law_take L.m__law_take B 1).mono (by decide)
  have G_Form___init__ : FnOk P w K mg base CX0 6 (za 18) (zl 18) ["self", "scale", "tail"] (spInit C) := (ok_Form___init__ B L).mono (by decide)
  have G_Form_width : FnOk P w K mg base CX0 7 (za 19) (zl 19) ["self"] (spWidth C) := (ok_Form_width B L).mono (by decide)
  have G_Form_parts : FnOk P w K mg base CX0 7 (za 22) (zl 22) ["self", "word"] (spParts C) := (ok_Form_parts B L).mono (by decide)
  have G_spelled : FnOk P w K mg base CX0 7 (za 3) (zl 3) ["form", "word"] (spSpell C) := (ok_spelled B L).mono (by decide)
  have G_Form_is_word : FnOk P w K mg base CX0 7 (za 24) (zl 24) ["self", "thing"] (spIsW K C) := (ok_Form_is_word B L).mono (by decide)
  have G_Form_word_of : FnOk P w K mg base CX0 7 (za 23) (zl 23) ["self", "sign", "scale", "tail"] (spWordOf C) := (ok_Form_word_of B L).mono (by decide)
  have G_word_in : FnOk P w K mg base CX0 7 (za 5) (zl 5) ["form", "text"] (spWordIn C) := (ok_word_in B L).mono (by decide)
  have G_Form_worth : FnOk P w K mg base CX0 7 (za 30) (zl 30) ["self", "word"] (spWorth C) := (ok_Form_worth B L).mono (by decide)
  have G_Form_turned : FnOk P w K mg base CX0 7 (za 29) (zl 29) ["self", "word"] (spTrn C) := (ok_Form_turned B L).mono (by decide)
  have G_Form_sort_of : FnOk P w K mg base CX0 7 (za 25) (zl 25) ["self", "word"] (spSort C) := (ok_Form_sort_of B L).mono (by decide)
  have G_worth_text : FnOk P w K mg base CX0 7 (za 6) (zl 6) ["form", "word"] (spWtx C) := (ok_worth_text B L).mono (by decide)
  have G__law_sorts_right : FnOk P w K mg base CX0 7 (za 13) (zl 13) ["_law_form", "_law_words"] (spSorts K C) := (ok__law_sorts_right B L).mono (by decide)
  have G__law_rise_right : FnOk P w K mg base CX0 7 (za 14) (zl 14) ["_law_form"] (spRise K C) := (ok__law_rise_right B L).mono (by decide)
  have G__law_pairs_right : FnOk P w K mg base CX0 7 (za 16) (zl 16) ["_law_form", "_law_words"] (spPairs K C) := (ok__law_pairs_right B L).mono (by decide)
  refine L.F__law_right.ok sc__law_right (fun vs H Q E h => ?_) (fun cdv A outer s H vs Q E hr h => ?_)
  · obtain ⟨b, c, rfl, _⟩ := h
    rfl
  obtain ⟨b, c, rfl, hB, hc, q⟩ := h
  refine ⟨_, (pss_cons (ps_set (i := 1) sc__law_right.nd rfl (.inl rfl) (pe_op op_add pe_int (pe_call G__law_take hr (by rfl) L.m__law_take L.F__law_take.kp L.b__law_take .nil pass0 (pa_cons (pv 0) (pa_cons pe_int pa_nil)))))
    (pss_cons (ps_set (i := 2) sc__law_right.nd rfl (.inr rfl) (pe_make L.M G_Form___init__ hr (by rfl) L.T.mgC L.b_Form___init__ .nil pass0 (pa_cons (pv 1) (pa_cons (pe_op op_add pe_int (pe_call G__law_take hr (by rfl) L.m__law_take L.F__law_take.kp L.b__law_take .nil pass0 (pa_cons (pv 0) (pa_cons (pe_op op_add (pe_op op_sub pe_int (pv 1)) pe_int) pa_nil)))) pa_nil))))
    (pss_cons (ps_set (i := 3) sc__law_right.nd rfl (.inl rfl) (pe_op op_oneShl pe_int (pe_meth0 (pv 2) L.T.cl L.M_Form_width G_Form_width hr L.b_Form_width .nil pass0)))
    (pss_cons (ps_par (by rfl) sc__law_right.nd (i := 4) (j := 5) rfl rfl (by decide) rfl rfl (pa_cons (pe_listRg rfl (by rfl) B.list (prg_1 (by rfl) B.range (pv 3))) (pa_cons (pe_lst pa_nil) pa_nil)) (by rfl))
    (pss_cons (ps_for PassesOwn.never rfl (pi_list (pv 4)) (pg_name (i := 6) sc__law_right.nd rfl (.inl rfl)) (pss_cons (ps_asg (pe_meth (pv 2) L.T.cl L.M_Form_parts G_Form_parts hr L.b_Form_parts .nil pass0 (pa_cons (pv 6) pa_nil)) (pg_tup (by rfl) (pgs_cons (pg_name (i := 7) sc__law_right.nd rfl (.inl rfl)) (pgs_cons (pg_name (i := 8) sc__law_right.nd rfl (.inl rfl)) (pgs_cons (pg_name (i := 9) sc__law_right.nd rfl (.inl rfl)) pgs_nil)))))
    (pss_cons (ps_set (i := 10) sc__law_right.nd rfl (.inl rfl) (pe_call G_spelled hr (by rfl) L.m_spelled L.F_spelled.kp L.b_spelled .nil pass0 (pa_cons (pv 2) (pa_cons (pv 6) pa_nil))))
    (pss_cons (ps_if (PW.pt (pw_or (pt_cmpR op_notBl (pe_meth (pv 2) L.T.cl L.M_Form_is_word G_Form_is_word hr L.b_Form_is_word .nil pass0 (pa_cons (pv 6) pa_nil)) pe_bl (nomark _)) (pw_or (pt_cmpR op_ne (pe_meth (pv 2) L.T.cl L.M_Form_word_of G_Form_word_of hr L.b_Form_word_of .nil pass0 (pa_cons (pv 7) (pa_cons (pv 8) (pa_cons (pv 9) pa_nil)))) (pv 6) (nomark _)) (pw_or1 (pt_cmpR op_ne (pe_call G_word_in hr (by rfl) L.m_word_in L.F_word_in.kp L.b_word_in .nil pass0 (pa_cons (pv 2) (pa_cons (pv 10) pa_nil))) (pv 6) (nomark _)))))) (pss_one (ps_ret pe_bl)) pss_nil)
    (pss_cons (ps_par (by rfl) sc__law_right.nd (i := 11) (j := 12) rfl rfl (by decide) rfl rfl (pa_cons (pe_meth (pv 2) L.T.cl L.M_Form_worth G_Form_worth hr L.b_Form_worth .nil pass0 (pa_cons (pv 6) pa_nil)) (pa_cons (pe_meth (pv 2) L.T.cl L.M_Form_worth G_Form_worth hr L.b_Form_worth .nil pass0 (pa_cons (pe_meth (pv 2) L.T.cl L.M_Form_turned G_Form_turned hr L.b_Form_turned .nil pass0 (pa_cons (pv 6) pa_nil)) pa_nil)) pa_nil)) (by rfl))
    (pss_cons (ps_if (pt_cmpR op_ne (pe_cmpR op_isN (pv 11) pe_non (nomark _)) (pe_cmpR op_in_seq (pe_meth (pv 2) L.T.cl L.M_Form_sort_of G_Form_sort_of hr L.b_Form_sort_of .nil pass0 (pa_cons (pv 6) pa_nil)) (pe_tup (pa_cons pe_str (pa_cons pe_str pa_nil))) (by rfl)) (nomark _)) (pss_one (ps_ret pe_bl)) pss_nil)
    (pss_cons (ps_if (PW.pt (pw_and (pt_cmpR op_notN (pv 11) pe_non (nomark _)) (pw_and1 (pt_cmpR (op_neD hr.units) (pv 12) (pe_tup (pa_cons (pe_op op_sub pe_int (pe_ix ix_tup (pv 11) pe_int (fun _ _ => rfl))) (pa_cons (pe_ix ix_tup (pv 11) pe_int (fun _ _ => rfl)) pa_nil))) (nomark _))))) (pss_one (ps_ret pe_bl)) pss_nil)
    (pss_one (ps_expr (pe_bm PySem.F.plainAttrs_list PySem.F.slot_list_append PySem.F.type_list_append mt_append (pv 5) (pa_cons (pv 10) pa_nil)))))))))))
    (pss_cons (ps_setLc (i := 13) (own := [("_law_word", 6)]) (by rfl) sc__law_right.nd rfl rfl (sw_true rfl rfl rfl (by decide +kernel)) (pi_list (pv 4)) (blkOk_by (own := [("_law_word", 6)]) (N := ["_law_box_here", "_law_scale", "_law_form", "_law_many", "_law_words", "_law_texts", "_law_word", "_law_sign", "_law_high", "_law_low", "_law_text", "_law_worth", "_law_turned", "_law_fine"]) (sc := defScope s__law_right) (by decide +kernel)) (fun _ _ _ _ _ => pg_name (i := 6) sc__law_right.nd rfl (Or.inl rfl)) (fun _ _ _ _ _ => pts_one (pt_cmpR op_ne (pe_meth (pv 2) L.T.cl L.M_Form_sort_of G_Form_sort_of hr L.b_Form_sort_of .nil pass0 (pa_cons (pv 6) pa_nil)) pe_str (nomark _))) (fun _ _ _ _ _ => (pe_call G_worth_text hr (by rfl) L.m_worth_text L.F_worth_text.kp L.b_worth_text .nil pass0 (pa_cons (pv 2) (pa_cons (pv 6) pa_nil)))))
    (pss_cons (ps_if (PW.pt (pw_or (pt_cmpR op_ne (pe_lenSetN rfl (by rfl) B.len (by rfl) L.z_set (pv 5)) (pv 3) (nomark _)) (pw_or (pt_cmpR op_ne (pe_lenSetN rfl (by rfl) B.len (by rfl) L.z_set (pv 13)) (pe_callB call_len_seq (by rfl) B.len PySem.boot_len (pa_cons (pv 13) pa_nil)) (nomark _)) (pw_or (pt_val (pe_meth (pv 2) L.T.cl L.M_Form_is_word G_Form_is_word hr L.b_Form_is_word .nil pass0 (pa_cons (pv 3) pa_nil))) (pw_or1 (pt_val (pe_meth (pv 2) L.T.cl L.M_Form_is_word G_Form_is_word hr L.b_Form_is_word .nil pass0 (pa_cons (pe_un un_neg pe_int) pa_nil)))))))) (pss_one (ps_ret pe_bl)) pss_nil)
    (pss_one (ps_ret (pe_and (pe_call G__law_sorts_right hr (by rfl) L.m__law_sorts_right L.F__law_sorts_right.kp L.b__law_sorts_right .nil pass0 (pa_cons (pv 2) (pa_cons (pv 4) pa_nil))) (pe_and (pe_call G__law_rise_right hr (by rfl) L.m__law_rise_right L.F__law_rise_right.kp L.b__law_rise_right .nil pass0 (pa_cons (pv 2) pa_nil)) (pe_one (pe_call G__law_pairs_right hr (by rfl) L.m__law_pairs_right L.F__law_pairs_right.kp L.b__law_pairs_right .nil pass0 (pa_cons (pv 2) (pa_cons (pv 4) pa_nil))))))))))))))), ?_⟩
  refine ⟨_, rfl, b, _, _, rfl, hB, by decide, by decide, by decide, by omega, by decide, fun r1 H1 u1 v1 B1 k1 => ?_⟩
  replace B1 := bx1 B1
  obtain ⟨s1, rfl, z1⟩ : ∃ s1 : Nat, r1 = (s1 : Int) ∧ s1 ≤ 1 := ⟨r1.toNat, by omega, by omega⟩
  refine ⟨_, _, rfl, rfl, ?_⟩
  obtain ⟨sc, hsc⟩ : ∃ sc : Nat, sc = 2 + s1 := ⟨_, rfl⟩
  refine gI (show (2 : Int) + (s1 : Int) = (sc : Int) by omega) ?_
  try simp only [L2.start, List.map_cons, List.map_nil, List.length_cons, List.length_nil, List.replicate_succ, List.replicate_zero, List.cons_append, List.nil_append, List.set_cons_succ, List.set_cons_zero, Nat.reduceAdd, Nat.reduceSub, Nat.zero_add]
  refine ⟨_, rfl, _, rfl, _, rfl, _, _, rfl, rfl, _, _, rfl, rfl, b, _, _, rfl, B1, by omega, by omega, by omega, by omega, by decide, fun r2 H2 u2 v2 B2 k2 => ?_⟩
  replace B2 := bx1 B2
  obtain ⟨s2, rfl, z2⟩ : ∃ s2 : Nat, r2 = (s2 : Int) ∧ (s2 : Int) < 4 - (sc : Int) + 1 := ⟨r2.toNat, by omega, by omega⟩
  obtain ⟨tl, htl⟩ : ∃ tl : Nat, tl = 1 + s2 := ⟨_, rfl⟩
  have hs : SF sc tl := ⟨⟨by omega, by omega⟩, by omega, by omega⟩
  refine ⟨_, _, rfl, rfl, ?_⟩
  refine fun x dx nx ndx ne => ?_
  refine ⟨x, dx, sc, tl, (by
    show [V.ref x, V.int (sc : Int), V.int (1 + (s2 : Int))] = _
    rw [show (1 : Int) + (s2 : Int) = (tl : Int) by omega]), upd_same, by omega, by omega, by omega, by omega, fun H3 F3 kp => ⟨rfl, ?_⟩⟩
  have s3 : Same H2 H3 := made nx ndx ne kp
  obtain ⟨dy, hy, g1, g2, g3, g4⟩ := id F3
  obtain ⟨N, hN⟩ : ∃ N, N = 2 ^ (1 + sc + tl) := ⟨_, rfl⟩
  obtain ⟨e1, e2, e3, e4, e5, e6⟩ := texts_fin (sc, tl) hs.in
  dsimp only at e1 e2 e3 e4 e5 e6
  rw [← hN] at e1 e2 e3 e4 e5
  refine ⟨_, rfl, x, dy, _, rfl, hy, rfl, x, sc, tl, rfl, F3, 1 + sc + tl, rfl, rfl, by omega, ?_⟩
  refine gI (show (2 : Int) ^ (1 + sc + tl) = (N : Int) by rw [hN]; exact (PySem.W.kbt_cast _).symm) ?_
  try simp only [L2.start, List.map_cons, List.map_nil, List.length_cons, List.length_nil, List.replicate_succ, List.replicate_zero, List.cons_append, List.nil_append, List.set_cons_succ, List.set_cons_zero, Nat.reduceAdd, Nat.reduceSub, Nat.zero_add]
  refine ⟨_, rfl, _, rfl, (by refine ⟨?_, ?_, ?_, ?_, ?_⟩ <;> omega), fun W nW => ⟨(by decide), fun T nT => ⟨_, _, rfl, ?_⟩⟩⟩
  obtain ⟨ws, hws⟩ : ∃ ws : List V, ws = (List.range N).map fun (i : Nat) => V.int (i : Int) := ⟨_, rfl⟩
  have rg0 : rgV 0 (N : Int) = ws := by
    rw [hws]
    unfold rgV
    rw [Int.sub_zero, Int.toNat_natCast]
    exact List.map_congr_left fun i _ => by rw [Int.zero_add]
  rw [rg0] at nT ⊢
  have sW := same_upd (o := .lst ws) nW
  have sT := same_upd (o := .lst []) nT
  have nWT : W ≠ T := fun z => by rw [z, upd_same] at nT; cases nT
  have n3T : H3 T = none := by
    cases q3 : H3 T with
    | none => rfl
    | some o => exact absurd (sW _ _ q3) (by rw [nT]; exact fun z => nomatch z)
  have eW : (upd (upd H3 W (.lst ws)) T (.lst [])) W = some (.lst ws) := sT _ _ upd_same
  have eT : (upd (upd H3 W (.lst ws)) T (.lst [])) T = some (.lst ((txT sc tl 0).map V.str)) := upd_same
  have s4 : Same H3 (upd (upd H3 W (.lst ws)) T (.lst [])) := sW.trans sT
  generalize upd (upd H3 W (.lst ws)) T (.lst []) = H4 at *
  have F4 := F3.same s4
  have nxT : x ≠ T := fun z => by rw [z, n3T] at hy; cases hy
  have hy4 := s4 _ _ hy
  try simp only [L2.start, List.map_cons, List.map_nil, List.length_cons, List.length_nil, List.replicate_succ, List.replicate_zero, List.cons_append, List.nil_append, List.set_cons_succ, List.set_cons_zero, Nat.reduceAdd, Nat.reduceSub, Nat.zero_add]
  refine ⟨_, rfl, W, rfl, ⟨_, SqL.of eW⟩, ?_⟩
  refine for_it (walk_list (K := K) (a := W) (xs := ws)) (fun j σ H9 => ∃ (y6 y7 y8 y9 y10 y11 y12 : Option V), σ = [some (.ref b), some (.int (sc : Int)), some (.ref x), some (.int (N : Int)), some (.ref W), some (.ref T), y6, y7, y8, y9, y10, y11, y12, none] ∧ Keep T H4 H9 ∧ H9 T = some (.lst ((txT sc tl j).map V.str))) ⟨_, _, _, _, _, _, _, rfl, Keep.refl _ _, eT⟩ (fun j σ H9 _ ⟨_, _, _, _, _, _, _, _, k9, _⟩ => SqL.of (k9 _ _ eW nWT)) ?_ ?_
  · rintro j v σ H10 H9 hj ⟨y6, y7, y8, y9, y10, y11, y12, rfl, k9, t9⟩ ⟨rfl, hz⟩
    have ln : ws.length = N := by rw [hws, List.length_map, List.length_range]
    rw [ln] at hj
    rw [hws] at hz
    have ev := wd_at hj hz
    subst ev
    have hjp : j < 2 ^ (1 + sc + tl) := hN ▸ hj
    have F9 := F4.keep k9 nxT
    have hy9 := k9 _ _ hy4 nxT
    dsimp only [gName]
    try simp only [L2.start, List.map_cons, List.map_nil, List.length_cons, List.length_nil, List.replicate_succ, List.replicate_zero, List.cons_append, List.nil_append, List.set_cons_succ, List.set_cons_zero, Nat.reduceAdd, Nat.reduceSub, Nat.zero_add]
    refine ⟨_, rfl, x, dy, _, rfl, hy9, rfl, _, rfl, x, sc, tl, j, rfl, F9, fun p np => ?_⟩
    have sp := same_upd (o := .tup [.int (GM.sgn sc tl j), .int (GM.scl sc tl j), .int (GM.tlp tl j)]) np
    refine ⟨p, _, rfl, .inl (.inl upd_same), rfl, _, _, rfl, _, _, rfl, _, _, rfl, rfl, ?_⟩
    dsimp only [gName]
    try simp only [L2.start, List.map_cons, List.map_nil, List.length_cons, List.length_nil, List.replicate_succ, List.replicate_zero, List.cons_append, List.nil_append, List.set_cons_succ, List.set_cons_zero, Nat.reduceAdd, Nat.reduceSub, Nat.zero_add]
    generalize upd H9 p (.tup [.int (GM.sgn sc tl j), .int (GM.scl sc tl j), .int (GM.tlp tl j)]) = Hp1 at *
    refine ⟨_, rfl, _, rfl, x, sc, tl, j, rfl, F9.same sp, hs, hjp, fun Ha sa => ?_⟩
    dsimp only [gName]
    try simp only [L2.start, List.map_cons, List.map_nil, List.length_cons, List.length_nil, List.replicate_succ, List.replicate_zero, List.cons_append, List.nil_append, List.set_cons_succ, List.set_cons_zero, Nat.reduceAdd, Nat.reduceSub, Nat.zero_add]
    have s9a := sp.trans sa
    have hs1 := GM.scl_nn sc tl (j : Int)
    have ht1 := GM.tlp_nn tl (j : Int)
    obtain ⟨w1, w2, w3, w4, w5⟩ := word_fin hs hjp
    refine ⟨_, rfl, x, dy, _, rfl, s9a _ _ hy9, rfl, _, rfl, x, sc, tl, j, rfl, F9.same s9a, ?_⟩
    rw [w1]
    refine ⟨true, true, rfl, rfl, _, rfl, iteN81 (by rfl) ?_⟩
    refine ⟨_, rfl, x, dy, _, rfl, s9a _ _ hy9, rfl, _, rfl, _, rfl, _, rfl, x, sc, tl, _, _, _, rfl, F9.same s9a, GM.sgn_01, hs1.1, hs1.2, ht1.1, ht1.2, ?_⟩
    rw [w2]
    refine ⟨_, rfl, rfl, _, rfl, iteN81 (by
      show (!decide (V.int (j : Int) = V.int (j : Int))) = false
      rw [decide_eq_true rfl]
      rfl) ?_⟩
    refine ⟨_, rfl, _, rfl, x, sc, tl, j, rfl, F9.same s9a, hs, hjp, fun Hb sb => ?_⟩
    have s9b := s9a.trans sb
    refine ⟨_, rfl, rfl, _, rfl, iteN81 (by
      show (!decide (V.int (j : Int) = V.int (j : Int))) = false
      rw [decide_eq_true rfl]
      rfl) ?_⟩
    try dsimp only [tNext]
    try simp only [L2.start, List.map_cons, List.map_nil, List.length_cons, List.length_nil, List.replicate_succ, List.replicate_zero, List.cons_append, List.nil_append, List.set_cons_succ, List.set_cons_zero, Nat.reduceAdd, Nat.reduceSub, Nat.zero_add]
    refine ⟨_, rfl, x, dy, _, rfl, s9b _ _ hy9, rfl, _, rfl, x, sc, tl, j, rfl, F9.same s9b, fun Hc c' ct => ?_, fun Hc pc c' ct epc => ?_⟩
    · have s9c := s9b.trans c'
      refine ⟨_, rfl, x, dy, _, rfl, s9c _ _ hy9, rfl, _, rfl, x, dy, _, rfl, s9c _ _ hy9, rfl, _, rfl, x, sc, tl, j, rfl, F9.same s9c, fun Hd sd => ?_⟩
      have s9d := s9c.trans sd
      refine ⟨x, sc, tl, trn sc tl j, rfl, F9.same s9d, fun He e' _ => ?_, fun He pe e' _ epe => ?_⟩
      · have s9e := s9d.trans e'
        refine ⟨_, _, rfl, ?_⟩
        try simp only [L2.start, List.map_cons, List.map_nil, List.length_cons, List.length_nil, List.replicate_succ, List.replicate_zero, List.cons_append, List.nil_append, List.set_cons_succ, List.set_cons_zero, Nat.reduceAdd, Nat.reduceSub, Nat.zero_add]
        refine ⟨_, rfl, rfl, _, rfl, x, dy, _, rfl, s9e _ _ hy9, rfl, _, rfl, x, sc, tl, j, rfl, F9.same s9e, fun Hf sf => ⟨(by show 2 ≤ sizeLine; decide), fun TT nTT => ?_⟩⟩
        have sTT := same_upd (o := .tup [.str "endless", .str "none"]) nTT
        have s9f := (s9e.trans sf).trans sTT
        refine ⟨TT, _, rfl, .inr (SqT.of upd_same), rfl, rfl, rfl, _, rfl, iteN81 (by
          show (!decide (V.bl (decide (V.non = V.non)) = V.bl (inV (.str (srt sc tl (sz sc tl j))) [.str "endless", .str "none"]))) = false
          rw [w3, decide_eq_true ct]
          rfl) ?_⟩
        generalize upd Hf TT (.tup [.str "endless", .str "none"]) = Hg at *
        try dsimp only [tNext]
        refine ⟨_, rfl, rfl, _, rfl, iteN81 (by
          show (!decide (V.non = V.non)) = false
          rw [decide_eq_true rfl]
          rfl) (iteF ?_)⟩
        try dsimp only [tNext]
        try simp only [L2.start, List.map_cons, List.map_nil, List.length_cons, List.length_nil, List.replicate_succ, List.replicate_zero, List.cons_append, List.nil_append, List.set_cons_succ, List.set_cons_zero, Nat.reduceAdd, Nat.reduceSub, Nat.zero_add]
        have tg := s9f _ _ t9
        refine ⟨_, rfl, .inl ⟨rfl, _, SqL.of tg⟩, _, rfl, T, _, _, rfl, rfl, tg, (by rw [List.length_map]; unfold txT; rw [List.length_map, List.length_range]; exact Nat.lt_of_lt_of_le (show j < 1000 by omega) (by decide)), ?_⟩
        refine ⟨_, _, _, _, _, _, _, rfl, (k9.trans (Keep.ofSame s9f)).trans (fun y o e n => by rw [upd_ne n]; exact e), ?_⟩
        rw [upd_same, txT_succ, List.map_append]
        rfl
      · exact absurd (w5 ct) (by assumption)
    · obtain ⟨v1, v2, v3⟩ := w4 ct
      have s9c := s9b.trans c'
      refine ⟨_, rfl, x, dy, _, rfl, s9c _ _ hy9, rfl, _, rfl, x, dy, _, rfl, s9c _ _ hy9, rfl, _, rfl, x, sc, tl, j, rfl, F9.same s9c, fun Hd sd => ?_⟩
      have s9d := s9c.trans sd
      refine ⟨x, sc, tl, trn sc tl j, rfl, F9.same s9d, fun _ _ z => absurd z v1, fun He pe e' _ epe => ?_⟩
      have s9e := s9d.trans e'
      refine ⟨_, _, rfl, ?_⟩
      try simp only [L2.start, List.map_cons, List.map_nil, List.length_cons, List.length_nil, List.replicate_succ, List.replicate_zero, List.cons_append, List.nil_append, List.set_cons_succ, List.set_cons_zero, Nat.reduceAdd, Nat.reduceSub, Nat.zero_add]
      refine ⟨_, rfl, rfl, _, rfl, x, dy, _, rfl, s9e _ _ hy9, rfl, _, rfl, x, sc, tl, j, rfl, F9.same s9e, fun Hf sf => ⟨(by show 2 ≤ sizeLine; decide), fun TT nTT => ?_⟩⟩
      have sTT := same_upd (o := .tup [.str "endless", .str "none"]) nTT
      have s9f := (s9e.trans sf).trans sTT
      have sef := sf.trans sTT
      refine ⟨TT, _, rfl, .inr (SqT.of upd_same), rfl, rfl, rfl, _, rfl, iteN81 (by
        show (!decide (V.bl (decide (V.ref pc = V.non)) = V.bl (inV (.str (srt sc tl (sz sc tl j))) [.str "endless", .str "none"]))) = false
        rw [w3, decide_eq_false ct]
        rfl) ?_⟩
      generalize upd Hf TT (.tup [.str "endless", .str "none"]) = Hg at *
      try dsimp only [tNext]
      have epc' := sef _ _ (e' _ _ (sd _ _ epc))
      have epe' := sef _ _ epe
      refine ⟨_, rfl, rfl, _, rfl, iteY81 (by rfl) ?_⟩
      refine ⟨_, rfl, _, rfl, pc, _, _, _, rfl, rfl, SqT.of epc', rfl, _, _, rfl, rfl, _, rfl, pc, _, _, _, rfl, rfl, SqT.of epc', rfl, (by show 2 ≤ sizeLine; decide), fun U nU => ?_⟩
      have sU := same_upd (o := .tup [.int (0 - wn sc tl j), .int (wp sc tl j)]) nU
      have eU : (upd Hg U (.tup [.int (0 - wn sc tl j), .int (wp sc tl j)])) U = some (.tup [.int (0 - wn sc tl j), .int (wp sc tl j)]) := upd_same
      have epu := sU _ _ epe'
      rw [v2, v3] at epu
      have s9g := s9f.trans sU
      refine ⟨.tuple ([0 - wn sc tl j, wp sc tl j].map PyData.int), .tuple ([0 - wn sc tl j, wp sc tl j].map PyData.int), .tup (SqT.of epu) (dp_ints [0 - wn sc tl j, wp sc tl j]), .tup (SqT.of eU) (dp_ints [0 - wn sc tl j, wp sc tl j]), (by rfl), (by rfl), ?_⟩
      rw [PySem.SeqAt.eqv_refl (.tuple ([0 - wn sc tl j, wp sc tl j].map PyData.int)) (PySem.SeqAt.canLay_of_shaped (by rfl))]
      generalize upd Hg U _ = Hh at *
      refine ⟨_, rfl, iteN81 (by rfl) ?_⟩
      try dsimp only [tNext]
      try simp only [L2.start, List.map_cons, List.map_nil, List.length_cons, List.length_nil, List.replicate_succ, List.replicate_zero, List.cons_append, List.nil_append, List.set_cons_succ, List.set_cons_zero, Nat.reduceAdd, Nat.reduceSub, Nat.zero_add]
      have tg := s9g _ _ t9
      refine ⟨_, rfl, .inl ⟨rfl, _, SqL.of tg⟩, _, rfl, T, _, _, rfl, rfl, tg, (by rw [List.length_map]; unfold txT; rw [List.length_map, List.length_range]; exact Nat.lt_of_lt_of_le (show j < 1000 by omega) (by decide)), ?_⟩
      refine ⟨_, _, _, _, _, _, _, rfl, (k9.trans (Keep.ofSame s9g)).trans (fun y o e n => by rw [upd_ne n]; exact e), ?_⟩
      rw [upd_same, txT_succ, List.map_append]
      rfl
  rintro σ H9 ⟨y6, y7, y8, y9, y10, y11, y12, rfl, k9, t9⟩
  have ln : ws.length = N := by rw [hws, List.length_map, List.length_range]
  rw [ln] at t9
  have F9 := F4.keep k9 nxT
  have hy9 := k9 _ _ hy4 nxT
  have eW9 := k9 _ _ eW nWT
  refine ⟨_, rfl, W, rfl, ⟨_, SqL.of eW9⟩, fun D nD => ?_⟩
  refine lc_it (walk_list (K := K) (a := W) (xs := ws)) (fun i H5 => Same H9 H5 ∧ H5 D = some (.lst ((fineT sc tl i).map V.str))) ⟨same_upd nD, upd_same⟩ (fun i H5 _ ⟨s5, _⟩ => SqL.of (s5 _ _ eW9)) ?_ ?_
  · rintro i v H5 H6 hi ⟨s5, eD⟩ ⟨rfl, hz⟩
    rw [ln] at hi
    rw [hws] at hz
    have ev := wd_at hi hz
    subst ev
    have hip : i < 2 ^ (1 + sc + tl) := hN ▸ hi
    dsimp only [gName]
    refine ⟨rfl, ?_⟩
    refine ⟨_, rfl, x, dy, _, rfl, s5 _ _ hy9, rfl, _, rfl, x, sc, tl, i, rfl, F9.same s5, fun H7 s7 => ⟨rfl, _, rfl, ?_⟩⟩
    by_cases c : srt sc tl (sz sc tl i) = "none"
    · refine iteN81 (by
        show (!decide (V.str (srt sc tl (sz sc tl i)) = V.str "none")) = false
        rw [decide_eq_true (congrArg V.str c)]
        rfl) ?_
      rw [fineT_succ, if_pos c]
      exact ⟨s5.trans s7, s7 _ _ eD⟩
    · refine iteY81 (by
        show (!decide (V.str (srt sc tl (sz sc tl i)) = V.str "none")) = true
        rw [decide_eq_false (fun z => c (V.str.inj z))]
        rfl) ?_
      have s57 := s5.trans s7
      refine ⟨_, rfl, _, rfl, x, sc, tl, i, rfl, F9.same s57, hs, hip, fun H8 s8 => ?_⟩
      have s58 := s57.trans s8
      have eD8 := s8 _ _ (s7 _ _ eD)
      refine ⟨_, eD8, (by rw [List.length_map]; exact Nat.lt_of_lt_of_le (show (fineT sc tl i).length < 1000 by have := fineT_len sc tl i; omega) (by decide)), fun y o e => ?_, ?_⟩
      · rw [upd_ne (ne_of_none e nD)]
        exact s58 _ _ e
      · rw [upd_same, fineT_succ, if_neg c, List.map_append]
        rfl
  · rintro H5 ⟨s5, eD⟩
    rw [ln] at eD
    dsimp only [gName]
    try simp only [L2.start, List.map_cons, List.map_nil, List.length_cons, List.length_nil, List.replicate_succ, List.replicate_zero, List.cons_append, List.nil_append, List.set_cons_succ, List.set_cons_zero, Nat.reduceAdd, Nat.reduceSub, Nat.zero_add]
    have t5 := s5 _ _ t9
    have lT : (txT sc tl N).length = N := by unfold txT; rw [List.length_map, List.length_range]
    have fl := fineT_len sc tl N
    refine ⟨_, rfl, T, txT sc tl N, rfl, SqL.of t5, e1, by omega, ?_⟩
    rw [lT]
    refine ⟨_, rfl, rfl, _, rfl, iteN81 (by
      show (!decide (V.int (N : Int) = V.int (N : Int))) = false
      rw [decide_eq_true rfl]
      rfl) ?_⟩
    refine ⟨_, rfl, D, fineT sc tl N, rfl, SqL.of eD, e2, by omega, ?_⟩
    refine ⟨_, rfl, D, _, rfl, .inl (SqL.of eD), ?_⟩
    rw [List.length_map]
    refine ⟨rfl, _, rfl, iteN81 (by
      show (!decide (V.int ((fineT sc tl N).length : Int) = V.int ((fineT sc tl N).length : Int))) = false
      rw [decide_eq_true rfl]
      rfl) ?_⟩
    have F5 := F9.same s5
    have hy5 := s5 _ _ hy9
    refine ⟨_, rfl, x, dy, _, rfl, hy5, rfl, _, rfl, x, sc, tl, _, rfl, F5, ?_⟩
    rw [e5]
    refine ⟨_, rfl, iteN81 (by rfl) ?_⟩
    refine ⟨_, rfl, x, dy, _, rfl, hy5, rfl, _, rfl, x, sc, tl, _, rfl, F5, ?_⟩
    rw [e6]
    refine ⟨_, rfl, iteN81 (by rfl) ?_⟩
    try dsimp only [tNext]
    try simp only [L2.start, List.map_cons, List.map_nil, List.length_cons, List.length_nil, List.replicate_succ, List.replicate_zero, List.cons_append, List.nil_append, List.set_cons_succ, List.set_cons_zero, Nat.reduceAdd, Nat.reduceSub, Nat.zero_add]
    have hW5 : WdAt K H5 W (2 ^ (1 + sc + tl)) := by
      rw [← hN]
      unfold WdAt
      rw [← hws]
      exact SqL.of (s5 _ _ eW9)
    refine ⟨_, rfl, _, rfl, x, W, sc, tl, rfl, F5, hs, hW5, fun H6 s6 => ?_⟩
    refine ⟨_, rfl, iteY81 (by rfl) ?_⟩
    refine ⟨_, rfl, x, sc, tl, rfl, F5.same s6, hs, fun H7 s7 => ?_⟩
    refine ⟨_, rfl, iteY81 (by rfl) ?_⟩
    have s67 := s6.trans s7
    refine ⟨_, rfl, _, rfl, x, W, sc, tl, rfl, F5.same s67, hs, s67.seq hW5, fun H8 s8 => ?_⟩
    refine q _ fun y o e n => ?_
    have a3 := s3 _ _ (k2 _ _ (k1 _ _ e n) n)
    exact s8 _ _ (s67 _ _ (s5 _ _ (k9 _ _ (s4 _ _ a3) (fun z => by rw [z, n3T] at a3; cases a3))))
end
section
variable {P : Program} {w : World} {K : PySem.W.Frag} {mg : Str → Option Value} {base : Heap}
variable {C : Addr} {za : Nat → Addr} {zl : Nat → FuncData} {t26 t27 t28 : Tok}
def spLaw (K : PySem.W.Frag) : Sp := fun vs H Q _ => ∃ (a : Addr) (ns : List Int), vs = [.ref a] ∧ SqL K H a (ns.map V.int) ∧ ns.length ≤ 63 ∧ ∀ H', Q (.bl true) H'
theorem ok_law {f : Addr} {fd : FuncData} (F : Fun K "law" "law" s_law f fd) (B : Bl mg) (L : LL K mg C za zl t26 t27 t28) : FnOk P w K mg base CX0 9 f fd ["_law_script"] (spLaw K) := by
  have G__law_folded : FnOk P w K mg base CX0 8 (za 12) (zl 12) ["_law_script", "_law_size"] (spFolded K) := ok_folded L.F__law_folded B
  have G__law_box : FnOk P w K mg base CX0 8 (za 10) (zl 10) ["_law_script", "_law_k"] (spBox K) := ok_box L.F__law_box B
  have G__law_right : FnOk P w K mg base CX0 8 (za 17) (zl 17) ["_law_box_here"] spRight := (ok__law_right B L).mono (by decide)
  refine F.ok sc_law (fun vs H Q E h => ?_) (fun cdv A outer s H vs Q E hr h => ?_)
  · obtain ⟨a, ns, rfl, _⟩ := h
    rfl
  obtain ⟨a, ns, rfl, hS, h63, q⟩ := h
  refine ⟨_, (pss_cons (ps_set (i := 1) sc_law.nd rfl (.inr rfl) (pe_call G__law_folded hr (by rfl) L.m__law_folded L.F__law_folded.kp L.b__law_folded .nil pass0 (pa_cons (pv 0) (pa_cons pe_int pa_nil))))
    (pss_one (ps_ret (pe_callB (cr_all rfl) (by rfl) B.all boot_all (pa_cons (pe_lc (own := [("_law_k", 2)]) (by rfl) sc_law.nd (pi_range1 (by rfl) B.range (pa_cons (pe_callB (call_max2 rfl) (by rfl) B.max boot_max (pa_cons pe_int (pa_cons (pe_callB call_len_seq (by rfl) B.len PySem.boot_len (pa_cons (pv 1) pa_nil)) pa_nil))) pa_nil)) (blkOk_by (own := [("_law_k", 2)]) (N := ["_law_script", "_law_cells", "_law_k"]) (sc := defScope s_law) (by decide +kernel)) (fun _ _ _ _ _ => pg_name (i := 2) sc_law.nd rfl (Or.inl rfl)) (fun _ _ _ _ _ => pts_nil) (fun _ _ _ _ _ => (pe_call G__law_right hr (by rfl) L.m__law_right L.F__law_right.kp L.b__law_right .nil pass0 (pa_cons (pe_call G__law_box hr (by rfl) L.m__law_box L.F__law_box.kp L.b__law_box .nil pass0 (pa_cons (pv 1) (pa_cons (pv 2) pa_nil))) pa_nil)))) pa_nil))))), ?_⟩
  refine ⟨_, rfl, a, ns, 2, rfl, hS, h63, by decide, by decide, fun p H1 zs np s1 ep lz => ?_⟩
  have lz2 : zs.length ≤ 2 := by omega
  refine ⟨_, rfl, p, _, rfl, .inl (SqL.of ep), _, _, rfl, ?_⟩
  obtain ⟨n, en, hn⟩ : ∃ n : Nat, (if (((zs.map V.int).length : Nat) : Int) > 1 then (((zs.map V.int).length : Nat) : Int) else 1) = (n : Int) ∧ n ≤ 2 := by
    rw [List.length_map]
    split
    · exact ⟨zs.length, rfl, lz2⟩
    · exact ⟨1, rfl, by decide⟩
  rw [en]
  refine ⟨_, rfl, by omega, by omega, fun D nD => ?_⟩
  rw [Int.toNat_natCast]
  refine lc_range (n := n) (fun j H7 => Same H1 H7 ∧ H7 D = some (.lst (List.replicate j (.bl true)))) ⟨same_upd nD, upd_same⟩ ?_ ?_
  · rintro j H7 hj ⟨s7, eD⟩
    refine ⟨rfl, yesT ?_⟩
    refine ⟨_, rfl, _, rfl, p, zs, _, rfl, SqL.of (s7 _ _ ep), by omega, by omega, fun b H8 nb s8 B8 => ?_⟩
    refine ⟨b, _, rfl, B8, by omega, fun H9 k9 => ?_⟩
    have nDb : D ≠ b := ne_of_none eD nb
    refine ⟨_, k9 _ _ (s8 _ _ eD) nDb, ?_, fun x u e => ?_, ?_⟩
    · rw [List.length_replicate]
      exact small1000 (by omega)
    · rw [upd_ne (ne_of_none e nD)]
      exact k9 _ _ (s8 _ _ (s7 _ _ e)) (ne_of_none (s7 _ _ e) nb)
    · rw [upd_same, repl_snoc]
  · rintro H7 ⟨s7, eD⟩
    refine ⟨D, List.replicate n true, rfl, .inl (.inl (by rw [List.map_replicate]; exact eD)), ?_⟩
    rw [all_repl]
    exact q _
end
theorem all_mk {l : PySem.W.OpenLaw} {w : World} {K : PySem.W.Frag} {h : Heap} {mg : Str → Option Value} {fa f1 f2 f3 f4 f5 f6 f7 f8 f9 f10 f11 f12 f13 f14 f15 f16 f17 f18 f19 f20 f21 f22 f23 f24 f25 f26 f27 f28 f29 f30 f31 C : Addr} (X : K.In h) (G : h.Ns mainGlobals mg) (hfa : mg "law" = some (.ref fa))
    {od1 an1 od2 an2 od3 an3 od4 an4 od5 an5 od6 an6 od7 an7 od8 an8 od9 an9 od10 an10 od11 an11 od12 an12 od13 an13 od14 an14 od15 an15 od16 an16 od17 an17 od18 an18 od19 an19 od20 an20 od21 an21 od22 an22 od23 an23 od24 an24 od25 an25 od26 an26 od27 an27 od28 an28 od29 an29 od30 an30 od31 an31 : Option Addr} {sl1 sl2 sl3 sl4 sl5 sl6 sl7 sl8 sl9 sl10 sl11 sl12 sl13 sl14 sl15 sl16 sl17 sl18 sl19 sl20 sl21 sl22 sl23 sl24 sl25 sl26 sl27 sl28 sl29 sl30 sl31 : Array (Option Value)} {oc1 kV1 dc1 pm1 cd1 ct1 oc2 kV2 dc2 pm2 cd2 ct2 oc3 kV3 dc3 pm3 cd3 ct3 oc4 kV4 dc4 pm4 cd4 ct4 oc5 kV5 dc5 pm5 cd5 ct5 oc6 kV6 dc6 pm6 cd6 ct6 oc7 kV7 dc7 pm7 cd7 ct7 oc8 kV8 dc8 pm8 cd8 ct8 oc9 kV9 dc9 pm9 cd9 ct9 oc10 kV10 dc10 pm10 cd10 ct10 oc11 kV11 dc11 pm11 cd11 ct11 oc12 kV12 dc12 pm12 cd12 ct12 oc13 kV13 dc13 pm13 cd13 ct13 oc14 kV14 dc14 pm14 cd14 ct14 oc15 kV15 dc15 pm15 cd15 ct15 oc16 kV16 dc16 pm16 cd16 ct16 oc17 kV17 dc17 pm17 cd17 ct17 oc18 kV18 dc18 pm18 cd18 ct18 oc19 kV19 dc19 pm19 cd19 ct19 oc20 kV20 dc20 pm20 cd20 ct20 oc21 kV21 dc21 pm21 cd21 ct21 oc22 kV22 dc22 pm22 cd22 ct22 oc23 kV23 dc23 pm23 cd23 ct23 oc24 kV24 dc24 pm24 cd24 ct24 oc25 kV25 dc25 pm25 cd25 ct25 oc26 kV26 dc26 pm26 cd26 ct26 oc27 kV27 dc27 pm27 cd27 ct27 oc28 kV28 dc28 pm28 cd28 ct28 oc29 kV29 dc29 pm29 cd29 ct29 oc30 kV30 dc30 pm30 cd30 ct30 oc31 kV31 dc31 pm31 cd31 ct31 oT27 oT28 oT29 : Value}
    {vT27 vT28 vT29 : Tok}
    {T27 T28 T29 : Addr} {dT27 dT28 dT29 : Option Addr} {nT27 nT28 nT29 : Nat} {sT27 sT28 sT29 : Array (Option Value)}
    (a1 : PySem.W.nsIn K mainGlobals "is_number" = some (some (.ref f1))) (l1 : K.lookup f1 = some ⟨oc1, od1, .func (PySem.W.fnOf "is_number" "is_number" (defArgs s_is_number) (defBody s_is_number) (defScope s_is_number) .none kV1 dc1 pm1 an1 cd1 ct1), sl1⟩) (c1 : PySem.W.codeIn K cd1 "is_number" = true) (k1 : PySem.W.keepIn K (.ref f1) = true)
    (a2 : PySem.W.nsIn K mainGlobals "is_number_in" = some (some (.ref f2))) (l2 : K.lookup f2 = some ⟨oc2, od2, .func (PySem.W.fnOf "is_number_in" "is_number_in" (defArgs s_is_number_in) (defBody s_is_number_in) (defScope s_is_number_in) .none kV2 dc2 pm2 an2 cd2 ct2), sl2⟩) (c2 : PySem.W.codeIn K cd2 "is_number_in" = true) (k2 : PySem.W.keepIn K (.ref f2) = true)
    (a3 : PySem.W.nsIn K mainGlobals "spelled" = some (some (.ref f3))) (l3 : K.lookup f3 = some ⟨oc3, od3, .func (PySem.W.fnOf "spelled" "spelled" (defArgs s_spelled) (defBody s_spelled) (defScope s_spelled) .none kV3 dc3 pm3 an3 cd3 ct3), sl3⟩) (c3 : PySem.W.codeIn K cd3 "spelled" = true) (k3 : PySem.W.keepIn K (.ref f3) = true)
    (a4 : PySem.W.nsIn K mainGlobals "bits_text" = some (some (.ref f4))) (l4 : K.lookup f4 = some ⟨oc4, od4, .func (PySem.W.fnOf "bits_text" "bits_text" (defArgs s_bits_text) (defBody s_bits_text) (defScope s_bits_text) .none kV4 dc4 pm4 an4 cd4 ct4), sl4⟩) (c4 : PySem.W.codeIn K cd4 "bits_text" = true) (k4 : PySem.W.keepIn K (.ref f4) = true)
    (a5 : PySem.W.nsIn K mainGlobals "word_in" = some (some (.ref f5))) (l5 : K.lookup f5 = some ⟨oc5, od5, .func (PySem.W.fnOf "word_in" "word_in" (defArgs s_word_in) (defBody s_word_in) (defScope s_word_in) .none kV5 dc5 pm5 an5 cd5 ct5), sl5⟩) (c5 : PySem.W.codeIn K cd5 "word_in" = true) (k5 : PySem.W.keepIn K (.ref f5) = true)
    (a6 : PySem.W.nsIn K mainGlobals "worth_text" = some (some (.ref f6))) (l6 : K.lookup f6 = some ⟨oc6, od6, .func (PySem.W.fnOf "worth_text" "worth_text" (defArgs s_worth_text) (defBody s_worth_text) (defScope s_worth_text) .none kV6 dc6 pm6 an6 cd6 ct6), sl6⟩) (c6 : PySem.W.codeIn K cd6 "worth_text" = true) (k6 : PySem.W.keepIn K (.ref f6) = true)
    (a7 : PySem.W.nsIn K mainGlobals "compared" = some (some (.ref f7))) (l7 : K.lookup f7 = some ⟨oc7, od7, .func (PySem.W.fnOf "compared" "compared" (defArgs s_compared) (defBody s_compared) (defScope s_compared) .none kV7 dc7 pm7 an7 cd7 ct7), sl7⟩) (c7 : PySem.W.codeIn K cd7 "compared" = true) (k7 : PySem.W.keepIn K (.ref f7) = true)
    (a8 : PySem.W.nsIn K mainGlobals "rank_of" = some (some (.ref f8))) (l8 : K.lookup f8 = some ⟨oc8, od8, .func (PySem.W.fnOf "rank_of" "rank_of" (defArgs s_rank_of) (defBody s_rank_of) (defScope s_rank_of) .none kV8 dc8 pm8 an8 cd8 ct8), sl8⟩) (c8 : PySem.W.codeIn K cd8 "rank_of" = true) (k8 : PySem.W.keepIn K (.ref f8) = true)
    (a9 : PySem.W.nsIn K mainGlobals "size_of" = some (some (.ref f9))) (l9 : K.lookup f9 = some ⟨oc9, od9, .func (PySem.W.fnOf "size_of" "size_of" (defArgs s_size_of) (defBody s_size_of) (defScope s_size_of) .none kV9 dc9 pm9 an9 cd9 ct9), sl9⟩) (c9 : PySem.W.codeIn K cd9 "size_of" = true) (k9 : PySem.W.keepIn K (.ref f9) = true)
    (a10 : PySem.W.nsIn K mainGlobals "_law_box" = some (some (.ref f10))) (l10 : K.lookup f10 = some ⟨oc10, od10, .func (PySem.W.fnOf "_law_box" "_law_box" (defArgs sBox) (defBody sBox) (defScope sBox) .none kV10 dc10 pm10 an10 cd10 ct10), sl10⟩) (c10 : PySem.W.codeIn K cd10 "_law_box" = true) (k10 : PySem.W.keepIn K (.ref f10) = true)
    (a11 : PySem.W.nsIn K mainGlobals "_law_take" = some (some (.ref f11))) (l11 : K.lookup f11 = some ⟨oc11, od11, .func (PySem.W.fnOf "_law_take" "_law_take" (defArgs sTake) (defBody sTake) (defScope sTake) .none kV11 dc11 pm11 an11 cd11 ct11), sl11⟩) (c11 : PySem.W.codeIn K cd11 "_law_take" = true) (k11 : PySem.W.keepIn K (.ref f11) = true)
    (a12 : PySem.W.nsIn K mainGlobals "_law_folded" = some (some (.ref f12))) (l12 : K.lookup f12 = some ⟨oc12, od12, .func (PySem.W.fnOf "_law_folded" "_law_folded" (defArgs sFolded) (defBody sFolded) (defScope sFolded) .none kV12 dc12 pm12 an12 cd12 ct12), sl12⟩) (c12 : PySem.W.codeIn K cd12 "_law_folded" = true) (k12 : PySem.W.keepIn K (.ref f12) = true)
    (a13 : PySem.W.nsIn K mainGlobals "_law_sorts_right" = some (some (.ref f13))) (l13 : K.lookup f13 = some ⟨oc13, od13, .func (PySem.W.fnOf "_law_sorts_right" "_law_sorts_right" (defArgs s__law_sorts_right) (defBody s__law_sorts_right) (defScope s__law_sorts_right) .none kV13 dc13 pm13 an13 cd13 ct13), sl13⟩) (c13 : PySem.W.codeIn K cd13 "_law_sorts_right" = true) (k13 : PySem.W.keepIn K (.ref f13) = true)
    (a14 : PySem.W.nsIn K mainGlobals "_law_rise_right" = some (some (.ref f14))) (l14 : K.lookup f14 = some ⟨oc14, od14, .func (PySem.W.fnOf "_law_rise_right" "_law_rise_right" (defArgs s__law_rise_right) (defBody s__law_rise_right) (defScope s__law_rise_right) .none kV14 dc14 pm14 an14 cd14 ct14), sl14⟩) (c14 : PySem.W.codeIn K cd14 "_law_rise_right" = true) (k14 : PySem.W.keepIn K (.ref f14) = true)
    (a15 : PySem.W.nsIn K mainGlobals "_law_place" = some (some (.ref f15))) (l15 : K.lookup f15 = some ⟨oc15, od15, .func (PySem.W.fnOf "_law_place" "_law_place" (defArgs s__law_place) (defBody s__law_place) (defScope s__law_place) .none kV15 dc15 pm15 an15 cd15 ct15), sl15⟩) (c15 : PySem.W.codeIn K cd15 "_law_place" = true) (k15 : PySem.W.keepIn K (.ref f15) = true)
    (a16 : PySem.W.nsIn K mainGlobals "_law_pairs_right" = some (some (.ref f16))) (l16 : K.lookup f16 = some ⟨oc16, od16, .func (PySem.W.fnOf "_law_pairs_right" "_law_pairs_right" (defArgs s__law_pairs_right) (defBody s__law_pairs_right) (defScope s__law_pairs_right) .none kV16 dc16 pm16 an16 cd16 ct16), sl16⟩) (c16 : PySem.W.codeIn K cd16 "_law_pairs_right" = true) (k16 : PySem.W.keepIn K (.ref f16) = true)
    (a17 : PySem.W.nsIn K mainGlobals "_law_right" = some (some (.ref f17))) (l17 : K.lookup f17 = some ⟨oc17, od17, .func (PySem.W.fnOf "_law_right" "_law_right" (defArgs s__law_right) (defBody s__law_right) (defScope s__law_right) .none kV17 dc17 pm17 an17 cd17 ct17), sl17⟩) (c17 : PySem.W.codeIn K cd17 "_law_right" = true) (k17 : PySem.W.keepIn K (.ref f17) = true)
    (a18 : PySem.W.nsIn K mainGlobals "law" = some (some (.ref f18))) (l18 : K.lookup f18 = some ⟨oc18, od18, .func (PySem.W.fnOf "law" "law" (defArgs s_law) (defBody s_law) (defScope s_law) .none kV18 dc18 pm18 an18 cd18 ct18), sl18⟩) (c18 : PySem.W.codeIn K cd18 "law" = true) (k18 : PySem.W.keepIn K (.ref f18) = true)
    (aC : PySem.W.nsIn K mainGlobals "Form" = some (some (.ref C)))
    (pgC : PySem.W.plainGet K C Str.empty = true) (hdC : PySem.W.hasDictIn K C = true) (poC : PySem.W.plainOver K C = true) (saC : PySem.W.findIn K (.ref C) "__setattr__" = some (some (.builtin "object.__setattr__"))) (mkC : PySem.W.makesIn K C = true) (kcC : PySem.W.keepIn K (.ref C) = true)
    (naC0 : PySem.W.findIn K (.ref C) "scale" = some none)
    (naC1 : PySem.W.findIn K (.ref C) "tail" = some none)
    (a19 : PySem.W.findIn K (.ref C) "__init__" = some (some (.ref f19))) (i19 : PySem.W.isFn K (.ref f19) = true) (l19 : K.lookup f19 = some ⟨oc19, od19, .func (PySem.W.fnOf "__init__" "Form.__init__" (defArgs s_Form___init__) (defBody s_Form___init__) (defScope s_Form___init__) .none kV19 dc19 pm19 an19 cd19 ct19), sl19⟩) (c19 : PySem.W.codeIn K cd19 "Form.__init__" = true) (k19 : PySem.W.keepIn K (.ref f19) = true)
    (a20 : PySem.W.findIn K (.ref C) "width" = some (some (.ref f20))) (i20 : PySem.W.isFn K (.ref f20) = true) (l20 : K.lookup f20 = some ⟨oc20, od20, .func (PySem.W.fnOf "width" "Form.width" (defArgs s_Form_width) (defBody s_Form_width) (defScope s_Form_width) .none kV20 dc20 pm20 an20 cd20 ct20), sl20⟩) (c20 : PySem.W.codeIn K cd20 "Form.width" = true) (k20 : PySem.W.keepIn K (.ref f20) = true)
    (a21 : PySem.W.findIn K (.ref C) "bias" = some (some (.ref f21))) (i21 : PySem.W.isFn K (.ref f21) = true) (l21 : K.lookup f21 = some ⟨oc21, od21, .func (PySem.W.fnOf "bias" "Form.bias" (defArgs s_Form_bias) (defBody s_Form_bias) (defScope s_Form_bias) .none kV21 dc21 pm21 an21 cd21 ct21), sl21⟩) (c21 : PySem.W.codeIn K cd21 "Form.bias" = true) (k21 : PySem.W.keepIn K (.ref f21) = true)
    (a22 : PySem.W.findIn K (.ref C) "top" = some (some (.ref f22))) (i22 : PySem.W.isFn K (.ref f22) = true) (l22 : K.lookup f22 = some ⟨oc22, od22, .func (PySem.W.fnOf "top" "Form.top" (defArgs s_Form_top) (defBody s_Form_top) (defScope s_Form_top) .none kV22 dc22 pm22 an22 cd22 ct22), sl22⟩) (c22 : PySem.W.codeIn K cd22 "Form.top" = true) (k22 : PySem.W.keepIn K (.ref f22) = true)
    (a23 : PySem.W.findIn K (.ref C) "parts" = some (some (.ref f23))) (i23 : PySem.W.isFn K (.ref f23) = true) (l23 : K.lookup f23 = some ⟨oc23, od23, .func (PySem.W.fnOf "parts" "Form.parts" (defArgs s_Form_parts) (defBody s_Form_parts) (defScope s_Form_parts) .none kV23 dc23 pm23 an23 cd23 ct23), sl23⟩) (c23 : PySem.W.codeIn K cd23 "Form.parts" = true) (k23 : PySem.W.keepIn K (.ref f23) = true)
    (a24 : PySem.W.findIn K (.ref C) "word_of" = some (some (.ref f24))) (i24 : PySem.W.isFn K (.ref f24) = true) (l24 : K.lookup f24 = some ⟨oc24, od24, .func (PySem.W.fnOf "word_of" "Form.word_of" (defArgs s_Form_word_of) (defBody s_Form_word_of) (defScope s_Form_word_of) .none kV24 dc24 pm24 an24 cd24 ct24), sl24⟩) (c24 : PySem.W.codeIn K cd24 "Form.word_of" = true) (k24 : PySem.W.keepIn K (.ref f24) = true)
    (a25 : PySem.W.findIn K (.ref C) "is_word" = some (some (.ref f25))) (i25 : PySem.W.isFn K (.ref f25) = true) (l25 : K.lookup f25 = some ⟨oc25, od25, .func (PySem.W.fnOf "is_word" "Form.is_word" (defArgs s_Form_is_word) (defBody s_Form_is_word) (defScope s_Form_is_word) .none kV25 dc25 pm25 an25 cd25 ct25), sl25⟩) (c25 : PySem.W.codeIn K cd25 "Form.is_word" = true) (k25 : PySem.W.keepIn K (.ref f25) = true)
    (a26 : PySem.W.findIn K (.ref C) "sort_of" = some (some (.ref f26))) (i26 : PySem.W.isFn K (.ref f26) = true) (l26 : K.lookup f26 = some ⟨oc26, od26, .func (PySem.W.fnOf "sort_of" "Form.sort_of" (defArgs s_Form_sort_of) (defBody s_Form_sort_of) (defScope s_Form_sort_of) .none kV26 dc26 pm26 an26 cd26 ct26), sl26⟩) (c26 : PySem.W.codeIn K cd26 "Form.sort_of" = true) (k26 : PySem.W.keepIn K (.ref f26) = true)
    (a27 : PySem.W.findIn K (.ref C) "nought" = some (some (.ref f27))) (i27 : PySem.W.isFn K (.ref f27) = true) (l27 : K.lookup f27 = some ⟨oc27, od27, .func (PySem.W.fnOf "nought" "Form.nought" (defArgs s_Form_nought) (defBody s_Form_nought) (defScope s_Form_nought) (.ref T27) kV27 dc27 pm27 an27 cd27 ct27), sl27⟩) (c27 : PySem.W.codeIn K cd27 "Form.nought" = true) (k27 : PySem.W.keepIn K (.ref f27) = true)
    (t27 : K.lookup T27 = some ⟨oT27, dT27, .seq #[.int 0 vT27] nT27, sT27⟩)
    (a28 : PySem.W.findIn K (.ref C) "endless" = some (some (.ref f28))) (i28 : PySem.W.isFn K (.ref f28) = true) (l28 : K.lookup f28 = some ⟨oc28, od28, .func (PySem.W.fnOf "endless" "Form.endless" (defArgs s_Form_endless) (defBody s_Form_endless) (defScope s_Form_endless) (.ref T28) kV28 dc28 pm28 an28 cd28 ct28), sl28⟩) (c28 : PySem.W.codeIn K cd28 "Form.endless" = true) (k28 : PySem.W.keepIn K (.ref f28) = true)
    (t28 : K.lookup T28 = some ⟨oT28, dT28, .seq #[.int 0 vT28] nT28, sT28⟩)
    (a29 : PySem.W.findIn K (.ref C) "greatest" = some (some (.ref f29))) (i29 : PySem.W.isFn K (.ref f29) = true) (l29 : K.lookup f29 = some ⟨oc29, od29, .func (PySem.W.fnOf "greatest" "Form.greatest" (defArgs s_Form_greatest) (defBody s_Form_greatest) (defScope s_Form_greatest) (.ref T29) kV29 dc29 pm29 an29 cd29 ct29), sl29⟩) (c29 : PySem.W.codeIn K cd29 "Form.greatest" = true) (k29 : PySem.W.keepIn K (.ref f29) = true)
    (t29 : K.lookup T29 = some ⟨oT29, dT29, .seq #[.int 0 vT29] nT29, sT29⟩)
    (a30 : PySem.W.findIn K (.ref C) "turned" = some (some (.ref f30))) (i30 : PySem.W.isFn K (.ref f30) = true) (l30 : K.lookup f30 = some ⟨oc30, od30, .func (PySem.W.fnOf "turned" "Form.turned" (defArgs s_Form_turned) (defBody s_Form_turned) (defScope s_Form_turned) .none kV30 dc30 pm30 an30 cd30 ct30), sl30⟩) (c30 : PySem.W.codeIn K cd30 "Form.turned" = true) (k30 : PySem.W.keepIn K (.ref f30) = true)
    (a31 : PySem.W.findIn K (.ref C) "worth" = some (some (.ref f31))) (i31 : PySem.W.isFn K (.ref f31) = true) (l31 : K.lookup f31 = some ⟨oc31, od31, .func (PySem.W.fnOf "worth" "Form.worth" (defArgs s_Form_worth) (defBody s_Form_worth) (defScope s_Form_worth) .none kV31 dc31 pm31 an31 cd31 ct31), sl31⟩) (c31 : PySem.W.codeIn K cd31 "Form.worth" = true) (k31 : PySem.W.keepIn K (.ref f31) = true)
    (z1 : PySem.W.nsIn K mainGlobals "len" = some none)
    (z2 : PySem.W.nsIn K mainGlobals "abs" = some none)
    (z3 : PySem.W.nsIn K mainGlobals "int" = some none)
    (z4 : PySem.W.nsIn K mainGlobals "divmod" = some none)
    (z5 : PySem.W.nsIn K mainGlobals "list" = some none)
    (z6 : PySem.W.nsIn K mainGlobals "enumerate" = some none)
    (z7 : PySem.W.nsIn K mainGlobals "isinstance" = some none)
    (z8 : PySem.W.nsIn K mainGlobals "tuple" = some none)
    (z9 : PySem.W.nsIn K mainGlobals "str" = some none)
    (z10 : PySem.W.nsIn K mainGlobals "bool" = some none)
    (z11 : PySem.W.nsIn K mainGlobals "zip" = some none)
    (z12 : PySem.W.nsIn K mainGlobals "all" = some none)
    (z13 : PySem.W.nsIn K mainGlobals "range" = some none)
    (z14 : PySem.W.nsIn K mainGlobals "max" = some none)
    (z15 : PySem.W.nsIn K mainGlobals "any" = some none)
    (z16 : PySem.W.nsIn K mainGlobals "min" = some none)
    (z17 : PySem.W.nsIn K mainGlobals "sum" = some none)
    (zset : PySem.W.nsIn K mainGlobals "set" = some none)
    : ∃ fd : FuncData, (∀ (s : Shared) (v : Value), BindsTo s fd ⟨[v], []⟩ [("_law_script", v)]) ∧ ∀ base : Heap, K.In base → base.Ns mainGlobals mg → FnOk l.prog w K mg base CX0 9 fa fd ["_law_script"] (spLaw K) := by
  have e := hfa.symm.trans (PySem.W.mg_of X G a18)
  cases e
  have F1 := fun_mk (st := s_is_number) l1 c1 k1
  have b1 := F1.binds (ps := ["thing"]) fun _ _ _ _ _ _ us hl => match us, hl with | [_], _ => rfl
  have m1 := PySem.W.mg_of X G a1
  have F2 := fun_mk (st := s_is_number_in) l2 c2 k2
  have b2 := F2.binds (ps := ["least", "greatest", "thing"]) fun _ _ _ _ _ _ us hl => match us, hl with | [_, _, _], _ => rfl
  have m2 := PySem.W.mg_of X G a2
  have F3 := fun_mk (st := s_spelled) l3 c3 k3
  have b3 := F3.binds (ps := ["form", "word"]) fun _ _ _ _ _ _ us hl => match us, hl with | [_, _], _ => rfl
  have m3 := PySem.W.mg_of X G a3
  have F4 := fun_mk (st := s_bits_text) l4 c4 k4
  have b4 := F4.binds (ps := ["number", "many"]) fun _ _ _ _ _ _ us hl => match us, hl with | [_, _], _ => rfl
  have m4 := PySem.W.mg_of X G a4
  have F5 := fun_mk (st := s_word_in) l5 c5 k5
  have b5 := F5.binds (ps := ["form", "text"]) fun _ _ _ _ _ _ us hl => match us, hl with | [_, _], _ => rfl
  have m5 := PySem.W.mg_of X G a5
  have F6 := fun_mk (st := s_worth_text) l6 c6 k6
  have b6 := F6.binds (ps := ["form", "word"]) fun _ _ _ _ _ _ us hl => match us, hl with | [_, _], _ => rfl
  have m6 := PySem.W.mg_of X G a6
  have F7 := fun_mk (st := s_compared) l7 c7 k7
  have b7 := F7.binds (ps := ["form", "a", "b"]) fun _ _ _ _ _ _ us hl => match us, hl with | [_, _, _], _ => rfl
  have m7 := PySem.W.mg_of X G a7
  have F8 := fun_mk (st := s_rank_of) l8 c8 k8
  have b8 := F8.binds (ps := ["form", "word"]) fun _ _ _ _ _ _ us hl => match us, hl with | [_, _], _ => rfl
  have m8 := PySem.W.mg_of X G a8
  have F9 := fun_mk (st := s_size_of) l9 c9 k9
  have b9 := F9.binds (ps := ["form", "word"]) fun _ _ _ _ _ _ us hl => match us, hl with | [_, _], _ => rfl
  have m9 := PySem.W.mg_of X G a9
  have F10 := fun_mk (st := sBox) l10 c10 k10
  have b10 := F10.binds (ps := ["_law_script", "_law_k"]) fun _ _ _ _ _ _ us hl => match us, hl with | [_, _], _ => rfl
  have m10 := PySem.W.mg_of X G a10
  have F11 := fun_mk (st := sTake) l11 c11 k11
  have b11 := F11.binds (ps := ["_law_box_here", "_law_size"]) fun _ _ _ _ _ _ us hl => match us, hl with | [_, _], _ => rfl
  have m11 := PySem.W.mg_of X G a11
  have F12 := fun_mk (st := sFolded) l12 c12 k12
  have b12 := F12.binds (ps := ["_law_script", "_law_size"]) fun _ _ _ _ _ _ us hl => match us, hl with | [_, _], _ => rfl
  have m12 := PySem.W.mg_of X G a12
  have F13 := fun_mk (st := s__law_sorts_right) l13 c13 k13
  have b13 := F13.binds (ps := ["_law_form", "_law_words"]) fun _ _ _ _ _ _ us hl => match us, hl with | [_, _], _ => rfl
  have m13 := PySem.W.mg_of X G a13
  have F14 := fun_mk (st := s__law_rise_right) l14 c14 k14
  have b14 := F14.binds (ps := ["_law_form"]) fun _ _ _ _ _ _ us hl => match us, hl with | [_], _ => rfl
  have m14 := PySem.W.mg_of X G a14
  have F15 := fun_mk (st := s__law_place) l15 c15 k15
  have b15 := F15.binds (ps := ["_law_form", "_law_word"]) fun _ _ _ _ _ _ us hl => match us, hl with | [_, _], _ => rfl
  have m15 := PySem.W.mg_of X G a15
  have F16 := fun_mk (st := s__law_pairs_right) l16 c16 k16
  have b16 := F16.binds (ps := ["_law_form", "_law_words"]) fun _ _ _ _ _ _ us hl => match us, hl with | [_, _], _ => rfl
  have m16 := PySem.W.mg_of X G a16
  have F17 := fun_mk (st := s__law_right) l17 c17 k17
  have b17 := F17.binds (ps := ["_law_box_here"]) fun _ _ _ _ _ _ us hl => match us, hl with | [_], _ => rfl
  have m17 := PySem.W.mg_of X G a17
  have F18 := fun_mk (st := s_law) l18 c18 k18
  have F19 := fun_mk (st := s_Form___init__) l19 c19 k19
  have b19 := F19.binds (ps := ["self", "scale", "tail"]) fun _ _ _ _ _ _ us hl => match us, hl with | [_, _, _], _ => rfl
  have M19 : Meth K C "__init__" f19 := ⟨a19, i19, k19⟩
  have F20 := fun_mk (st := s_Form_width) l20 c20 k20
  have b20 := F20.binds (ps := ["self"]) fun _ _ _ _ _ _ us hl => match us, hl with | [_], _ => rfl
  have M20 : Meth K C "width" f20 := ⟨a20, i20, k20⟩
  have F21 := fun_mk (st := s_Form_bias) l21 c21 k21
  have b21 := F21.binds (ps := ["self"]) fun _ _ _ _ _ _ us hl => match us, hl with | [_], _ => rfl
  have M21 : Meth K C "bias" f21 := ⟨a21, i21, k21⟩
  have F22 := fun_mk (st := s_Form_top) l22 c22 k22
  have b22 := F22.binds (ps := ["self"]) fun _ _ _ _ _ _ us hl => match us, hl with | [_], _ => rfl
  have M22 : Meth K C "top" f22 := ⟨a22, i22, k22⟩
  have F23 := fun_mk (st := s_Form_parts) l23 c23 k23
  have b23 := F23.binds (ps := ["self", "word"]) fun _ _ _ _ _ _ us hl => match us, hl with | [_, _], _ => rfl
  have M23 : Meth K C "parts" f23 := ⟨a23, i23, k23⟩
  have F24 := fun_mk (st := s_Form_word_of) l24 c24 k24
  have b24 := F24.binds (ps := ["self", "sign", "scale", "tail"]) fun _ _ _ _ _ _ us hl => match us, hl with | [_, _, _, _], _ => rfl
  have M24 : Meth K C "word_of" f24 := ⟨a24, i24, k24⟩
  have F25 := fun_mk (st := s_Form_is_word) l25 c25 k25
  have b25 := F25.binds (ps := ["self", "thing"]) fun _ _ _ _ _ _ us hl => match us, hl with | [_, _], _ => rfl
  have M25 : Meth K C "is_word" f25 := ⟨a25, i25, k25⟩
  have F26 := fun_mk (st := s_Form_sort_of) l26 c26 k26
  have b26 := F26.binds (ps := ["self", "word"]) fun _ _ _ _ _ _ us hl => match us, hl with | [_, _], _ => rfl
  have M26 : Meth K C "sort_of" f26 := ⟨a26, i26, k26⟩
  have F27 := funA_mk (st := s_Form_nought) l27 c27 k27
  have b27 := bindsA (st := s_Form_nought) (ps := ["self", "sign"]) l27 t27 fun _ _ _ _ _ _ us hl => match us, hl with | [_, _], _ => ⟨_, rfl, rfl⟩
  have d27 := bindsAD (st := s_Form_nought) (ps := ["self", "sign"]) l27 t27 fun _ _ _ _ _ _ us hl => match us, hl with | [_], _ => ⟨_, rfl, rfl⟩
  have kb27 := kbindsA (x1 := "sign") (st := s_Form_nought) (ps := ["self", "sign"]) l27 t27 fun _ _ _ _ _ _ _ _ => ⟨_, rfl, rfl⟩
  have M27 : Meth K C "nought" f27 := ⟨a27, i27, k27⟩
  have F28 := funA_mk (st := s_Form_endless) l28 c28 k28
  have b28 := bindsA (st := s_Form_endless) (ps := ["self", "sign"]) l28 t28 fun _ _ _ _ _ _ us hl => match us, hl with | [_, _], _ => ⟨_, rfl, rfl⟩
  have d28 := bindsAD (st := s_Form_endless) (ps := ["self", "sign"]) l28 t28 fun _ _ _ _ _ _ us hl => match us, hl with | [_], _ => ⟨_, rfl, rfl⟩
  have kb28 := kbindsA (x1 := "sign") (st := s_Form_endless) (ps := ["self", "sign"]) l28 t28 fun _ _ _ _ _ _ _ _ => ⟨_, rfl, rfl⟩
  have M28 : Meth K C "endless" f28 := ⟨a28, i28, k28⟩
  have F29 := funA_mk (st := s_Form_greatest) l29 c29 k29
  have b29 := bindsA (st := s_Form_greatest) (ps := ["self", "sign"]) l29 t29 fun _ _ _ _ _ _ us hl => match us, hl with | [_, _], _ => ⟨_, rfl, rfl⟩
  have d29 := bindsAD (st := s_Form_greatest) (ps := ["self", "sign"]) l29 t29 fun _ _ _ _ _ _ us hl => match us, hl with | [_], _ => ⟨_, rfl, rfl⟩
  have kb29 := kbindsA (x1 := "sign") (st := s_Form_greatest) (ps := ["self", "sign"]) l29 t29 fun _ _ _ _ _ _ _ _ => ⟨_, rfl, rfl⟩
  have M29 : Meth K C "greatest" f29 := ⟨a29, i29, k29⟩
  have F30 := fun_mk (st := s_Form_turned) l30 c30 k30
  have b30 := F30.binds (ps := ["self", "word"]) fun _ _ _ _ _ _ us hl => match us, hl with | [_, _], _ => rfl
  have M30 : Meth K C "turned" f30 := ⟨a30, i30, k30⟩
  have F31 := fun_mk (st := s_Form_worth) l31 c31 k31
  have b31 := F31.binds (ps := ["self", "word"]) fun _ _ _ _ _ _ us hl => match us, hl with | [_, _], _ => rfl
  have M31 : Meth K C "worth" f31 := ⟨a31, i31, k31⟩
  have clC : Cls K C := ⟨pgC, hdC, poC, saC⟩
  have mgC := PySem.W.mg_of X G aC
  have B : Bl mg := ⟨PySem.W.mg_none_of X G z1, PySem.W.mg_none_of X G z2, PySem.W.mg_none_of X G z3, PySem.W.mg_none_of X G z4, PySem.W.mg_none_of X G z5, PySem.W.mg_none_of X G z6, PySem.W.mg_none_of X G z7, PySem.W.mg_none_of X G z8, PySem.W.mg_none_of X G z9, PySem.W.mg_none_of X G z10, PySem.W.mg_none_of X G z11, PySem.W.mg_none_of X G z12, PySem.W.mg_none_of X G z13, PySem.W.mg_none_of X G z14, PySem.W.mg_none_of X G z15, PySem.W.mg_none_of X G z16, PySem.W.mg_none_of X G z17⟩
  refine ⟨PySem.W.fnOf "law" "law" (defArgs s_law) (defBody s_law) (defScope s_law) .none kV18 dc18 pm18 an18 cd18 ct18, fun s v => .of_eq rfl, fun base _ _ => ?_⟩
  have L : LL K mg C (pkz f1 [f2, f3, f4, f5, f6, f7, f8, f9, f10, f11, f12, f13, f14, f15, f16, f17, f19, f20, f21, f22, f23, f24, f25, f26, f27, f28, f29, f30, f31]) (pkz _ [_, _, _, _, _, _, _, _, _, _, _, _, _, _, _, _, _, _, _, _, _, _, _, _, _, _, _, _, _]) vT27 vT28 vT29 := ⟨F1, m1, b1, F2, m2, b2, F3, m3, b3, F4, m4, b4, F5, m5, b5, F6, m6, b6, F7, m7, b7, F8, m8, b8, F9, m9, b9, F10, m10, b10, F11, m11, b11, F12, m12, b12, F13, m13, b13, F14, m14, b14, F15, m15, b15, F16, m16, b16, F17, m17, b17, ⟨clC, naC0, naC1, mgC⟩, ⟨mkC, a19, i19, kcC⟩, F19, b19, F20, b20, M20, F21, b21, M21, F22, b22, M22, F23, b23, M23, F24, b24, M24, F25, b25, M25, F26, b26, M26, F27, b27, M27, d27, F28, b28, M28, d28, F29, b29, M29, d29, F30, b30, M30, F31, b31, M31, PySem.W.mg_none_of X G zset⟩
  exact ok_law F18 B L
end GZ
open PySem PySem.W PyProof.Rows
set_option maxRecDepth 100000 in
set_option maxHeartbeats 0 in
theorem PySem.Challenge.cw_guessedzeros_k81_whole_all_words_of_smal_holds : PySem.Challenge.rw_guessedzeros_k81_whole_all_words_of_smal.Holds := by
  w_on; o_law; k_headLK; (case hw => w_witness2)
  k_fill
  refine L2.walk_of (l := PySem.Challenge.rw_guessedzeros_k81_whole_all_words_of_smal) (n := 63) (k := 9) (x := "_law_script") (CX := fun _ => L2.CX0) (sp := fun w => GZ.spLaw _) rfl (by decide) rfl ⟨rfl, by decide, by decide⟩ (fun w h Y => PySem.W.kIn_of Y) ?F (fun _ _ a ns hl _ hS => ⟨a, ns, rfl, hS, hl, fun _ => rfl⟩) (fun _ _ _ _ _ h => h)
  case F =>
    intro w mg fa h KX G hmg
    refine' GZ.all_mk KX G hmg ?a1 ?l1 ?c1 ?k1 ?a2 ?l2 ?c2 ?k2 ?a3 ?l3 ?c3 ?k3 ?a4 ?l4 ?c4 ?k4 ?a5 ?l5 ?c5 ?k5 ?a6 ?l6 ?c6 ?k6 ?a7 ?l7 ?c7 ?k7 ?a8 ?l8 ?c8 ?k8 ?a9 ?l9 ?c9 ?k9 ?a10 ?l10 ?c10 ?k10 ?a11 ?l11 ?c11 ?k11 ?a12 ?l12 ?c12 ?k12 ?a13 ?l13 ?c13 ?k13 ?a14 ?l14 ?c14 ?k14 ?a15 ?l15 ?c15 ?k15 ?a16 ?l16 ?c16 ?k16 ?a17 ?l17 ?c17 ?k17 ?a18 ?l18 ?c18 ?k18 ?aC ?pgC ?hdC ?poC ?saC ?mkC ?kcC ?naC0 ?naC1 ?a19 ?i19 ?l19 ?c19 ?k19 ?a20 ?i20 ?l20 ?c20 ?k20 ?a21 ?i21 ?l21 ?c21 ?k21 ?a22 ?i22 ?l22 ?c22 ?k22 ?a23 ?i23 ?l23 ?c23 ?k23 ?a24 ?i24 ?l24 ?c24 ?k24 ?a25 ?i25 ?l25 ?c25 ?k25 ?a26 ?i26 ?l26 ?c26 ?k26 ?a27 ?i27 ?l27 ?c27 ?k27 ?t27 ?a28 ?i28 ?l28 ?c28 ?k28 ?t28 ?a29 ?i29 ?l29 ?c29 ?k29 ?t29 ?a30 ?i30 ?l30 ?c30 ?k30 ?a31 ?i31 ?l31 ?c31 ?k31 ?z1 ?z2 ?z3 ?z4 ?z5 ?z6 ?z7 ?z8 ?z9 ?z10 ?z11 ?z12 ?z13 ?z14 ?z15 ?z16 ?z17 ?zset
    (case a1 => k_is)
    (case l1 => k_is)
    (case c1 => k_is)
    (case k1 => k_is)
    (case a2 => k_is)
    (case l2 => k_is)
    (case c2 => k_is)
    (case k2 => k_is)
    (case a3 => k_is)
    (case l3 => k_is)
    (case c3 => k_is)
    (case k3 => k_is)
    (case a4 => k_is)
    (case l4 => k_is)
    (case c4 => k_is)
    (case k4 => k_is)
    (case a5 => k_is)
    (case l5 => k_is)
    (case c5 => k_is)
    (case k5 => k_is)
    (case a6 => k_is)
    (case l6 => k_is)
    (case c6 => k_is)
    (case k6 => k_is)
    (case a7 => k_is)
    (case l7 => k_is)
    (case c7 => k_is)
    (case k7 => k_is)
    (case a8 => k_is)
    (case l8 => k_is)
    (case c8 => k_is)
    (case k8 => k_is)
    (case a9 => k_is)
    (case l9 => k_is)
    (case c9 => k_is)
    (case k9 => k_is)
    (case a10 => k_is)
    (case l10 => k_is)
    (case c10 => k_is)
    (case k10 => k_is)
    (case a11 => k_is)
    (case l11 => k_is)
    (case c11 => k_is)
    (case k11 => k_is)
    (case a12 => k_is)
    (case l12 => k_is)
    (case c12 => k_is)
    (case k12 => k_is)
    (case a13 => k_is)
    (case l13 => k_is)
    (case c13 => k_is)
    (case k13 => k_is)
    (case a14 => k_is)
    (case l14 => k_is)
    (case c14 => k_is)
    (case k14 => k_is)
    (case a15 => k_is)
    (case l15 => k_is)
    (case c15 => k_is)
    (case k15 => k_is)
    (case a16 => k_is)
    (case l16 => k_is)
    (case c16 => k_is)
    (case k16 => k_is)
    (case a17 => k_is)
    (case l17 => k_is)
    (case c17 => k_is)
    (case k17 => k_is)
    (case a18 => k_is)
    (case l18 => k_is)
    (case c18 => k_is)
    (case k18 => k_is)
    (case aC => k_is)
    (case pgC => k_is)
    (case hdC => k_is)
    (case poC => k_is)
    (case saC => k_is)
    (case mkC => k_is)
    (case kcC => k_is)
    (case naC0 => k_is)
    (case naC1 => k_is)
    (case a19 => k_is)
    (case i19 => k_is)
    (case l19 => k_is)
    (case c19 => k_is)
    (case k19 => k_is)
    (case a20 => k_is)
    (case i20 => k_is)
    (case l20 => k_is)
    (case c20 => k_is)
    (case k20 => k_is)
    (case a21 => k_is)
    (case i21 => k_is)
    (case l21 => k_is)
    (case c21 => k_is)
    (case k21 => k_is)
    (case a22 => k_is)
    (case i22 => k_is)
    (case l22 => k_is)
    (case c22 => k_is)
    (case k22 => k_is)
    (case a23 => k_is)
    (case i23 => k_is)
    (case l23 => k_is)
    (case c23 => k_is)
    (case k23 => k_is)
    (case a24 => k_is)
    (case i24 => k_is)
    (case l24 => k_is)
    (case c24 => k_is)
    (case k24 => k_is)
    (case a25 => k_is)
    (case i25 => k_is)
    (case l25 => k_is)
    (case c25 => k_is)
    (case k25 => k_is)
    (case a26 => k_is)
    (case i26 => k_is)
    (case l26 => k_is)
    (case c26 => k_is)
    (case k26 => k_is)
    (case a27 => k_is)
    (case i27 => k_is)
    (case l27 => k_is)
    (case c27 => k_is)
    (case k27 => k_is)
    (case t27 => k_is)
    (case a28 => k_is)
    (case i28 => k_is)
    (case l28 => k_is)
    (case c28 => k_is)
    (case k28 => k_is)
    (case t28 => k_is)
    (case a29 => k_is)
    (case i29 => k_is)
    (case l29 => k_is)
    (case c29 => k_is)
    (case k29 => k_is)
    (case t29 => k_is)
    (case a30 => k_is)
    (case i30 => k_is)
    (case l30 => k_is)
    (case c30 => k_is)
    (case k30 => k_is)
    (case a31 => k_is)
    (case i31 => k_is)
    (case l31 => k_is)
    (case c31 => k_is)
    (case k31 => k_is)
    (case z1 => k_is)
    (case z2 => k_is)
    (case z3 => k_is)
    (case z4 => k_is)
    (case z5 => k_is)
    (case z6 => k_is)
    (case z7 => k_is)
    (case z8 => k_is)
    (case z9 => k_is)
    (case z10 => k_is)
    (case z11 => k_is)
    (case z12 => k_is)
    (case z13 => k_is)
    (case z14 => k_is)
    (case z15 => k_is)
    (case z16 => k_is)
    (case z17 => k_is)
    (case zset => k_is)

import PyProof.Rows.All
import Wide.All
import OpenK.AllK
import Wide.FinOn
import HandS.ForMost
import HandS.Walk
import HandS.Zip
import HandS.WideBits
import HandS.IsInst
import OpenK.KEqL
import HandS.More
import HandS.Flow
import HandS.NoneIn
import HandS.Defaults
import HandS.Wide
import HandS.Style
import KE.OsRunLaw
import HandS.Conv
import HandS.FStr
import HandS.StrMore
import HandS.Text
import HandS.Strs
import HandS.DictComp
import HandS.Deep
import HandS.WordsDict
import HandS.Dict
import HandS.Star
import HandS.TupAny
import HandS.Codes
import HandS.Small
import HandS.More
import HandS.TryOnly
import HandS.CallLocal
import HandS.Zip
import HandS.Set
import KE.KUnpackStar
import KE.DataEq
import PyProof.Rows.StrRev
import KE.KRevSl
import KE.GoesZip
import KE.GoesMore
import KE.GoesEnum
import HandS.ReplaceLit
import HandS.ExcIs
import KE.KExcInit
import KE.KExcIs
import KE.KTryMore
import HandS.Exc
import HandS.ExcInit
import HandS.WordsExc
import HandS.ExcValue
import HandS.ExcOwn
import HandS.IsInst
import HandS.ForSpec
import PySem.Challenge.RW_guessedzeros_k73_rows_read
set_option Elab.async false
set_option linter.all false
set_option maxRecDepth 100000
set_option maxHeartbeats 40000000
namespace GZ
open PySem PySem.Spec PyProof.Rows L2
/-! ### the text by places -/
def topS (i : Nat) : Stmt := PySem.Challenge.pw_guessedzeros_k73_rows_read.main.body.getD i (.Pass ⟨0, 0, 0, 0⟩)
abbrev s_is_number : Stmt := topS 6
theorem sc_is_number : FnScope ["thing"] ["thing"] (defScope s_is_number) := ⟨rfl, rfl, rfl, by decide +kernel, rfl, by decide +kernel, by decide +kernel⟩
abbrev s_is_number_in : Stmt := topS 7
theorem sc_is_number_in : FnScope ["least", "greatest", "thing"] ["least", "greatest", "thing"] (defScope s_is_number_in) := ⟨rfl, rfl, rfl, by decide +kernel, rfl, by decide +kernel, by decide +kernel⟩
abbrev s_is_text_of : Stmt := topS 8
theorem sc_is_text_of : FnScope ["signs", "many", "thing", "sign"] ["signs", "many", "thing"] (defScope s_is_text_of) := ⟨rfl, rfl, rfl, by decide +kernel, rfl, by decide +kernel, by decide +kernel⟩
abbrev s_word_in : Stmt := topS 11
theorem sc_word_in : FnScope ["form", "text", "parts", "word", "figure", "part"] ["form", "text"] (defScope s_word_in) := ⟨rfl, rfl, rfl, by decide +kernel, rfl, by decide +kernel, by decide +kernel⟩
abbrev s_Form___init__ : Stmt := inClass (topS 13) 0
theorem sc_Form___init__ : FnScope ["self", "scale", "tail"] ["self", "scale", "tail"] (defScope s_Form___init__) := ⟨rfl, rfl, rfl, by decide +kernel, rfl, by decide +kernel, by decide +kernel⟩
abbrev s_Form_top : Stmt := inClass (topS 13) 3
theorem sc_Form_top : FnScope ["self"] ["self"] (defScope s_Form_top) := ⟨rfl, rfl, rfl, by decide +kernel, rfl, by decide +kernel, by decide +kernel⟩
abbrev s_Form_parts : Stmt := inClass (topS 13) 4
theorem sc_Form_parts : FnScope ["self", "word", "sign", "scale", "tail"] ["self", "word"] (defScope s_Form_parts) := ⟨rfl, rfl, rfl, by decide +kernel, rfl, by decide +kernel, by decide +kernel⟩
abbrev s_Form_word_of : Stmt := inClass (topS 13) 5
theorem sc_Form_word_of : FnScope ["self", "sign", "scale", "tail"] ["self", "sign", "scale", "tail"] (defScope s_Form_word_of) := ⟨rfl, rfl, rfl, by decide +kernel, rfl, by decide +kernel, by decide +kernel⟩
abbrev s_Form_greatest : Stmt := inClass (topS 13) 10
theorem sc_Form_greatest : FnScope ["self", "sign"] ["self", "sign"] (defScope s_Form_greatest) := ⟨rfl, rfl, rfl, by decide +kernel, rfl, by decide +kernel, by decide +kernel⟩
abbrev s_cell_in : Stmt := topS 17
theorem sc_cell_in : FnScope ["form", "text"] ["form", "text"] (defScope s_cell_in) := ⟨rfl, rfl, rfl, by decide +kernel, rfl, by decide +kernel, by decide +kernel⟩
abbrev s_bits_in : Stmt := topS 18
theorem sc_bits_in : FnScope ["form", "text", "parts"] ["form", "text"] (defScope s_bits_in) := ⟨rfl, rfl, rfl, by decide +kernel, rfl, by decide +kernel, by decide +kernel⟩
abbrev s_way_in : Stmt := topS 19
theorem sc_way_in : FnScope ["form", "text"] ["form", "text"] (defScope s_way_in) := ⟨rfl, rfl, rfl, by decide +kernel, rfl, by decide +kernel, by decide +kernel⟩
abbrev s_number_in : Stmt := topS 20
theorem sc_number_in : FnScope ["form", "text"] ["form", "text"] (defScope s_number_in) := ⟨rfl, rfl, rfl, by decide +kernel, rfl, by decide +kernel, by decide +kernel⟩
abbrev s_row_in : Stmt := topS 22
theorem sc_row_in : FnScope ["form", "text", "name", "words", "told"] ["form", "text"] (defScope s_row_in) := ⟨rfl, rfl, rfl, by decide +kernel, rfl, by decide +kernel, by decide +kernel⟩
abbrev s_words_in : Stmt := topS 23
theorem sc_words_in : FnScope ["form", "name", "words", "told", "reader", "word"] ["form", "name", "words"] (defScope s_words_in) := ⟨rfl, rfl, rfl, by decide +kernel, rfl, by decide +kernel, by decide +kernel⟩
abbrev s_tick_in : Stmt := topS 24
theorem sc_tick_in : FnScope ["form", "words"] ["form", "words"] (defScope s_tick_in) := ⟨rfl, rfl, rfl, by decide +kernel, rfl, by decide +kernel, by decide +kernel⟩
abbrev s_stages_in : Stmt := topS 25
theorem sc_stages_in : FnScope ["words", "word"] ["words"] (defScope s_stages_in) := ⟨rfl, rfl, rfl, by decide +kernel, rfl, by decide +kernel, by decide +kernel⟩
abbrev sBox : Stmt := topS 27
abbrev sTake : Stmt := topS 28
abbrev sFolded : Stmt := topS 29
abbrev sSame : Stmt := topS 30
abbrev s__law_form : Stmt := topS 31
theorem sc__law_form : FnScope ["_law_box_here", "_law_some"] ["_law_box_here"] (defScope s__law_form) := ⟨rfl, rfl, rfl, by decide +kernel, rfl, by decide +kernel, by decide +kernel⟩
abbrev s__law_word : Stmt := topS 32
theorem sc__law_word : FnScope ["_law_box_here", "_law_scale", "_law_tail", "_law_top", "_law_some", "_law_way", "_law_word_here"] ["_law_box_here", "_law_scale", "_law_tail"] (defScope s__law_word) := ⟨rfl, rfl, rfl, by decide +kernel, rfl, by decide +kernel, by decide +kernel⟩
abbrev s__law_bits : Stmt := topS 33
theorem sc__law_bits : FnScope ["_law_word_here", "_law_many", "_law_found", "_law_turn"] ["_law_word_here", "_law_many"] (defScope s__law_bits) := ⟨rfl, rfl, rfl, by decide +kernel, rfl, by decide +kernel, by decide +kernel⟩
abbrev s__law_held : Stmt := topS 34
theorem sc__law_held : FnScope ["_law_box_here", "_law_left", "_law_found", "_law_turn"] ["_law_box_here"] (defScope s__law_held) := ⟨rfl, rfl, rfl, by decide +kernel, rfl, by decide +kernel, by decide +kernel⟩
abbrev s__law_case : Stmt := topS 35
theorem sc__law_case : FnScope ["_law_box_here", "_law_scale", "_law_tail", "_law_cells", "_law_way", "_law_word_here", "_law_what", "_law_first", "_law_count", "_law_held_here", "_law_some", "_law_turn", "_law_cell"] ["_law_box_here", "_law_scale", "_law_tail"] (defScope s__law_case) := ⟨rfl, rfl, rfl, by decide +kernel, rfl, by decide +kernel, by decide +kernel⟩
abbrev s__law_refused : Stmt := topS 36
theorem sc__law_refused : FnScope ["_law_form_here", "_law_row", "_law_caught", "error"] ["_law_form_here", "_law_row"] (defScope s__law_refused) := ⟨rfl, rfl, rfl, by decide +kernel, rfl, by decide +kernel, by decide +kernel⟩
abbrev s__law_right : Stmt := topS 37
theorem sc__law_right : FnScope ["_law_box_here", "_law_scale", "_law_tail", "_law_form_here", "_law_wider", "_law_turn", "_law_row", "_law_due"] ["_law_box_here"] (defScope s__law_right) := ⟨rfl, rfl, rfl, by decide +kernel, rfl, by decide +kernel, by decide +kernel⟩
abbrev s_law : Stmt := topS 38
theorem sc_law : FnScope ["_law_script", "_law_cells", "_law_k"] ["_law_script"] (defScope s_law) := ⟨rfl, rfl, rfl, by decide +kernel, rfl, by decide +kernel, by decide +kernel⟩
/-! ### built-in names that the text leaves alone -/
structure Bl (mg : Str → Option Value) : Prop where
  len : mg "len" = none
  abs : mg "abs" = none
  int : mg "int" = none
  divmod : mg "divmod" = none
  list : mg "list" = none
  enumerate : mg "enumerate" = none
  isinstance : mg "isinstance" = none
  tuple : mg "tuple" = none
  str : mg "str" = none
  bool : mg "bool" = none
  zip : mg "zip" = none
  all : mg "all" = none
  range : mg "range" = none
  max : mg "max" = none
  any : mg "any" = none
  min : mg "min" = none
  sum : mg "sum" = none
/-! ### rules with the written part told (for the blocks of comprehensions) -/
section
variable {X : Cx} {K : PySem.W.Frag}
theorem call_len_seqK (h : X.K = K := by rfl) : CallR X (.builtin "len") (fun xs H Q => ∃ p ys, xs = [.ref p] ∧ (SqL K H p ys ∨ SqT K H p ys) ∧ Q (.int ys.length) H) := by subst h; exact call_len_seq
theorem call_list_ofK (h : X.K = K := by rfl) : CallR X (.type "list") (fun xs H Q => ∃ p ys, xs = [.ref p] ∧ (SqL K H p ys ∨ SqT K H p ys) ∧ ∀ l, H l = none → Q (.ref l) (upd H l (.lst ys))) := by subst h; exact call_list_of
theorem call_tuple_ofK (h : X.K = K := by rfl) : CallR X (.type "tuple") (fun xs H Q => ∃ p ys, xs = [.ref p] ∧ ((SqL K H p ys ∧ ∀ l, H l = none → Q (.ref l) (upd H l (.tup ys))) ∨ (SqT K H p ys ∧ Q (.ref p) H))) := by subst h; exact call_tuple_of
theorem ix_listK (h : X.K = K := by rfl) : IxR X (rIxL K) := by subst h; exact ix_list
theorem ix_tupK (h : X.K = K := by rfl) : IxR X (rIxT K) := by subst h; exact ix_tup
theorem ix_seqK (h : X.K = K := by rfl) : IxR X (rIx K) := by subst h; exact ix_seq
theorem op_in_seqK (h : X.K = K := by rfl) : OpR X (compareOp .In) (rIn K false) := by subst h; exact op_in_seq
theorem op_notIn_seqK (h : X.K = K := by rfl) : OpR X (compareOp .NotIn) (rIn K true) := by subst h; exact op_notIn_seq
theorem sl_listK (h : X.K = K := by rfl) : SlR X (rSlL K) := by subst h; exact sl_list
theorem cr_sumK (hc : X.calm = true) (h : X.K = K := by rfl) : CallR X (.builtin "sum") (rSum K) := by subst h; exact cr_sum hc
theorem cr_allK (hc : X.calm = true) (h : X.K = K := by rfl) : CallR X (.builtin "all") (rAll K) := by subst h; exact cr_all hc
theorem cr_anyK (hc : X.calm = true) (h : X.K = K := by rfl) : CallR X (.builtin "any") (rAny K) := by subst h; exact cr_any hc
theorem call_isiK' (h : X.K = K := by rfl) : CallR X (.builtin "isinstance") (rIsi K) := by subst h; exact call_isi
theorem pi_listK {tg l : Expr} {tl : TE} (hl : PE X l tl) (h : X.K = K := by rfl) : PI X tg l (iList K tl) := by subst h; exact pi_list hl
theorem pi_tupK {tg l : Expr} {tl : TE} (hl : PE X l tl) (h : X.K = K := by rfl) : PI X tg l (iTup K tl) := by subst h; exact pi_tup hl
theorem pe_fldK {e : Expr} {ta : TE} {f : Str} {pos : Pos} (he : PE X e ta) (hb : attributeBase e f X.env (eval e X.env) = eval e X.env) (h : X.K = K := by rfl) : PE X (.Attribute e f pos) (tFld K ta f) := by subst h; exact pe_fld he hb
end
/-! ### heaps -/
theorem same_upd {H : Hp} {p : Addr} {o : HO} (h : H p = none) : Same H (upd H p o) := fun b x e => by
  rw [upd_ne (ne_of_none e h)]
  exact e
/-- all but what stands at b is as it was -/
def Keep (b : Addr) (H H' : Hp) : Prop := ∀ p o, H p = some o → p ≠ b → H' p = some o
theorem Keep.refl (b : Addr) (H : Hp) : Keep b H H := fun _ _ h _ => h
theorem Keep.trans {b : Addr} {H H1 H2 : Hp} (x : Keep b H H1) (y : Keep b H1 H2) : Keep b H H2 := fun p o h n => y p o (x p o h n) n
theorem Keep.ofSame {b : Addr} {H H1 : Hp} (x : Same H H1) : Keep b H H1 := fun p o h _ => x p o h
theorem Keep.upd {b : Addr} {H : Hp} {o : HO} : Keep b H (upd H b o) := fun p x h n => by
  rw [upd_ne n]
  exact h
theorem Keep.new {b p : Addr} {H : Hp} {o : HO} (h : H p = none) : Keep b H (L2.upd H p o) := .ofSame (same_upd h)
theorem Keep.seq {K : PySem.W.Frag} {b a : Addr} {H H' : Hp} {xs : List V} (e : Keep b H H') (n : a ≠ b) (h : SqL K H a xs) : SqL K H' a xs := by
  rcases h with (h | ⟨o, h⟩) | h
  · exact .inl (.inl (e _ _ h n))
  · exact .inl (.inr ⟨o, e _ _ h n⟩)
  · exact .inr h
theorem Keep.seqT {K : PySem.W.Frag} {b a : Addr} {H H' : Hp} {xs : List V} (e : Keep b H H') (n : a ≠ b) (h : SqT K H a xs) : SqT K H' a xs := by
  rcases h with (h | ⟨o, h⟩) | h
  · exact .inl (.inl (e _ _ h n))
  · exact .inl (.inr ⟨o, e _ _ h n⟩)
  · exact .inr h
theorem Same.seqT {K : PySem.W.Frag} {a : Addr} {H H' : Hp} {xs : List V} (e : Same H H') (h : SqT K H a xs) : SqT K H' a xs := by
  rcases h with (h | ⟨o, h⟩) | h
  · exact .inl (.inl (e _ _ h))
  · exact .inl (.inr ⟨o, e _ _ h⟩)
  · exact .inr h
/-- a drawing box: three ints, the last at most c -/
def BoxAt (c : Int) (H : Hp) (b : Addr) : Prop := ∃ x0 x1 x2 : Int, H b = some (.lst [.int x0, .int x1, .int x2]) ∧ 0 ≤ x0 ∧ 0 ≤ x1 ∧ x1 < 2147483647 ∧ 0 ≤ x2 ∧ x2 ≤ c
theorem BoxAt.mono {c d : Int} {H : Hp} {b : Addr} (h : BoxAt c H b) (l : c ≤ d) : BoxAt d H b := by
  obtain ⟨x0, x1, x2, e, a1, a2, a3, a4, a5⟩ := h
  exact ⟨x0, x1, x2, e, a1, a2, a3, a4, by omega⟩
theorem BoxAt.same {c : Int} {H H' : Hp} {b : Addr} (h : BoxAt c H b) (s : Same H H') : BoxAt c H' b := by
  obtain ⟨x0, x1, x2, e, r⟩ := h
  exact ⟨x0, x1, x2, s _ _ e, r⟩
theorem BoxAt.at {c : Int} {H H' : Hp} {b : Addr} (h : BoxAt c H b) (s : H' b = H b) : BoxAt c H' b := by
  obtain ⟨x0, x1, x2, e, r⟩ := h
  exact ⟨x0, x1, x2, by rw [s]; exact e, r⟩
theorem BoxAt.ne {c : Int} {H : Hp} {b p : Addr} (h : BoxAt c H b) (n : H p = none) : b ≠ p := by
  obtain ⟨x0, x1, x2, e, r⟩ := h
  exact ne_of_none e n
theorem e7 : (10 : Int) ^ ((7 : Int).toNat) = 10000000 := by decide
theorem e18 : (10 : Int) ^ ((18 : Int).toNat) = 1000000000000000000 := by decide
theorem divp_small {i j : Int} (h0 : 0 < j) (h1 : j < 2 ^ 250) : CDivP i j := by
  refine ⟨h0, ?_⟩
  show (decide ((if j == 0 then 0 else j.natAbs.log2 / 30 + 1) > 300) && _) = false
  rw [if_neg (show ¬ (j == 0) = true by simpa using (show j ≠ 0 by omega))]
  have hl : j.natAbs.log2 < 250 := PySem.Flt.log2_lt_of (by decide) (by omega)
  rw [decide_eq_false (show ¬ (j.natAbs.log2 / 30 + 1 > 300) by omega), Bool.false_and]
section
variable {P : Program} {w : World} {K : PySem.W.Frag} {mg : Str → Option Value} {base : Heap}
/-! ### _law_take -/
theorem scTake : FnScope ["_law_box_here", "_law_size", "_law_found", "_law_step", "_law_once", "_law_twice"] ["_law_box_here", "_law_size"] (defScope sTake) := ⟨rfl, rfl, rfl, by decide +kernel, rfl, by decide +kernel, by decide +kernel⟩
def spTake (k : Nat) : Sp := fun vs H Q _ => ∃ (b : Addr) (n c : Int), vs = [.ref b, .int n] ∧ BoxAt c H b ∧ 1 ≤ n ∧ n ≤ 10000000 ^ k ∧ n < 2 ^ 250 ∧ c + 2 ^ k ≤ 1000000000 ∧ 0 < k ∧
  ∀ (r : Int) (H' : Hp), 0 ≤ r → r < n → BoxAt (c + 2 ^ (k - 1)) H' b → Keep b H H' → Q (.int r) H'
theorem take_none {f : Addr} {fd : FuncData} : FnOk P w K mg base CX0 0 f fd ["_law_box_here", "_law_size"] (spTake 0) := by
  have no : ∀ vs H Q E, ¬ spTake 0 vs H Q E := fun vs H Q E h => by
    obtain ⟨b, n, c, _, _, _, _, _, _, h0, _⟩ := h
    omega
  exact ⟨fun vs H Q E h => absurd h (no vs H Q E), fun A outer s H args us vs Q E _ _ _ _ h => absurd h (no vs H Q E)⟩
theorem ok_take1 {f : Addr} {fd : FuncData} {k : Nat} (F : Fun K "_law_take" "_law_take" sTake f fd) (G : FnOk P w K mg base CX0 k f fd ["_law_box_here", "_law_size"] (spTake k)) (bf : Binds K fd ["_law_box_here", "_law_size"] []) (mf : mg "_law_take" = some (.ref f)) (B : Bl mg) :
    FnOk P w K mg base CX0 (k + 1) f fd ["_law_box_here", "_law_size"] (spTake (k + 1)) := by
  refine F.ok scTake (fun vs H Q E h => ?_) (fun cdv A outer s H vs Q E hr h => ?_)
  · obtain ⟨b, n, c, rfl, _⟩ := h
    rfl
  obtain ⟨b, n, c, rfl, hB, hn1, hnk, hn60, hc, _, q⟩ := h
  obtain ⟨x0, x1, x2, hb, h0, h1, h1', h2, h2'⟩ := hB
  have hp : (0 : Int) < 2 ^ k := Int.pow_pos (by decide)
  have hk2 : (2 : Int) ^ (k + 1) = 2 ^ k * 2 := Int.pow_succ 2 k
  refine ⟨_, pss_cons (ps_if (pt_cmpR op_gt (pe_ix ix_list (pv 0) pe_int (fun _ _ => rfl)) pe_int (nomark _))
      (pss_cons (ps_asg (pe_callB call_divmodW (by rfl) B.divmod boot_divmod (pa_cons (pe_ix ix_list (pv 0) pe_int (fun _ _ => rfl)) (pa_cons (pv 1) pa_nil)))
          (pg_tup (by rfl) (pgs_cons (pg_sub (pv 0) pe_int set_list) (pgs_cons (pg_name (i := 2) scTake.nd rfl (.inl rfl)) pgs_nil))))
        (pss_one (ps_ret (pv 2)))) pss_nil)
    (pss_cons (ps_if (pt_cmpR op_gt (pv 1) (pe_op op_pow pe_int pe_int) (nomark _))
      (pss_one (ps_ret (pe_op op_mod (pe_op op_add (pe_call G hr (by rfl) mf F.kp bf .nil pass0 (pa_cons (pv 0) (pa_cons (pe_op op_pow pe_int pe_int) pa_nil)))
          (pe_op op_mul (pe_op op_pow pe_int pe_int) (pe_call G hr (by rfl) mf F.kp bf .nil pass0 (pa_cons (pv 0) (pa_cons (pe_op op_add (pe_op op_fdiv (pe_op op_sub (pv 1) pe_int) (pe_op op_pow pe_int pe_int)) pe_int) pa_nil))))) (pv 1)))) pss_nil)
    (pss_cons (ps_asg (pe_op op_add (pe_ix ix_list (pv 0) pe_int (fun _ _ => rfl)) pe_int) (pg_sub (pv 0) pe_int set_list))
    (pss_cons (ps_set (i := 3) scTake.nd rfl (.inl rfl) (pe_op op_add pe_int (pe_op op_mul (pe_ix ix_list (pv 0) pe_int (fun _ _ => rfl)) (pe_ix ix_list (pv 0) pe_int (fun _ _ => rfl)))))
    (pss_cons (ps_set (i := 4) scTake.nd rfl (.inl rfl) (pe_op op_mod (pe_op op_mul (pe_op op_add (pe_ix ix_list (pv 0) pe_int (fun _ _ => rfl)) (pe_op op_mul pe_int (pe_ix ix_list (pv 0) pe_int (fun _ _ => rfl)))) (pv 3)) pe_int))
    (pss_cons (ps_set (i := 5) scTake.nd rfl (.inl rfl) (pe_op op_mod (pe_op op_add (pe_op op_mul (pv 4) (pe_op op_add (pe_op op_mod (pv 4) pe_int) pe_int)) (pe_ix ix_list (pv 0) pe_int (fun _ _ => rfl))) pe_int))
    (pss_one (ps_ret (pe_op op_mod (pe_op op_fdiv (pe_op op_mod (pe_op op_mul (pv 5) (pe_op op_add (pe_op op_mod (pv 5) pe_int) pe_int)) pe_int) pe_int) (pv 1))))))))), ?_⟩
  refine ⟨_, rfl, b, _, _, _, rfl, rfl, SqL.of hb, rfl, _, _, rfl, rfl, _, rfl, ite2 (fun cc => ?_) (fun cc => ?_)⟩
  · -- the great number's own digits
    refine ⟨_, rfl, b, _, _, _, rfl, rfl, SqL.of hb, rfl, _, rfl, _, _, rfl, divp_small (by omega) (by omega), fun p np => ?_⟩
    have nbp : b ≠ p := ne_of_none hb np
    refine ⟨p, _, rfl, .inl (.inl upd_same), rfl, _, _, rfl, _, rfl, b, _, _, 0, rfl, rfl, (by rw [upd_ne nbp]; exact hb), rfl, _, _, rfl, rfl, _, rfl, ?_⟩
    refine q _ _ (Int.emod_nonneg _ (by omega)) (Int.emod_lt_of_pos _ (by omega)) ⟨x0 / n, x1, x2, upd_same, Int.ediv_nonneg h0 (by omega), h1, h1', h2, by show x2 ≤ c + 2 ^ k; omega⟩ ?_
    exact Keep.trans (Keep.new np) Keep.upd
  · refine ⟨_, rfl, _, _, rfl, rfl, ⟨by decide, by decide, by decide⟩, _, _, rfl, rfl, _, rfl, ite2 (fun c2 => ?_) (fun c2 => ?_)⟩
    · -- two lesser draws
      have c3 : (10 : Int) ^ ((7 : Int).toNat) < n := of_decide_eq_true c2
      rw [e7] at c3
      have hk : 0 < k := by
        rcases Nat.eq_zero_or_pos k with z | z
        · subst z
          rw [show (10000000 : Int) ^ (0 + 1) = 10000000 by decide] at hnk
          omega
        · exact z
      obtain ⟨j, rfl⟩ : ∃ j, k = j + 1 := ⟨k - 1, by omega⟩
      have hj2 : (2 : Int) ^ (j + 1) = 2 ^ j * 2 := Int.pow_succ 2 j
      have hjp : (0 : Int) < 2 ^ j := Int.pow_pos (by decide)
      have h10 : (10000000 : Int) ≤ 10000000 ^ (j + 1) := by
        rw [Int.pow_succ]
        have : (0 : Int) < 10000000 ^ j := Int.pow_pos (by decide)
        omega
      have hdiv : (n - 1) / 10000000 + 1 ≤ 10000000 ^ (j + 1) := by
        rw [Int.pow_succ] at hnk
        have : n - 1 < 10000000 ^ (j + 1) * 10000000 := by omega
        have := Int.ediv_lt_of_lt_mul (by decide) this
        omega
      refine ⟨_, rfl, _, _, rfl, rfl, ⟨by decide, by decide, by decide⟩, b, _, c, rfl, ⟨x0, x1, x2, hb, h0, h1, h1', h2, h2'⟩, (by rw [e7]; decide), (by rw [e7]; exact h10), (by rw [e7]; decide), by omega, by omega, fun r1 H1 a1 a2 B1 k1 => ?_⟩
      refine ⟨_, _, rfl, rfl, ⟨by decide, by decide, by decide⟩, _, rfl, _, rfl, _, _, rfl, rfl, _, _, rfl, rfl, ⟨by decide, by decide, by decide⟩, _, _, rfl, rfl, (by rw [e7]; exact ⟨by decide, by decide⟩), _, _, rfl, rfl, ?_⟩
      rw [e7]
      refine ⟨b, _, c + 2 ^ j, rfl, B1, by omega, hdiv, by omega, by omega, by omega, fun r2 H2 a3 a4 B2 k2 => ?_⟩
      refine ⟨_, _, rfl, rfl, .inl ⟨by decide, by decide⟩, _, _, rfl, rfl, _, rfl, _, _, rfl, rfl, (by show (0 : Int) < n; omega), ?_⟩
      refine q _ _ (Int.emod_nonneg _ (by omega)) (Int.emod_lt_of_pos _ (by omega)) (B2.mono ?_) (k1.trans k2)
      show c + 2 ^ j + 2 ^ j ≤ c + 2 ^ (j + 1)
      omega
    · -- a turn of the wheel
      refine ⟨_, rfl, b, _, _, _, rfl, rfl, SqL.of hb, rfl, _, _, rfl, rfl, _, rfl, b, _, _, 2, rfl, rfl, hb, rfl, ?_⟩
      have hb2 : (upd H b (.lst [.int x0, .int x1, .int (x2 + 1)])) b = some (.lst [.int x0, .int x1, .int (x2 + 1)]) := upd_same
      refine ⟨_, rfl, b, _, _, _, rfl, rfl, SqL.of hb2, rfl, _, rfl, b, _, _, _, rfl, rfl, SqL.of hb2, rfl, _, _, rfl, rfl, .inl ⟨by omega, by omega⟩, _, _, rfl, rfl, ?_⟩
      refine ⟨_, rfl, b, _, _, _, rfl, rfl, SqL.of hb2, rfl, _, rfl, b, _, _, _, rfl, rfl, SqL.of hb2, rfl, _, _, rfl, rfl, .inl ⟨by omega, by omega⟩, _, _, rfl, rfl, _, rfl, _, _, rfl, rfl, .inl ⟨by omega, by omega⟩, _, _, rfl, rfl, (by show (0 : Int) < 2147483587; decide), ?_⟩
      generalize (x1 + 39373 * (x2 + 1)) * (69621 + (x2 + 1) * (x2 + 1)) = y
      have y1 := Int.emod_nonneg y (show (2147483587 : Int) ≠ 0 by decide)
      have y2 := Int.emod_lt_of_pos y (show (0 : Int) < 2147483587 by decide)
      refine ⟨_, rfl, _, rfl, _, _, rfl, rfl, (by show (0 : Int) < 30011; decide), _, _, rfl, rfl, _, _, rfl, rfl, .inl ⟨by omega, by omega⟩, _, rfl, b, _, _, _, rfl, rfl, SqL.of hb2, rfl, _, _, rfl, rfl, _, _, rfl, rfl, (by show (0 : Int) < 2147483563; decide), ?_⟩
      generalize (y % 2147483587 * (y % 2147483587 % 30011 + 5) + (x2 + 1)) = z
      have z1 := Int.emod_nonneg z (show (2147483563 : Int) ≠ 0 by decide)
      have z2 := Int.emod_lt_of_pos z (show (0 : Int) < 2147483563 by decide)
      refine ⟨_, rfl, _, rfl, _, _, rfl, rfl, (by show (0 : Int) < 1013; decide), _, _, rfl, rfl, _, _, rfl, rfl, .inl ⟨by omega, by omega⟩, _, _, rfl, rfl, (by show (0 : Int) < 998244353; decide), _, _, rfl, rfl, ⟨by decide, by decide⟩, _, rfl, _, _, rfl, rfl, (by show (0 : Int) < n; omega), ?_⟩
      refine q _ _ (Int.emod_nonneg _ (by omega)) (Int.emod_lt_of_pos _ (by omega)) ⟨x0, x1, x2 + 1, hb2, h0, h1, h1', by omega, by show x2 + 1 ≤ c + 2 ^ k; omega⟩ Keep.upd
theorem ok_take {f : Addr} {fd : FuncData} (F : Fun K "_law_take" "_law_take" sTake f fd) (bf : Binds K fd ["_law_box_here", "_law_size"] []) (mf : mg "_law_take" = some (.ref f)) (B : Bl mg) : ∀ k : Nat, FnOk P w K mg base CX0 k f fd ["_law_box_here", "_law_size"] (spTake k)
  | 0 => take_none
  | k + 1 => ok_take1 F (ok_take F bf mf B k) bf mf B
/-! ### _law_box -/
theorem scBox : FnScope ["_law_script", "_law_k", "_law_cell"] ["_law_script", "_law_k"] (defScope sBox) := ⟨rfl, rfl, rfl, by decide +kernel, rfl, by decide +kernel, by decide +kernel⟩
def spBox (K : PySem.W.Frag) : Sp := fun vs H Q _ => ∃ (a : Addr) (zs : List Int) (k : Int), vs = [.ref a, .int k] ∧ SqL K H a (zs.map V.int) ∧ 0 ≤ k ∧ k ≤ 1000 ∧
  ∀ (p : Addr) (H' : Hp), H p = none → Same H H' → BoxAt 0 H' p → Q (.ref p) H'
theorem b01 (b : Bool) : (-(2 ^ 64) < (if b = true then (1 : Int) else 0)) ∧ (if b = true then (1 : Int) else 0) < 2 ^ 64 := by cases b <;> decide
theorem b01n (b : Bool) : 0 ≤ (if b = true then (1 : Int) else 0) := by cases b <;> decide
theorem abs_nn (i : Int) : 0 ≤ (if i < 0 then -i else i) := by
  split <;> omega
theorem at_int {zs : List Int} {k : Int} (h0 : 0 ≤ k) (h : k < (zs.length : Int)) : ∃ v : Int, atI (zs.map V.int) k = some (.int v) ∧ zs[k.toNat]? = some v := by
  have hk : k.toNat < zs.length := by omega
  have ek : k = ((k.toNat : Nat) : Int) := by omega
  have q : atI (zs.map V.int) ((k.toNat : Nat) : Int) = some (.int zs[k.toNat]) := atI_nat (by rw [List.getElem?_map, List.getElem?_eq_getElem hk] <;> rfl)
  rw [← ek] at q
  exact ⟨zs[k.toNat], q, List.getElem?_eq_getElem hk⟩
theorem ok_box {f : Addr} {fd : FuncData} {k : Nat} (F : Fun K "_law_box" "_law_box" sBox f fd) (B : Bl mg) : FnOk P w K mg base CX0 (k + 1) f fd ["_law_script", "_law_k"] (spBox K) := by
  refine F.ok scBox (fun vs H Q E h => ?_) (fun cdv A outer s H vs Q E hr h => ?_)
  · obtain ⟨a, zs, k, rfl, _⟩ := h
    rfl
  obtain ⟨a, zs, k, rfl, hS, h0, h1, q⟩ := h
  refine ⟨_, pss_cons (ps_set (i := 2) scBox.nd rfl (.inl rfl) (pe_ifExp (pt_cmpR op_lt (pv 1) (pe_callB call_len_seq (by rfl) B.len PySem.boot_len (pa_cons (pv 0) pa_nil)) (nomark _)) (pe_ix ix_list (pv 0) (pv 1) (fun _ _ => rfl)) pe_int))
    (pss_one (ps_ret (pe_lst (pa_cons (pe_op op_mul (pe_callB call_abs (by rfl) B.abs boot_abs (pa_cons (pv 2) pa_nil)) (pe_callTy call_int1 (by rfl) B.int PyProof.Rows.boot_int (pa_cons (pe_cmpR op_ge (pe_callB call_abs (by rfl) B.abs boot_abs (pa_cons (pv 2) pa_nil)) (pe_op op_pow pe_int pe_int) (nomark _)) pa_nil)))
      (pa_cons (pe_op op_mod (pe_op op_mul (pe_op op_add (pe_op op_add (pe_op op_mod (pv 2) pe_int) (pe_op op_mul pe_int (pv 1))) pe_int) pe_int) pe_int) (pa_cons pe_int pa_nil)))))), ?_⟩
  refine ⟨_, rfl, _, rfl, a, _, rfl, .inl hS, _, _, rfl, rfl, _, rfl, ite2 (fun cc => ?_) (fun cc => ?_)⟩
  · have c1 : k < (((zs.map V.int).length : Nat) : Int) := of_decide_eq_true cc
    rw [List.length_map] at c1
    obtain ⟨v, hv, _⟩ := at_int h0 c1
    refine ⟨_, rfl, _, rfl, a, _, _, _, rfl, rfl, hS, hv, ?_⟩
    refine ⟨_, rfl, _, rfl, _, rfl, _, rfl, _, _, rfl, rfl, ⟨by decide, by decide, by decide⟩, _, _, rfl, rfl, .inr ⟨_, rfl, ?_⟩⟩
    refine ⟨_, _, rfl, rfl, .inr (b01 _), _, rfl, _, _, rfl, rfl, (by show (0 : Int) < 2147483629; decide), _, rfl, _, _, rfl, rfl, .inl ⟨by decide, by decide⟩, _, _, rfl, rfl, _, _, rfl, rfl, _, _, rfl, rfl, .inr ⟨by decide, by decide⟩, _, _, rfl, rfl, (by show (0 : Int) < 2147483647; decide), (by show 3 ≤ sizeLine; decide), fun p np => ?_⟩
    refine q p _ np (same_upd np) ⟨_, _, _, upd_same, Int.mul_nonneg (abs_nn v) (b01n _), Int.emod_nonneg _ (by decide), Int.emod_lt_of_pos _ (by decide), by decide, by decide⟩
  · refine ⟨_, rfl, _, rfl, _, rfl, _, rfl, _, _, rfl, rfl, ⟨by decide, by decide, by decide⟩, _, _, rfl, rfl, .inr ⟨_, rfl, ?_⟩⟩
    refine ⟨_, _, rfl, rfl, .inr (b01 _), _, rfl, _, _, rfl, rfl, (by show (0 : Int) < 2147483629; decide), _, rfl, _, _, rfl, rfl, .inl ⟨by decide, by decide⟩, _, _, rfl, rfl, _, _, rfl, rfl, _, _, rfl, rfl, .inr ⟨by decide, by decide⟩, _, _, rfl, rfl, (by show (0 : Int) < 2147483647; decide), (by show 3 ≤ sizeLine; decide), fun p np => ?_⟩
    refine q p _ np (same_upd np) ⟨_, _, _, upd_same, Int.mul_nonneg (abs_nn 0) (b01n _), Int.emod_nonneg _ (by decide), Int.emod_lt_of_pos _ (by decide), by decide, by decide⟩
/-! ### _law_folded -/
theorem scFolded : FnScope ["_law_script", "_law_size", "_law_cells", "_law_k", "_law_cell"] ["_law_script", "_law_size"] (defScope sFolded) := ⟨rfl, rfl, rfl, by decide +kernel, rfl, by decide +kernel, by decide +kernel⟩
def spFolded (K : PySem.W.Frag) : Sp := fun vs H Q _ => ∃ (a : Addr) (ns : List Int) (m : Nat), vs = [.ref a, .int (m : Int)] ∧ SqL K H a (ns.map V.int) ∧ ns.length ≤ 63 ∧ 1 ≤ m ∧ m ≤ 63 ∧
  ∀ (p : Addr) (H' : Hp) (zs : List Int), H p = none → Same H H' → H' p = some (.lst (zs.map V.int)) → zs.length = min ns.length m → Q (.ref p) H'
theorem cut_lo (ns : List Int) (m : Nat) : cutV (ns.map V.int) none (some (m : Int)) = (ns.take m).map V.int := by
  unfold cutV
  rw [HT.sIx_none, HT.sIx_nat, List.drop_zero, Nat.sub_zero, List.length_map, ← List.map_take]
  congr 1
  rw [List.take_eq_take_iff]
  omega
theorem cut_mid (ns : List Int) (m j : Nat) : ∃ ws : List Int, cutV (ns.map V.int) (some (m : Int)) (some (j : Int)) = ws.map V.int ∧ ws.length ≤ ns.length - m := by
  unfold cutV
  rw [HT.sIx_nat, HT.sIx_nat, List.length_map, ← List.map_drop, ← List.map_take]
  refine ⟨_, rfl, ?_⟩
  rw [List.length_take, List.length_drop]
  omega
theorem int_at {ws : List Int} {i : Nat} {x : V} (h : (ws.map V.int)[i]? = some x) : ∃ z, ws[i]? = some z ∧ x = .int z := by
  rw [List.getElem?_map] at h
  cases e : ws[i]? with
  | none =>
    rw [e] at h
    cases h
  | some z =>
    rw [e] at h
    exact ⟨z, rfl, (Option.some.inj h).symm⟩
theorem map_set (zs : List Int) (j : Nat) (v : Int) : (zs.map V.int).set j (.int v) = (zs.set j v).map V.int := List.map_set.symm
theorem ixN_nat {n j : Nat} (h : j < n) : ixN n (j : Int) = some j := by
  unfold ixN
  rw [if_pos (Int.natCast_nonneg j), if_pos (by omega), Int.toNat_natCast]
theorem ok_folded {f : Addr} {fd : FuncData} {k : Nat} (F : Fun K "_law_folded" "_law_folded" sFolded f fd) (B : Bl mg) : FnOk P w K mg base CX0 (k + 1) f fd ["_law_script", "_law_size"] (spFolded K) := by
  refine F.ok scFolded (fun vs H Q E h => ?_) (fun cdv A outer s H vs Q E hr h => ?_)
  · obtain ⟨a, ns, m, rfl, _⟩ := h
    rfl
  obtain ⟨a, ns, m, rfl, hS, h63, hm1, hm2, q⟩ := h
  refine ⟨_, pss_cons (ps_set (i := 2) scFolded.nd rfl (.inl rfl) (pe_callTy call_list_of (by rfl) B.list PyProof.Rows.boot_list (pa_cons (pe_slice sl_list (pv 0) po_none (po_some (pv 1))) pa_nil)))
    (pss_cons (ps_for PassesOwn.never rfl (pi_enum (by rfl) B.enumerate (pa_cons (pe_slice sl_list (pv 0) (po_some (pv 1)) (po_some pe_int)) pa_nil))
        (pg_tup rfl (pgs_cons (pg_name (i := 3) scFolded.nd rfl (.inl rfl)) (pgs_cons (pg_name (i := 4) scFolded.nd rfl (.inl rfl)) pgs_nil)))
      (pss_one (ps_asg (pe_op op_add (pe_ix ix_list (pv 2) (pe_op op_mod (pv 3) (pv 1)) (fun _ _ => rfl)) (pe_op op_mul (pv 4) (pe_op op_add (pv 3) pe_int))) (pg_sub (pv 2) (pe_op op_mod (pv 3) (pv 1)) set_list))))
    (pss_one (ps_ret (pv 2)))), ?_⟩
  refine ⟨_, rfl, _, rfl, _, rfl, a, _, rfl, hS, fun c0 nc0 => ?_⟩
  rw [cut_lo]
  have s0 : Same H (upd H c0 (.lst ((ns.take m).map V.int))) := same_upd nc0
  refine ⟨c0, _, rfl, .inl (.inl (.inl upd_same)), fun p np => ?_⟩
  have npH : H p = none := s0.free np
  have ne0 : c0 ≠ p := fun e => by
    subst e
    rw [upd_same] at np
    cases np
  have s1 := s0.trans (same_upd (o := .lst ((ns.take m).map V.int)) np)
  refine ⟨_, rfl, _, rfl, _, rfl, _, rfl, a, _, rfl, s1.seq hS, fun c nc => ?_⟩
  obtain ⟨ws, ew, lw⟩ := cut_mid ns m 63
  rw [show ((63 : Nat) : Int) = (63 : Int) from rfl] at ew
  rw [ew]
  have s2 := s1.trans (same_upd (o := .lst (ws.map V.int)) nc)
  have nec : c ≠ p := fun e => by
    subst e
    rw [upd_same] at nc
    cases nc
  refine ⟨c, _, rfl, .inl (.inl upd_same), ?_⟩
  refine for_it (walk_enum (K := K) (a := c) (xs := ws.map V.int)) (fun i σ H3 => ∃ (y3 y4 : Option V) (zs : List Int), σ = [some (.ref a), some (.int (m : Int)), some (.ref p), y3, y4] ∧ Same H H3 ∧ H3 c = some (.lst (ws.map V.int)) ∧ H3 p = some (.lst (zs.map V.int)) ∧ zs.length = min ns.length m)
    ⟨none, none, ns.take m, rfl, s2, upd_same, ?_, ?_⟩ (fun i σ H3 _ ⟨_, _, _, _, _, e, _⟩ => .inl (.inl e)) ?_ ?_
  · rw [upd_ne nec.symm]
    exact upd_same
  · rw [List.length_take, Nat.min_comm]
  · rintro i v σ H3 H4 hi ⟨y3, y4, zs, rfl, s3, ec, ep, el⟩ ⟨T, x, y, rfl, nT, rfl, e1, e2⟩
    cases e1
    obtain ⟨z, _, rfl⟩ := int_at e2
    rw [List.length_map] at hi
    have npT : p ≠ T := ne_of_none ep nT
    have ncT : c ≠ T := ne_of_none ec nT
    have sT : Same H3 (upd H3 T (.tup [.int (i : Nat), .int z])) := same_upd nT
    refine ⟨T, _, rfl, .inl (.inl upd_same), rfl, _, _, rfl, _, _, rfl, rfl, ?_⟩
    have lm : (i : Int) % (m : Int) = ((i % m : Nat) : Int) := rfl
    have hl : i % m < zs.length := by
      have := Nat.mod_lt i (show 0 < m by omega)
      omega
    have ev : (zs.map V.int)[i % m]? = some (.int zs[i % m]) := by
      rw [List.getElem?_map, List.getElem?_eq_getElem hl]
      rfl
    refine ⟨_, rfl, _, rfl, _, rfl, _, _, rfl, rfl, (by show (0 : Int) < (m : Int); omega), p, _, _, _, rfl, rfl, SqL.of (sT _ _ ep), (by rw [lm]; exact atI_nat ev), _, rfl, _, rfl, _, _, rfl, rfl, _, _, rfl, rfl, .inr ⟨by omega, by omega⟩, _, _, rfl, rfl, ?_⟩
    refine ⟨_, rfl, _, rfl, _, rfl, _, _, rfl, rfl, (by show (0 : Int) < (m : Int); omega), p, _, _, i % m, rfl, rfl, sT _ _ ep, (by rw [lm, List.length_map]; exact ixN_nat hl), ?_⟩
    refine ⟨_, _, zs.set (i % m) (zs[i % m] + z * ((i : Int) + 2)), rfl, fun b o e => ?_, ?_, ?_, ?_⟩
    · rw [upd_ne (ne_of_none e npH)]
      exact sT _ _ (s3 _ _ e)
    · rw [upd_ne nec]
      exact sT _ _ ec
    · rw [upd_same, map_set]
    · rw [List.length_set]
      exact el
  · rintro σ H3 ⟨y3, y4, zs, rfl, s3, ec, ep, el⟩
    exact ⟨_, rfl, q p H3 zs npH s3 ep el⟩
/-! ### _law_same: of two things of one kind and worth -/
theorem scSame : FnScope ["_law_found", "_law_due", "_law_one", "_law_other"] ["_law_found", "_law_due"] (defScope sSame) := ⟨rfl, rfl, rfl, by decide +kernel, rfl, by decide +kernel, by decide +kernel⟩
def Lv : Nat → PyData → Prop
  | _, .none => True
  | _, .bool _ => True
  | _, .int _ => True
  | _, .str _ => True
  | n + 1, .list ds => ds.length ≤ 1000000 ∧ ∀ d ∈ ds, Lv n d
  | n + 1, .tuple ds => ds.length ≤ 1000000 ∧ ∀ d ∈ ds, Lv n d
  | _, _ => False
mutual
theorem Dp.same {H H' : Hp} (s : Same H H') : ∀ (d : PyData) (v : V), Dp K H v d → Dp K H' v d
  | .none, _, h => by
    cases h
    exact .non
  | .bool b, _, h => by
    cases h
    exact .bl b
  | .int i, _, h => by
    cases h
    exact .int i
  | .str x, _, h => by
    cases h
    exact .str x
  | .list ds, _, h => by
    cases h with
    | lst hs ha => exact .lst (s.seq hs) (Dp.sameAll s ds _ ha)
  | .tuple ds, _, h => by
    cases h with
    | tup hs ha => exact .tup (Same.seqT s hs) (Dp.sameAll s ds _ ha)
  | .dict _, _, h => by cases h
theorem Dp.sameAll {H H' : Hp} (s : Same H H') : ∀ (ds : List PyData) (vs : List V), DpAll K H vs ds → DpAll K H' vs ds
  | [], _, h => by
    cases h
    exact .nil
  | d :: ds, _, h => by
    cases h with
    | cons h1 h2 => exact .cons (Dp.same s d _ h1) (Dp.sameAll s ds _ h2)
end
theorem DpAll.len {H : Hp} : ∀ {ds : List PyData} {vs : List V}, DpAll K H vs ds → vs.length = ds.length
  | [], _, h => by
    cases h
    rfl
  | d :: ds, _, h => by
    cases h with
    | cons h1 h2 => rw [List.length_cons, List.length_cons, DpAll.len h2]
theorem DpAll.get {H : Hp} : ∀ {ds : List PyData} {vs : List V} {i : Nat} {x : V}, DpAll K H vs ds → vs[i]? = some x → ∃ d, ds[i]? = some d ∧ Dp K H x d
  | [], _, i, x, h, e => by
    cases h
    cases e
  | d :: ds, _, 0, x, h, e => by
    cases h with
    | cons h1 h2 =>
      cases e
      exact ⟨d, rfl, h1⟩
  | d :: ds, _, i + 1, x, h, e => by
    cases h with
    | @cons _ vs _ _ h1 h2 => exact DpAll.get (ds := ds) (vs := vs) h2 (show vs[i]? = some x from e)
theorem walk_zipT {a b : Addr} {xs ys : List V} {n : Nat} (hn : n = min xs.length ys.length) : Walk (RZ.ItzT K a b) n (fun H => SqT K H a xs ∧ SqT K H b ys) (YPair (fun i => xs[i]?) (fun i => ys[i]?)) := by
  subst hn
  refine ⟨fun i _ hi q => ?_, fun _ q => ⟨xs, ys, q.1, q.2, by omega⟩, fun i H v H' _ q y => ?_⟩
  · have h1 : i < xs.length := by omega
    have h2 : i < ys.length := by omega
    exact ⟨xs, ys, xs[i], ys[i], q.1, q.2, by simp [h1], by simp [h2]⟩
  · obtain ⟨T, x, z, h1, h2, h3, h4, h5⟩ := y
    exact ⟨T, x, z, h1, h2, h3, h4 xs q.1, h5 ys q.2⟩
theorem ty_lst {H : Hp} {a : Addr} {xs : List V} (h : SqL K H a xs) : TyX K H (.ref a) (.type "list") := by
  rcases h with (h | ⟨o, h⟩) | ⟨o, its, n, h1, h2, _⟩
  · exact .base (.lst h)
  · exact .base (.frz h)
  · exact .kList h1 h2
theorem ty_tup {H : Hp} {a : Addr} {xs : List V} (h : SqT K H a xs) : TyX K H (.ref a) (.type "tuple") := by
  rcases h with (h | ⟨o, h⟩) | ⟨o, its, n, h1, h2, _⟩
  · exact .base (.tup h)
  · exact .fTuple h
  · exact .kTuple h1 h2
def spSame (K : PySem.W.Frag) (k : Nat) : Sp := fun vs H Q _ => ∃ (x y : V) (d : PyData) (j : Nat), vs = [x, y] ∧ k = j + 1 ∧ Lv j d ∧ Dp K H x d ∧ Dp K H y d ∧ ∀ H', Same H H' → Q (.bl true) H'
theorem same_none {f : Addr} {fd : FuncData} : FnOk P w K mg base CX0 0 f fd ["_law_found", "_law_due"] (spSame K 0) := by
  have no : ∀ vs H Q E, ¬ spSame K 0 vs H Q E := fun vs H Q E h => by
    obtain ⟨x, y, d, j, _, h0, _⟩ := h
    omega
  exact ⟨fun vs H Q E h => absurd h (no vs H Q E), fun A outer s H args us vs Q E _ _ _ _ h => absurd h (no vs H Q E)⟩
theorem yesT {σ : L2.St} {H : Hp} {R S : Hp → Prop} (h : R H) : tYes σ H fun b H3 => if b = true then R H3 else S H3 := h
theorem repl_snoc {α : Type} (i : Nat) (x : α) : List.replicate i x ++ [x] = List.replicate (i + 1) x := List.replicate_succ'.symm
theorem all_repl (n : Nat) : (List.replicate n true).all id = true := by
  rw [List.all_eq_true]
  intro x hx
  rw [List.eq_of_mem_replicate hx]
  rfl
theorem kitLT {t : String} {r1 r2 : Bool} (h1 : kitB t "list" = some r1) (h2 : kitB t "tuple" = some r2) : PySem.W.kitAny K (.type t) [.type "list", .type "tuple"] = some (r1 || r2) := by
  refine kitAny_cons (kit_ty h1) (fun e => ?_) (fun e => by rw [e]; rfl)
  rw [e, Bool.false_or]
  refine kitAny_cons (kit_ty h2) (fun e => ?_) (fun e => e)
  rw [e]
  rfl
theorem ok_same1 {f : Addr} {fd : FuncData} {k : Nat} (F : Fun K "_law_same" "_law_same" sSame f fd) (G : FnOk P w K mg base CX0 k f fd ["_law_found", "_law_due"] (spSame K k)) (bf : Binds K fd ["_law_found", "_law_due"] []) (mf : mg "_law_same" = some (.ref f)) (B : Bl mg) :
    FnOk P w K mg base CX0 (k + 1) f fd ["_law_found", "_law_due"] (spSame K (k + 1)) := by
  refine F.ok scSame (fun vs H Q E h => ?_) (fun cdv A outer s H vs Q E hr h => ?_)
  · obtain ⟨x, y, d, j, rfl, _⟩ := h
    rfl
  obtain ⟨x, y, d, j, rfl, ej, lv, dx, dy, q⟩ := h
  obtain rfl : k = j := by omega
  refine ⟨_, pss_cons (ps_if (pt_val (pe_callB call_isiT (by rfl) B.isinstance boot_isinstance (pa_cons (pv 1) (pa_cons (pe_tup (pa_cons (pe_bltn (v := .ty "list") (by rfl) B.list PyProof.Rows.boot_list rfl) (pa_cons (pe_bltn (v := .ty "tuple") (by rfl) B.tuple PyProof.Rows.boot_tuple rfl) pa_nil))) pa_nil))))
      (pss_cons (ps_if (PW.pt (pw_or (pt_cmpR op_ne (pe_callB call_isi (by rfl) B.isinstance boot_isinstance (pa_cons (pv 0) (pa_cons (pe_bltn (v := .ty "list") (by rfl) B.list PyProof.Rows.boot_list rfl) pa_nil))) (pe_callB call_isi (by rfl) B.isinstance boot_isinstance (pa_cons (pv 1) (pa_cons (pe_bltn (v := .ty "list") (by rfl) B.list PyProof.Rows.boot_list rfl) pa_nil))) (nomark _))
          (pw_or1 (pt_cmpR op_ne (pe_callB call_isi (by rfl) B.isinstance boot_isinstance (pa_cons (pv 0) (pa_cons (pe_bltn (v := .ty "tuple") (by rfl) B.tuple PyProof.Rows.boot_tuple rfl) pa_nil))) (pe_callB call_isi (by rfl) B.isinstance boot_isinstance (pa_cons (pv 1) (pa_cons (pe_bltn (v := .ty "tuple") (by rfl) B.tuple PyProof.Rows.boot_tuple rfl) pa_nil))) (nomark _)))))
          (pss_one (ps_ret pe_bl)) pss_nil)
        (pss_one (ps_ret (pe_and (pe_cmpR op_eq (pe_callB call_len_seq (by rfl) B.len PySem.boot_len (pa_cons (pv 0) pa_nil)) (pe_callB call_len_seq (by rfl) B.len PySem.boot_len (pa_cons (pv 1) pa_nil)) (nomark _))
          (pe_one (pe_callB (cr_all rfl) (by rfl) B.all boot_all (pa_cons (pe_lc (own := [("_law_one", 2), ("_law_other", 3)]) (g := gTup K 2 (gCons (gName 2) (gCons (gName 3) gNil))) (by rfl) scSame.nd (RZ.pi_zipA (by rfl) B.zip (pa_cons (pv 0) (pa_cons (pv 1) pa_nil)))
            (blkOk_by (own := [("_law_one", 2), ("_law_other", 3)]) (N := ["_law_found", "_law_due", "_law_one", "_law_other"]) (sc := defScope sSame) (by decide +kernel))
            (fun _ _ _ _ _ => pg_tup rfl (pgs_cons (pg_name (i := 2) scSame.nd rfl (Or.inl rfl) (.inr rfl)) (pgs_cons (pg_name (i := 3) scSame.nd rfl (Or.inl rfl) (.inr rfl)) pgs_nil))) (fun _ _ _ _ _ => pts_nil)
            (fun _ _ _ _ _ => pe_call G hr (by rfl) mf F.kp bf .nil pass0 (pa_cons (pv 2) (pa_cons (pv 3) pa_nil)))) pa_nil))))))) pss_nil)
    (pss_cons (ps_if (PW.pt (pw_or (pt_cmpR op_isN (pv 1) pe_non (nomark _)) (pw_or1 (pt_val (pe_callB call_isi (by rfl) B.isinstance boot_isinstance (pa_cons (pv 1) (pa_cons (pe_bltn (v := .ty "str") (by rfl) B.str PyProof.Rows.boot_str rfl) pa_nil)))))))
      (pss_one (ps_ret (pe_and (pe_cmpR op_eq (pv 0) (pv 1) (nomark _)) (pe_one (pe_cmpR op_eq (pe_callB call_isi (by rfl) B.isinstance boot_isinstance (pa_cons (pv 0) (pa_cons (pe_bltn (v := .ty "str") (by rfl) B.str PyProof.Rows.boot_str rfl) pa_nil))) (pe_callB call_isi (by rfl) B.isinstance boot_isinstance (pa_cons (pv 1) (pa_cons (pe_bltn (v := .ty "str") (by rfl) B.str PyProof.Rows.boot_str rfl) pa_nil))) (nomark _)))))) pss_nil)
    (pss_one (ps_ret (pe_and (pe_callB call_isi (by rfl) B.isinstance boot_isinstance (pa_cons (pv 0) (pa_cons (pe_bltn (v := .ty "int") (by rfl) B.int PyProof.Rows.boot_int rfl) pa_nil))) (pe_and (pe_cmpR op_eq (pe_callB call_isi (by rfl) B.isinstance boot_isinstance (pa_cons (pv 0) (pa_cons (pe_bltn (v := .ty "bool") (by rfl) B.bool PyProof.Rows.boot_bool rfl) pa_nil))) (pe_callB call_isi (by rfl) B.isinstance boot_isinstance (pa_cons (pv 1) (pa_cons (pe_bltn (v := .ty "bool") (by rfl) B.bool PyProof.Rows.boot_bool rfl) pa_nil))) (nomark _))
      (pe_one (pe_cmpR op_eq (pv 0) (pv 1) (nomark _)))))))), ?_⟩
  have pr : Paired ClsV [.ty "list", .ty "tuple"] [.type "list", .type "tuple"] := .cons (.ty _) (.cons (.ty _) .nil)
  refine ⟨_, rfl, (by show 2 ≤ sizeLine; decide), fun tp ntp => ?_⟩
  have s0 : Same H (upd H tp (.tup [.ty "list", .ty "tuple"])) := same_upd ntp
  cases d with
  | none =>
    cases dx
    cases dy
    refine ⟨_, tp, _, _, _, _, rfl, upd_same, pr, .base .non, kitLT (t := "NoneType") (r1 := false) (r2 := false) (by decide +kernel) (by decide +kernel), _, rfl, iteF ?_⟩
    refine ⟨_, rfl, rfl, _, rfl, iteT (iteT ?_)⟩
    refine ⟨_, rfl, _, rfl, rfl, _, rfl, iteT ?_⟩
    refine ⟨_, rfl, _, _, _, _, _, rfl, .ty _, .base .non, kit_ty (by decide +kernel : kitB "NoneType" "str" = some false), _, rfl, _, _, _, _, _, rfl, .ty _, .base .non, kit_ty (by decide +kernel : kitB "NoneType" "str" = some false), rfl, q _ s0⟩
  | bool b =>
    cases dx
    cases dy
    refine ⟨_, tp, _, _, _, _, rfl, upd_same, pr, .base (.bl _), kitLT (t := "bool") (r1 := false) (r2 := false) (by decide +kernel) (by decide +kernel), _, rfl, iteF ?_⟩
    refine ⟨_, rfl, rfl, _, rfl, iteF ?_⟩
    refine ⟨_, rfl, _, _, _, _, _, rfl, .ty _, .base (.bl _), kit_ty (by decide +kernel : kitB "bool" "str" = some false), _, rfl, iteF ?_⟩
    refine ⟨_, rfl, _, _, _, _, _, rfl, .ty _, .base (.bl _), kit_ty (by decide +kernel : kitB "bool" "int" = some true), _, rfl, iteT ?_⟩
    refine ⟨_, rfl, _, _, _, _, _, rfl, .ty _, .base (.bl _), kit_ty (by decide +kernel : kitB "bool" "bool" = some true), _, rfl, _, _, _, _, _, rfl, .ty _, .base (.bl _), kit_ty (by decide +kernel : kitB "bool" "bool" = some true), rfl, _, rfl, iteT ?_⟩
    refine ⟨_, rfl, _, rfl, rfl, ?_⟩
    rw [decide_eq_true rfl]
    exact q _ s0
  | int i =>
    cases dx
    cases dy
    refine ⟨_, tp, _, _, _, _, rfl, upd_same, pr, .base (.int _), kitLT (t := "int") (r1 := false) (r2 := false) (by decide +kernel) (by decide +kernel), _, rfl, iteF ?_⟩
    refine ⟨_, rfl, rfl, _, rfl, iteF ?_⟩
    refine ⟨_, rfl, _, _, _, _, _, rfl, .ty _, .base (.int _), kit_ty (by decide +kernel : kitB "int" "str" = some false), _, rfl, iteF ?_⟩
    refine ⟨_, rfl, _, _, _, _, _, rfl, .ty _, .base (.int _), kit_ty (by decide +kernel : kitB "int" "int" = some true), _, rfl, iteT ?_⟩
    refine ⟨_, rfl, _, _, _, _, _, rfl, .ty _, .base (.int _), kit_ty (by decide +kernel : kitB "int" "bool" = some false), _, rfl, _, _, _, _, _, rfl, .ty _, .base (.int _), kit_ty (by decide +kernel : kitB "int" "bool" = some false), rfl, _, rfl, iteT ?_⟩
    refine ⟨_, rfl, _, rfl, rfl, ?_⟩
    rw [decide_eq_true rfl]
    exact q _ s0
  | str z =>
    cases dx
    cases dy
    refine ⟨_, tp, _, _, _, _, rfl, upd_same, pr, .base (.str _), kitLT (t := "str") (r1 := false) (r2 := false) (by decide +kernel) (by decide +kernel), _, rfl, iteF ?_⟩
    refine ⟨_, rfl, rfl, _, rfl, iteF ?_⟩
    refine ⟨_, rfl, _, _, _, _, _, rfl, .ty _, .base (.str _), kit_ty (by decide +kernel : kitB "str" "str" = some true), _, rfl, iteT ?_⟩
    refine ⟨_, rfl, _, rfl, rfl, ?_⟩
    rw [decide_eq_true rfl]
    refine ⟨_, rfl, iteT ?_⟩
    exact ⟨_, rfl, _, _, _, _, _, rfl, .ty _, .base (.str _), kit_ty (by decide +kernel : kitB "str" "str" = some true), _, rfl, _, _, _, _, _, rfl, .ty _, .base (.str _), kit_ty (by decide +kernel : kitB "str" "str" = some true), rfl, q _ s0⟩
  | list ds =>
    cases dx with
    | @lst a xs _ hx ax =>
    cases dy with
    | @lst b ys _ hy ay =>
    obtain ⟨i, rfl⟩ : ∃ i, k = i + 1 := by
      cases k with
      | zero => exact absurd lv id
      | succ i => exact ⟨i, rfl⟩
    have lx := DpAll.len ax
    have ly := DpAll.len ay
    have hx1 := s0.seq hx
    have hy1 := s0.seq hy
    refine ⟨_, tp, _, _, _, _, rfl, upd_same, pr, ty_lst hy1, kitLT (t := "list") (r1 := true) (r2 := false) (by decide +kernel) (by decide +kernel), _, rfl, iteT ?_⟩
    refine ⟨_, rfl, _, _, _, _, _, rfl, .ty _, ty_lst hx1, kit_ty (by decide +kernel : kitB "list" "list" = some true), _, rfl, _, _, _, _, _, rfl, .ty _, ty_lst hy1, kit_ty (by decide +kernel : kitB "list" "list" = some true), rfl, _, rfl, iteF ?_⟩
    refine ⟨_, rfl, _, _, _, _, _, rfl, .ty _, ty_lst hx1, kit_ty (by decide +kernel : kitB "list" "tuple" = some false), _, rfl, _, _, _, _, _, rfl, .ty _, ty_lst hy1, kit_ty (by decide +kernel : kitB "list" "tuple" = some false), rfl, _, rfl, iteF ?_⟩
    refine ⟨_, rfl, a, _, rfl, .inl hx1, _, rfl, b, _, rfl, .inl hy1, rfl, ?_⟩
    rw [decide_eq_true (by rw [lx, ly])]
    refine ⟨_, rfl, iteT ?_⟩
    refine ⟨_, rfl, _, rfl, a, b, xs, ys, rfl, .inl ⟨hx1, hy1, fun D nD => ?_⟩⟩
    have sD := s0.trans (same_upd (o := .lst []) nD)
    refine lc_it (walk_zip (K := K) (a := a) (b := b) (xs := xs) (ys := ys) rfl) (fun i H3 => Same H H3 ∧ H3 D = some (.lst (List.replicate i (.bl true)))) ⟨sD, upd_same⟩ (fun i H3 _ ⟨s3, _⟩ => ⟨s3.seq hx, s3.seq hy⟩) ?_ ?_
    · rintro i v H3 H4 hi ⟨s3, eD⟩ ⟨T, x, y, rfl, nT, rfl, e1, e2⟩
      obtain ⟨d1, g1, p1⟩ := DpAll.get ax e1
      obtain ⟨d2, g2, p2⟩ := DpAll.get ay e2
      obtain rfl : d1 = d2 := Option.some.inj (g1.symm.trans g2)
      have s4 := s3.trans (same_upd (o := .tup [x, y]) nT)
      refine ⟨T, _, rfl, .inl (.inl upd_same), rfl, _, _, rfl, _, _, rfl, rfl, rfl, ?_⟩
      refine yesT ?_
      refine ⟨_, rfl, _, rfl, x, y, d1, _, rfl, rfl, lv.2 d1 (List.mem_of_getElem? g1), Dp.same s4 _ _ p1, Dp.same s4 _ _ p2, fun H5 s5 => ?_⟩
      refine ⟨_, s5 _ _ (by rw [upd_ne (ne_of_none eD nT)]; exact eD), ?_, fun p o e => ?_, ?_⟩
      · rw [List.length_replicate]
        have := lv.1
        refine Nat.lt_of_lt_of_le (show i < 1000000 by omega) (by decide)
      · rw [upd_ne (ne_of_none e (s0.free nD))]
        exact s5 _ _ (s4 _ _ e)
      · rw [upd_same, repl_snoc]
    · rintro H3 ⟨s3, eD⟩
      refine ⟨D, List.replicate (min xs.length ys.length) true, rfl, .inl (.inl (by rw [List.map_replicate]; exact eD)), ?_⟩
      rw [all_repl]
      exact q _ s3
  | tuple ds =>
    cases dx with
    | @tup a xs _ hx ax =>
    cases dy with
    | @tup b ys _ hy ay =>
    obtain ⟨i, rfl⟩ : ∃ i, k = i + 1 := by
      cases k with
      | zero => exact absurd lv id
      | succ i => exact ⟨i, rfl⟩
    have lx := DpAll.len ax
    have ly := DpAll.len ay
    have hx1 := Same.seqT s0 hx
    have hy1 := Same.seqT s0 hy
    refine ⟨_, tp, _, _, _, _, rfl, upd_same, pr, ty_tup hy1, kitLT (t := "tuple") (r1 := false) (r2 := true) (by decide +kernel) (by decide +kernel), _, rfl, iteT ?_⟩
    refine ⟨_, rfl, _, _, _, _, _, rfl, .ty _, ty_tup hx1, kit_ty (by decide +kernel : kitB "tuple" "list" = some false), _, rfl, _, _, _, _, _, rfl, .ty _, ty_tup hy1, kit_ty (by decide +kernel : kitB "tuple" "list" = some false), rfl, _, rfl, iteF ?_⟩
    refine ⟨_, rfl, _, _, _, _, _, rfl, .ty _, ty_tup hx1, kit_ty (by decide +kernel : kitB "tuple" "tuple" = some true), _, rfl, _, _, _, _, _, rfl, .ty _, ty_tup hy1, kit_ty (by decide +kernel : kitB "tuple" "tuple" = some true), rfl, _, rfl, iteF ?_⟩
    refine ⟨_, rfl, a, _, rfl, .inr hx1, _, rfl, b, _, rfl, .inr hy1, rfl, ?_⟩
    rw [decide_eq_true (by rw [lx, ly])]
    refine ⟨_, rfl, iteT ?_⟩
    refine ⟨_, rfl, _, rfl, a, b, xs, ys, rfl, .inr ⟨hx1, hy1, fun D nD => ?_⟩⟩
    have sD := s0.trans (same_upd (o := .lst []) nD)
    refine lc_it (walk_zipT (K := K) (a := a) (b := b) (xs := xs) (ys := ys) rfl) (fun i H3 => Same H H3 ∧ H3 D = some (.lst (List.replicate i (.bl true)))) ⟨sD, upd_same⟩ (fun i H3 _ ⟨s3, _⟩ => ⟨Same.seqT s3 hx, Same.seqT s3 hy⟩) ?_ ?_
    · rintro i v H3 H4 hi ⟨s3, eD⟩ ⟨T, x, y, rfl, nT, rfl, e1, e2⟩
      obtain ⟨d1, g1, p1⟩ := DpAll.get ax e1
      obtain ⟨d2, g2, p2⟩ := DpAll.get ay e2
      obtain rfl : d1 = d2 := Option.some.inj (g1.symm.trans g2)
      have s4 := s3.trans (same_upd (o := .tup [x, y]) nT)
      refine ⟨T, _, rfl, .inl (.inl upd_same), rfl, _, _, rfl, _, _, rfl, rfl, rfl, ?_⟩
      refine yesT ?_
      refine ⟨_, rfl, _, rfl, x, y, d1, _, rfl, rfl, lv.2 d1 (List.mem_of_getElem? g1), Dp.same s4 _ _ p1, Dp.same s4 _ _ p2, fun H5 s5 => ?_⟩
      refine ⟨_, s5 _ _ (by rw [upd_ne (ne_of_none eD nT)]; exact eD), ?_, fun p o e => ?_, ?_⟩
      · rw [List.length_replicate]
        have := lv.1
        refine Nat.lt_of_lt_of_le (show i < 1000000 by omega) (by decide)
      · rw [upd_ne (ne_of_none e (s0.free nD))]
        exact s5 _ _ (s4 _ _ e)
      · rw [upd_same, repl_snoc]
    · rintro H3 ⟨s3, eD⟩
      refine ⟨D, List.replicate (min xs.length ys.length) true, rfl, .inl (.inl (by rw [List.map_replicate]; exact eD)), ?_⟩
      rw [all_repl]
      exact q _ s3
  | dict _ => cases dx
theorem ok_same {f : Addr} {fd : FuncData} (F : Fun K "_law_same" "_law_same" sSame f fd) (bf : Binds K fd ["_law_found", "_law_due"] []) (mf : mg "_law_same" = some (.ref f)) (B : Bl mg) : ∀ k : Nat, FnOk P w K mg base CX0 k f fd ["_law_found", "_law_due"] (spSame K k)
  | 0 => same_none
  | k + 1 => ok_same1 F (ok_same F bf mf B k) bf mf B
end
end GZ
namespace GM
theorem pow_pos' (n : Nat) : (0 : Int) < 2 ^ n := Int.pow_pos (by decide)
theorem pow_s (n : Nat) : (2 : Int) ^ (n + 1) = 2 ^ n * 2 := Int.pow_succ 2 n
theorem pow_le' {m n : Nat} (h : m ≤ n) : (2 : Int) ^ m ≤ 2 ^ n := by
  induction n with
  | zero =>
    have : m = 0 := by omega
    rw [this]
    exact Int.le_refl _
  | succ n ih =>
    by_cases e : m = n + 1
    · rw [e]
      exact Int.le_refl _
    · have := ih (by omega)
      have := pow_s n
      have := pow_pos' n
      omega
theorem pow_add' (m n : Nat) : (2 : Int) ^ (m + n) = 2 ^ m * 2 ^ n := Int.pow_add 2 m n
theorem bits_pow {x : Nat} {e : Nat} (h : x < 2 ^ e) : PySem.Builtin.Int.intBits (x : Int) ≤ e := PyProof.Rows.intBits_le (by rw [Int.natAbs_natCast]; exact h)
theorem bits_le_pow {x : Nat} {e : Nat} (h : 2 ^ e ≤ x) : e + 1 ≤ PySem.Builtin.Int.intBits (x : Int) := by
  have hx : x ≠ 0 := by
    have := Nat.two_pow_pos e
    omega
  unfold PySem.Builtin.Int.intBits
  rw [if_neg (by simpa using hx), Int.natAbs_natCast]
  have := (Nat.le_log2 hx).mpr h
  omega
theorem bits_unique {x e : Nat} (h1 : 2 ^ e ≤ x) (h2 : x < 2 ^ (e + 1)) : PySem.Builtin.Int.intBits (x : Int) = e + 1 := by
  have := bits_pow h2
  have := bits_le_pow h1
  omega
theorem bits_ex {x : Nat} (h : 0 < x) : ∃ e, 2 ^ e ≤ x ∧ x < 2 ^ (e + 1) := ⟨x.log2, Nat.log2_self_le (by omega), Nat.lt_log2_self⟩
theorem bits_half {x : Nat} (h : 0 < x) : PySem.Builtin.Int.intBits (x : Int) = PySem.Builtin.Int.intBits ((x / 2 : Nat) : Int) + 1 := by
  obtain ⟨e, h1, h2⟩ := bits_ex h
  rw [bits_unique h1 h2]
  cases e with
  | zero =>
    have : x = 1 := by
      simp at h1 h2
      omega
    rw [this]
    rfl
  | succ e =>
    rw [bits_unique (x := x / 2) (e := e)]
    · rw [Nat.pow_succ] at h1
      omega
    · rw [Nat.pow_succ] at h2
      omega
theorem bits_double {x m : Nat} (h : 0 < x) (hm : m ≤ 1) : PySem.Builtin.Int.intBits ((2 * x + m : Nat) : Int) = PySem.Builtin.Int.intBits (x : Int) + 1 := by
  rw [bits_half (x := 2 * x + m) (by omega), show (2 * x + m) / 2 = x by omega]
theorem shr_lt {x : Int} {a b : Nat} (h0 : 0 ≤ x) (h : x < 2 ^ (a + b)) : 0 ≤ x / 2 ^ b ∧ x / 2 ^ b < 2 ^ a := by
  have hb := pow_pos' b
  refine ⟨Int.ediv_nonneg h0 (by omega), ?_⟩
  rw [pow_add'] at h
  exact Int.ediv_lt_of_lt_mul hb h
end GM
namespace GM
/-! ### words: a sign, a scale of m bits, a tail of t bits -/
def bit (a : Int) (n : Nat) : Int := a / 2 ^ n % 2
def blr (a : Int) : Nat → List Int
  | 0 => []
  | n + 1 => bit a n :: blr a n
def wv : List Int → Int
  | [] => 0
  | d :: r => d * 2 ^ r.length + wv r
theorem blr_len (a : Int) : ∀ n, (blr a n).length = n
  | 0 => rfl
  | n + 1 => by
    show (blr a n).length + 1 = n + 1
    rw [blr_len a n]
theorem div_div (w : Int) (t m : Nat) : w / 2 ^ t / 2 ^ m = w / 2 ^ (t + m) := by
  rw [pow_add', Int.ediv_ediv_of_nonneg (Int.le_of_lt (pow_pos' t))]
theorem bit_div (w : Int) (t m : Nat) : bit (w / 2 ^ t) m = bit w (m + t) := by
  unfold bit
  rw [div_div, Nat.add_comm t m]
theorem blr_take (w : Int) (t : Nat) : ∀ m, (blr w (m + t)).take m = blr (w / 2 ^ t) m
  | 0 => rfl
  | m + 1 => by
    show (blr w ((m + 1) + t)).take (m + 1) = bit (w / 2 ^ t) m :: blr (w / 2 ^ t) m
    rw [show m + 1 + t = (m + t) + 1 by omega]
    show bit w (m + t) :: (blr w (m + t)).take m = _
    rw [blr_take w t m, bit_div]
theorem blr_drop (w : Int) (t : Nat) : ∀ m, (blr w (m + t)).drop m = blr w t
  | 0 => by rw [Nat.zero_add]; rfl
  | m + 1 => by
    rw [show m + 1 + t = (m + t) + 1 by omega]
    show (blr w (m + t)).drop m = _
    exact blr_drop w t m
theorem mod_step (a : Int) (n : Nat) : bit a n * 2 ^ n + a % 2 ^ n = a % 2 ^ (n + 1) := by
  unfold bit
  have hp := pow_pos' n
  have e1 := Int.emod_add_mul_ediv a (2 ^ n)
  have e2 := Int.emod_add_mul_ediv (a / 2 ^ n) 2
  have h1 := Int.emod_nonneg a (show (2 : Int) ^ n ≠ 0 by omega)
  have h2 := Int.emod_lt_of_pos a hp
  have e3 : 2 ^ n * (a / 2 ^ n) = a / 2 ^ n % 2 * 2 ^ n + a / 2 ^ n / 2 * (2 ^ n * 2) := by
    conv => lhs; rw [← e2]
    rw [Int.mul_add, Int.mul_comm (2 ^ n) (a / 2 ^ n % 2), ← Int.mul_assoc, Int.mul_comm (2 ^ n * 2) _]
  have key : (a / 2 ^ n % 2 * 2 ^ n + a % 2 ^ n) + a / 2 ^ n / 2 * 2 ^ (n + 1) = a := by
    rw [pow_s]
    omega
  have hb : 0 ≤ a / 2 ^ n % 2 * 2 ^ n + a % 2 ^ n ∧ a / 2 ^ n % 2 * 2 ^ n + a % 2 ^ n < 2 ^ (n + 1) := by
    rw [pow_s]
    have : a / 2 ^ n % 2 = 0 ∨ a / 2 ^ n % 2 = 1 := by omega
    rcases this with z | z <;> rw [z] <;> omega
  have em := Int.add_mul_emod_self_right (a / 2 ^ n % 2 * 2 ^ n + a % 2 ^ n) (a / 2 ^ n / 2) (2 ^ (n + 1))
  rw [key, Int.emod_eq_of_lt hb.1 hb.2] at em
  exact em.symm
theorem wv_blr (a : Int) : ∀ n, wv (blr a n) = a % 2 ^ n
  | 0 => by
    show (0 : Int) = a % 1
    omega
  | n + 1 => by
    show bit a n * 2 ^ (blr a n).length + wv (blr a n) = _
    rw [blr_len, wv_blr a n, ← mod_step a n]
theorem fold2 : ∀ (ds : List Int) (w : Int), ds.foldl (fun a b => a * 2 + b) w = w * 2 ^ ds.length + wv ds
  | [], w => by
    show w = w * 2 ^ 0 + 0
    rw [Int.pow_zero]
    omega
  | d :: r, w => by
    show r.foldl (fun a b => a * 2 + b) (w * 2 + d) = w * 2 ^ (r.length + 1) + (d * 2 ^ r.length + wv r)
    rw [fold2 r, pow_s, Int.add_mul, Int.mul_assoc, Int.mul_comm 2 (2 ^ r.length)]
    omega
theorem wv_ones : ∀ k, wv (List.replicate k 1) = 2 ^ k - 1
  | 0 => rfl
  | k + 1 => by
    rw [List.replicate_succ]
    show 1 * 2 ^ (List.replicate k (1 : Int)).length + wv (List.replicate k 1) = _
    rw [List.length_replicate, wv_ones k, pow_s]
    omega
/-- sign, scale, tail of a word -/
def sgn (m t : Nat) (w : Int) : Int := w / 2 ^ (m + t) % 2
def scl (m t : Nat) (w : Int) : Int := w / 2 ^ t % 2 ^ m
def tlp (t : Nat) (w : Int) : Int := w % 2 ^ t
theorem scl_tlp (m t : Nat) (w : Int) : scl m t w * 2 ^ t + tlp t w = w % 2 ^ (m + t) := by
  induction m with
  | zero =>
    unfold scl tlp
    rw [Int.pow_zero, Int.emod_one, Int.zero_mul, Int.zero_add, Nat.zero_add]
  | succ m ih =>
    have e := mod_step (w / 2 ^ t) m
    have e2 := mod_step w (m + t)
    rw [bit_div] at e
    unfold scl at ih ⊢
    rw [← e, Int.add_mul, show m + 1 + t = (m + t) + 1 by omega, ← e2, ← ih, Int.mul_assoc, ← pow_add']
    omega
theorem sgn_01 {m t : Nat} {w : Int} : sgn m t w = 0 ∨ sgn m t w = 1 := by
  unfold sgn
  omega
theorem word_eq {m t : Nat} {w : Int} (h0 : 0 ≤ w) (h1 : w < 2 ^ (1 + m + t)) : sgn m t w * 2 ^ (m + t) + w % 2 ^ (m + t) = w := by
  have e := mod_step w (m + t)
  rw [show m + t + 1 = 1 + m + t by omega, Int.emod_eq_of_lt h0 h1] at e
  exact e
theorem scl_nn (m t : Nat) (w : Int) : 0 ≤ scl m t w ∧ scl m t w < 2 ^ m := ⟨Int.emod_nonneg _ (by have := pow_pos' m; omega), Int.emod_lt_of_pos _ (pow_pos' m)⟩
theorem tlp_nn (t : Nat) (w : Int) : 0 ≤ tlp t w ∧ tlp t w < 2 ^ t := ⟨Int.emod_nonneg _ (by have := pow_pos' t; omega), Int.emod_lt_of_pos _ (pow_pos' t)⟩
/-- with the other sign -/
def trn (m t : Nat) (w : Int) : Int := (1 - sgn m t w) * 2 ^ (m + t) + w % 2 ^ (m + t)
theorem mk_parts {m t : Nat} {s r : Int} (hs : s = 0 ∨ s = 1) (h0 : 0 ≤ r) (h1 : r < 2 ^ (m + t)) : 0 ≤ s * 2 ^ (m + t) + r ∧ s * 2 ^ (m + t) + r < 2 ^ (1 + m + t) ∧ sgn m t (s * 2 ^ (m + t) + r) = s ∧ (s * 2 ^ (m + t) + r) % 2 ^ (m + t) = r := by
  have hp := pow_pos' (m + t)
  have e : (2 : Int) ^ (1 + m + t) = 2 ^ (m + t) * 2 := by rw [← pow_s]; congr 1; omega
  have em : (s * 2 ^ (m + t) + r) % 2 ^ (m + t) = r := by
    rw [Int.add_comm, Int.add_mul_emod_self_right, Int.emod_eq_of_lt h0 h1]
  have ed : (s * 2 ^ (m + t) + r) / 2 ^ (m + t) = s := by
    rw [Int.add_comm, Int.add_mul_ediv_right _ _ (by omega), Int.ediv_eq_zero_of_lt h0 h1, Int.zero_add]
  refine ⟨?_, ?_, ?_, em⟩
  · rcases hs with z | z <;> subst z <;> omega
  · rw [e]
    rcases hs with z | z <;> subst z <;> omega
  · unfold sgn
    rw [ed]
    omega
theorem trn_trn {m t : Nat} {w : Int} (h0 : 0 ≤ w) (h1 : w < 2 ^ (1 + m + t)) : trn m t (trn m t w) = w ∧ 0 ≤ trn m t w ∧ trn m t w < 2 ^ (1 + m + t) := by
  have hp := pow_pos' (m + t)
  have hs : 1 - sgn m t w = 0 ∨ 1 - sgn m t w = 1 := by
    have := sgn_01 (m := m) (t := t) (w := w)
    omega
  obtain ⟨a, b, c, d⟩ := mk_parts (m := m) (t := t) hs (Int.emod_nonneg w (show (2 : Int) ^ (m + t) ≠ 0 by omega)) (Int.emod_lt_of_pos w hp)
  refine ⟨?_, a, b⟩
  show (1 - sgn m t (trn m t w)) * 2 ^ (m + t) + trn m t w % 2 ^ (m + t) = w
  rw [show sgn m t (trn m t w) = 1 - sgn m t w from c, show trn m t w % 2 ^ (m + t) = w % 2 ^ (m + t) from d, show 1 - (1 - sgn m t w) = sgn m t w by omega]
  exact word_eq h0 h1
end GM
namespace GR
open PySem
/-! ### the rounding, as a function -/
def bl (n : Int) : Int := (Builtin.Int.intBits n : Nat)
def cutQ (n b : Int) : Int := if b < 0 then n * 2 ^ (-b).toNat else n / 2 ^ b.toNat
def cutR (n b : Int) : Bool := if b < 0 then false else !decide (n / 2 ^ b.toNat * 2 ^ b.toNat = n)
def lea (sc tl : Nat) : Int := 1 - (2 ^ (sc - 1) - 1) - (tl : Int)
def lap (sc tl : Nat) (n p : Int) : Int := if lea sc tl > bl n + p - 1 - (tl : Int) then lea sc tl else bl n + p - 1 - (tl : Int)
def prQ (n b : Int) : Int := cutQ n (b - 1) / 2 ^ 1
def prR (n b : Int) (more : Bool) : Int := 2 * (cutQ n (b - 1) % 2 ^ 1) + (if cutR n (b - 1) || more then 1 else 0)
def away (way : Str) (s : Int) : Bool := if way = "cut" then false else decide (s = if way = "up" then 0 else 1)
def gup (way : Str) (s many rest : Int) : Bool := if way = "near" then decide (rest = 3) || (decide (rest = 2) && decide (many % 2 = 1)) else !decide (rest = 0) && away way s
def wrd (sc tl : Nat) (s m t : Int) : Int := s * 2 ^ (sc + tl) + (m * 2 ^ tl + t)
def bey (sc tl : Nat) (s : Int) (way : Str) : Int := if (decide (way = "near") || away way s) = true then wrd sc tl s (2 ^ sc - 1) 0 else wrd sc tl s (2 ^ sc - 1 - 1) (2 ^ tl - 1)
def flg (sc : Nat) (n p rest : Int) : List Str := if rest = 0 then [] else if bl n + p ≤ 1 - (2 ^ (sc - 1) - 1) then ["under", "rounded"] else ["rounded"]
def mny (sc tl : Nat) (s n p : Int) (way : Str) (more : Bool) : Int := if gup way s (prQ n (lap sc tl n p - p)) (prR n (lap sc tl n p - p) more) = true then prQ n (lap sc tl n p - p) + 1 else prQ n (lap sc tl n p - p)
def siz (sc tl : Nat) (s n p : Int) (way : Str) (more : Bool) : Int := (lap sc tl n p - lea sc tl) * 2 ^ tl + mny sc tl s n p way more
def rnd (sc tl : Nat) (s n p : Int) (way : Str) (more : Bool) : Int × List Str :=
  if n = 0 then (wrd sc tl s 0 0, [])
  else if siz sc tl s n p way more > wrd sc tl 0 (2 ^ sc - 1 - 1) (2 ^ tl - 1) then (bey sc tl s way, ["over", "rounded"])
  else (wrd sc tl s 0 0 + siz sc tl s n p way more, flg sc n p (prR n (lap sc tl n p - p) more))
theorem lap_ge (sc tl : Nat) (n p : Int) : lea sc tl ≤ lap sc tl n p := by
  unfold lap
  split <;> omega
end GR
namespace GM
/-! ### sizes and their worths -/
def topS (m t : Nat) : Int := (2 ^ m - 1) * 2 ^ t
def num (t : Nat) (s : Int) : Int := if s / 2 ^ t = 0 then s % 2 ^ t else 2 ^ t + s % 2 ^ t
def ex (t : Nat) (s : Int) : Nat := (s / 2 ^ t).toNat - 1
def numE (m t : Nat) (s : Int) : Int := if s = topS m t then 1 else num t s
def exE (m t : Nat) (s : Int) : Nat := if s = topS m t then 1998 + 2 ^ (m - 1) + t else ex t s
def Vv (m t : Nat) (s : Int) : Int := numE m t s * 2 ^ exE m t s
theorem sz_parts (t : Nat) (s : Int) : s / 2 ^ t * 2 ^ t + s % 2 ^ t = s := by
  have := Int.emod_add_mul_ediv s (2 ^ t)
  rw [Int.mul_comm] at this
  omega
theorem num_nn {t : Nat} {s : Int} (h : 0 ≤ s) : 0 ≤ num t s := by
  have hp := pow_pos' t
  have := Int.emod_nonneg s (show (2 : Int) ^ t ≠ 0 by omega)
  unfold num
  split <;> omega
/-- below 2 ^ t times 2 ^ h -/
theorem num_lt {t : Nat} {s : Int} (h0 : 0 ≤ s) : num t s * 2 ^ ex t s < 2 ^ t * 2 ^ (s / 2 ^ t).toNat := by
  have hp := pow_pos' t
  have hl := Int.emod_lt_of_pos s hp
  have hd := Int.ediv_nonneg h0 (Int.le_of_lt hp)
  unfold num ex
  split
  · rename_i e
    rw [e]
    show s % 2 ^ t * 2 ^ 0 < 2 ^ t * 2 ^ 0
    rw [Int.pow_zero]
    omega
  · rename_i e
    obtain ⟨k, hk⟩ : ∃ k : Nat, (s / 2 ^ t).toNat = k + 1 := ⟨(s / 2 ^ t).toNat - 1, by omega⟩
    rw [hk, Nat.add_sub_cancel, pow_s, ← Int.mul_assoc]
    have hk2 := pow_pos' k
    have : (2 ^ t + s % 2 ^ t) * 2 ^ k < (2 ^ t * 2) * 2 ^ k := Int.mul_lt_mul_of_pos_right (by omega) hk2
    rw [show (2 : Int) ^ t * 2 ^ k * 2 = 2 ^ t * 2 * 2 ^ k by rw [Int.mul_assoc, Int.mul_assoc, Int.mul_comm (2 ^ k) 2]]
    exact this
theorem num_ge {t : Nat} {s : Int} {k : Nat} (h : (s / 2 ^ t).toNat = k + 1) : 2 ^ t * 2 ^ k ≤ num t s * 2 ^ ex t s := by
  have hp := pow_pos' t
  have := Int.emod_nonneg s (show (2 : Int) ^ t ≠ 0 by omega)
  have hk2 := pow_pos' k
  unfold num ex
  rw [if_neg (by omega), h, Nat.add_sub_cancel]
  exact Int.mul_le_mul_of_nonneg_right (by omega) (by omega)
theorem num_mono {t : Nat} {a b : Int} (h0 : 0 ≤ a) (h : a < b) : num t a * 2 ^ ex t a < num t b * 2 ^ ex t b := by
  have hp := pow_pos' t
  have ea := sz_parts t a
  have eb := sz_parts t b
  have la := Int.emod_lt_of_pos a hp
  have na := Int.emod_nonneg a (show (2 : Int) ^ t ≠ 0 by omega)
  have nb := Int.emod_nonneg b (show (2 : Int) ^ t ≠ 0 by omega)
  have lb := Int.emod_lt_of_pos b hp
  have hle : a / 2 ^ t ≤ b / 2 ^ t := Int.ediv_le_ediv hp (by omega)
  have hd := Int.ediv_nonneg h0 (Int.le_of_lt hp)
  by_cases e : a / 2 ^ t = b / 2 ^ t
  · have hl : a % 2 ^ t < b % 2 ^ t := by
      rw [e] at ea
      omega
    have hx : ex t a = ex t b := by unfold ex; rw [e]
    rw [hx]
    refine Int.mul_lt_mul_of_pos_right ?_ (pow_pos' _)
    unfold num
    rw [e]
    split <;> omega
  · obtain ⟨k, hk⟩ : ∃ k : Nat, (b / 2 ^ t).toNat = k + 1 := ⟨(b / 2 ^ t).toNat - 1, by omega⟩
    have h1 := num_lt (t := t) h0
    have h2 := num_ge hk
    have h3 : (2 : Int) ^ t * 2 ^ (a / 2 ^ t).toNat ≤ 2 ^ t * 2 ^ k := Int.mul_le_mul_of_nonneg_left (pow_le' (by omega)) (by omega)
    omega
theorem Vv_mono {m t : Nat} (hm : m ≤ 8) {a b : Int} (h0 : 0 ≤ a) (h : a < b) (hb : b ≤ topS m t) : Vv m t a < Vv m t b := by
  unfold Vv numE exE
  rw [if_neg (by omega), if_neg (by omega)]
  by_cases e : b = topS m t
  · rw [if_pos e, if_pos e, Int.one_mul]
    have h1 := num_lt (t := t) h0
    have hp := pow_pos' t
    have hq : a / 2 ^ t < 2 ^ m := by
      refine Int.ediv_lt_of_lt_mul hp ?_
      have : topS m t ≤ 2 ^ m * 2 ^ t := Int.mul_le_mul_of_nonneg_right (by omega) (by omega)
      omega
    have h8 : (2 : Int) ^ m ≤ 2 ^ 8 := pow_le' hm
    rw [← pow_add'] at h1
    have h3 : (a / 2 ^ t).toNat ≤ 256 := by omega
    have h2 : (2 : Int) ^ (t + (a / 2 ^ t).toNat) ≤ 2 ^ (1998 + 2 ^ (m - 1) + t) := pow_le' (by
      generalize 2 ^ (m - 1) = zz
      omega)
    omega
  · rw [if_neg e, if_neg e]
    exact num_mono h0 h
theorem Vv_zero (m t : Nat) (h : 0 < topS m t) : Vv m t 0 = 0 := by
  unfold Vv numE num
  rw [if_neg (by omega), Int.zero_ediv, if_pos rfl, Int.zero_emod, Int.zero_mul]
/-- how two words stand to each other, by worths and by sizes -/
theorem cmp_eq {m t : Nat} (hm : m ≤ 8) {a b : Int} (a0 : 0 ≤ a) (a1 : a ≤ topS m t) (b0 : 0 ≤ b) (b1 : b ≤ topS m t) (hT : 0 < topS m t) (g h : Bool) :
    ((if g then 0 - numE m t a else numE m t a) * 2 ^ (exE m t a - min (exE m t a) (exE m t b)) = (if h then 0 - numE m t b else numE m t b) * 2 ^ (exE m t b - min (exE m t a) (exE m t b)) ↔ (if g then -a else a) = (if h then -b else b)) ∧
    ((if g then 0 - numE m t a else numE m t a) * 2 ^ (exE m t a - min (exE m t a) (exE m t b)) < (if h then 0 - numE m t b else numE m t b) * 2 ^ (exE m t b - min (exE m t a) (exE m t b)) ↔ (if g then -a else a) < (if h then -b else b)) := by
  have pm := pow_pos' (min (exE m t a) (exE m t b))
  have ea : (if g then 0 - numE m t a else numE m t a) * 2 ^ (exE m t a - min (exE m t a) (exE m t b)) * 2 ^ min (exE m t a) (exE m t b) = (if g then -Vv m t a else Vv m t a) := by
    rw [Int.mul_assoc, ← pow_add', show exE m t a - min (exE m t a) (exE m t b) + min (exE m t a) (exE m t b) = exE m t a by omega]
    unfold Vv
    cases g
    · rfl
    · show (0 - numE m t a) * 2 ^ exE m t a = -(numE m t a * 2 ^ exE m t a)
      rw [Int.zero_sub, Int.neg_mul]
  have eb : (if h then 0 - numE m t b else numE m t b) * 2 ^ (exE m t b - min (exE m t a) (exE m t b)) * 2 ^ min (exE m t a) (exE m t b) = (if h then -Vv m t b else Vv m t b) := by
    rw [Int.mul_assoc, ← pow_add', show exE m t b - min (exE m t a) (exE m t b) + min (exE m t a) (exE m t b) = exE m t b by omega]
    unfold Vv
    cases h
    · rfl
    · show (0 - numE m t b) * 2 ^ exE m t b = -(numE m t b * 2 ^ exE m t b)
      rw [Int.zero_sub, Int.neg_mul]
  generalize (if g then 0 - numE m t a else numE m t a) * 2 ^ (exE m t a - min (exE m t a) (exE m t b)) = x at *
  generalize (if h then 0 - numE m t b else numE m t b) * 2 ^ (exE m t b - min (exE m t a) (exE m t b)) = y at *
  have exy : (x = y ↔ (if g then -Vv m t a else Vv m t a) = (if h then -Vv m t b else Vv m t b)) ∧ (x < y ↔ (if g then -Vv m t a else Vv m t a) < (if h then -Vv m t b else Vv m t b)) := by
    rw [← ea, ← eb]
    generalize (2 : Int) ^ min (exE m t a) (exE m t b) = d at *
    refine ⟨⟨fun z => by rw [z], fun z => Int.eq_of_mul_eq_mul_right (by omega) z⟩, ⟨fun z => Int.mul_lt_mul_of_pos_right z pm, fun z => Int.lt_of_mul_lt_mul_right z (by omega)⟩⟩
  rw [exy.1, exy.2]
  have z := Vv_zero m t hT
  have pa : a = 0 ∨ 0 < Vv m t a := by
    rcases Int.lt_or_eq_of_le a0 with q | q
    · have := Vv_mono hm (Int.le_refl 0) q a1
      omega
    · exact .inl q.symm
  have pb : b = 0 ∨ 0 < Vv m t b := by
    rcases Int.lt_or_eq_of_le b0 with q | q
    · have := Vv_mono hm (Int.le_refl 0) q b1
      omega
    · exact .inl q.symm
  have za : a = 0 → Vv m t a = 0 := fun q => by rw [q]; exact z
  have zb : b = 0 → Vv m t b = 0 := fun q => by rw [q]; exact z
  have lt1 : a < b → Vv m t a < Vv m t b := fun q => Vv_mono hm a0 q b1
  have lt2 : b < a → Vv m t b < Vv m t a := fun q => Vv_mono hm b0 q a1
  have eqq : a = b → Vv m t a = Vv m t b := fun q => by rw [q]
  generalize Vv m t a = u at *
  generalize Vv m t b = v at *
  have tri : a < b ∨ a = b ∨ b < a := by omega
  cases g <;> cases h <;> simp only [if_true, if_false, Bool.false_eq_true] <;>
    (rcases tri with q | q | q
     · have := lt1 q; rcases pa with w | w <;> rcases pb with w2 | w2 <;> (try have := za w) <;> (try have := zb w2) <;> constructor <;> omega
     · have := eqq q; rcases pa with w | w <;> rcases pb with w2 | w2 <;> (try have := za w) <;> (try have := zb w2) <;> constructor <;> omega
     · have := lt2 q; rcases pa with w | w <;> rcases pb with w2 | w2 <;> (try have := za w) <;> (try have := zb w2) <;> constructor <;> omega)
end GM
namespace GM
theorem div_s (x : Int) (k : Nat) : x / 2 ^ (k + 1) = x / 2 ^ k / 2 := by
  rw [pow_s, Int.ediv_ediv_of_nonneg (Int.le_of_lt (pow_pos' k))]
end GM
namespace GR
open PySem GM
/-! ### where a worth stands between two words -/
def cmpM (N Mo V : Int) (more : Bool) : Int := if N = V then (if more then 1 else 0) else if N > V then 1 else if N + (if more then 1 else 0) * Mo ≤ V then -1 else 1
theorem cmp_scale {c N Mo V : Int} {more : Bool} (h : 0 < c) : cmpM (N * c) (Mo * c) (V * c) more = cmpM N Mo V more := by
  unfold cmpM
  have e1 : N * c = V * c ↔ N = V := ⟨fun z => Int.eq_of_mul_eq_mul_right (by omega) z, fun z => by rw [z]⟩
  have e2 : N * c > V * c ↔ N > V := ⟨fun z => Int.lt_of_mul_lt_mul_right z (by omega), fun z => Int.mul_lt_mul_of_pos_right z h⟩
  have e3 : N * c + (if more then 1 else 0) * (Mo * c) ≤ V * c ↔ N + (if more then 1 else 0) * Mo ≤ V := by
    rw [← Int.mul_assoc, ← Int.add_mul]
    exact ⟨fun z => Int.le_of_mul_le_mul_right z h, fun z => Int.mul_le_mul_of_nonneg_right z (by omega)⟩
  by_cases c1 : N = V
  · rw [if_pos c1, if_pos (e1.mpr c1)]
  · rw [if_neg c1, if_neg (fun z => c1 (e1.mp z))]
    by_cases c2 : N > V
    · rw [if_pos c2, if_pos (e2.mpr c2)]
    · rw [if_neg c2, if_neg (fun z => c2 (e2.mp z))]
      by_cases c3 : N + (if more then 1 else 0) * Mo ≤ V
      · rw [if_pos c3, if_pos (e3.mpr c3)]
      · rw [if_neg c3, if_neg (fun z => c3 (e3.mp z))]
theorem cmp_ge {N Mo V : Int} {more : Bool} (h : V ≤ N) : 0 ≤ cmpM N Mo V more := by
  unfold cmpM
  split
  · split <;> decide
  · rw [if_pos (by omega)]
    decide
theorem cmp_lt {N Mo V : Int} {more : Bool} (h : N < V) (hm : more = true → N + Mo ≤ V) : cmpM N Mo V more = -1 := by
  unfold cmpM
  rw [if_neg (by omega), if_neg (by omega), if_pos ?_]
  cases more with
  | true =>
    have := hm rfl
    rw [if_pos rfl]
    omega
  | false =>
    rw [if_neg (by decide)]
    omega
/-! ### cutting off, on one scale -/
theorem cut_scale {n : Int} {a D : Nat} {b : Int} (hb : (D : Int) = a + b) : cutQ n b = n * 2 ^ a / 2 ^ D ∧ cutR n b = !decide (n * 2 ^ a % 2 ^ D = 0) := by
  have hD := pow_pos' D
  have ha := pow_pos' a
  unfold cutQ cutR
  by_cases c : b < 0
  · rw [if_pos c, if_pos c]
    have e : (2 : Int) ^ a = 2 ^ (-b).toNat * 2 ^ D := by rw [← pow_add']; congr 1; omega
    rw [e, ← Int.mul_assoc]
    refine ⟨(Int.mul_ediv_cancel _ (by omega)).symm, ?_⟩
    rw [Int.mul_emod_left, decide_eq_true rfl]
    rfl
  · rw [if_neg c, if_neg c]
    have e : (2 : Int) ^ D = 2 ^ b.toNat * 2 ^ a := by rw [← pow_add']; congr 1; omega
    have hp := pow_pos' b.toNat
    rw [e, Int.mul_ediv_mul_of_pos_left _ _ ha]
    refine ⟨rfl, ?_⟩
    rw [show n * 2 ^ a % (2 ^ b.toNat * 2 ^ a) = n % 2 ^ b.toNat * 2 ^ a by rw [Int.mul_comm n, Int.mul_comm (2 ^ b.toNat), Int.mul_emod_mul_of_pos _ _ ha, Int.mul_comm]]
    have e2 := Int.emod_add_mul_ediv n (2 ^ b.toNat)
    rw [Int.mul_comm] at e2
    by_cases d : n % 2 ^ b.toNat = 0
    · rw [d, Int.zero_mul, decide_eq_true rfl, decide_eq_true (by omega)]
    · have d2 : ¬ n % 2 ^ b.toNat * 2 ^ a = 0 := fun z => by
        rcases Int.mul_eq_zero.mp z with y | y
        · exact d y
        · omega
      rw [decide_eq_false d2, decide_eq_false (by omega)]
/-! ### the worth of a size -/
def W (t : Nat) (u : Int) : Int := num t u * 2 ^ ex t u
theorem W_at {t : Nat} {d : Nat} {m : Int} (h0 : 0 ≤ m) (h1 : m ≤ 2 ^ t * 2) (h2 : d = 0 ∨ 2 ^ t ≤ m) : W t (d * 2 ^ t + m) = m * 2 ^ d := by
  have hp := pow_pos' t
  unfold W
  by_cases c : m < 2 ^ t
  · have hd : d = 0 := by omega
    subst hd
    have e : ((0 : Nat) : Int) * 2 ^ t + m = m := by omega
    rw [e]
    unfold num ex
    rw [Int.ediv_eq_zero_of_lt h0 c, if_pos rfl, Int.emod_eq_of_lt h0 c]
    rfl
  · by_cases c2 : m < 2 ^ t * 2
    · have ed : ((d : Int) * 2 ^ t + m) / 2 ^ t = (d : Int) + 1 := by
        rw [show (d : Int) * 2 ^ t + m = (m - 2 ^ t) + ((d : Int) + 1) * 2 ^ t by rw [Int.add_mul]; omega, Int.add_mul_ediv_right _ _ (by omega), Int.ediv_eq_zero_of_lt (by omega) (by omega)]
        omega
      have em : ((d : Int) * 2 ^ t + m) % 2 ^ t = m - 2 ^ t := by
        rw [show (d : Int) * 2 ^ t + m = (m - 2 ^ t) + ((d : Int) + 1) * 2 ^ t by rw [Int.add_mul]; omega, Int.add_mul_emod_self_right, Int.emod_eq_of_lt (by omega) (by omega)]
      unfold num ex
      rw [ed, em, if_neg (by omega), show ((d : Int) + 1).toNat - 1 = d by omega, show 2 ^ t + (m - 2 ^ t) = m by omega]
    · have hm : m = 2 ^ t * 2 := by omega
      have ed : ((d : Int) * 2 ^ t + m) / 2 ^ t = (d : Int) + 2 := by
        rw [show (d : Int) * 2 ^ t + m = 0 + ((d : Int) + 2) * 2 ^ t by rw [Int.add_mul]; omega, Int.add_mul_ediv_right _ _ (by omega), Int.zero_ediv]
        omega
      have em : ((d : Int) * 2 ^ t + m) % 2 ^ t = 0 := by
        rw [show (d : Int) * 2 ^ t + m = 0 + ((d : Int) + 2) * 2 ^ t by rw [Int.add_mul]; omega, Int.add_mul_emod_self_right, Int.zero_emod]
      unfold num ex
      rw [ed, em, if_neg (by omega), show ((d : Int) + 2).toNat - 1 = d + 1 by omega, hm, pow_s, Int.add_zero, Int.mul_assoc, Int.mul_comm 2 (2 ^ d)]
theorem W_mono {t : Nat} {a b : Int} (h0 : 0 ≤ a) (h : a < b) : W t a < W t b := num_mono h0 h
theorem W_le {t : Nat} {a b : Int} (h0 : 0 ≤ a) (h : a ≤ b) : W t a ≤ W t b := by
  rcases Int.lt_or_eq_of_le h with c | c
  · exact Int.le_of_lt (W_mono h0 c)
  · rw [c]
    exact Int.le_refl _
theorem bl_in {n : Int} (h : 0 < n) : ∃ k : Nat, bl n = (k : Int) + 1 ∧ 2 ^ k ≤ n ∧ n < 2 ^ (k + 1) := by
  obtain ⟨e, h1, h2⟩ := bits_ex (x := n.toNat) (by omega)
  have hb := bits_unique h1 h2
  have c1 : ((2 ^ e : Nat) : Int) = (2 : Int) ^ e := PySem.W.kbt_cast _
  have c2 : ((2 ^ (e + 1) : Nat) : Int) = (2 : Int) ^ (e + 1) := PySem.W.kbt_cast _
  rw [show ((n.toNat : Nat) : Int) = n by omega] at hb
  refine ⟨e, ?_, by omega, by omega⟩
  unfold bl
  rw [hb]
  omega
/-- what the search meets, and what the rounding reckons -/
structure Fl (sc tl : Nat) (n p : Int) (more : Bool) (N Mo bq low0 : Int) : Prop where
  lo0 : 0 ≤ low0
  le : ∀ u, 0 ≤ u → u ≤ low0 → 0 ≤ cmpM N Mo (W tl u * bq) more
  gt : ∀ u, low0 < u → cmpM N Mo (W tl u * bq) more = -1
  just : cmpM N Mo (W tl low0 * bq) more = 0 ↔ prR n (lap sc tl n p - p) more = 0
  half : cmpM (N * 2) (Mo * 2) (W tl low0 * bq + W tl (low0 + 1) * bq) more = (if prR n (lap sc tl n p - p) more = 3 then 1 else if prR n (lap sc tl n p - p) more = 2 then 0 else -1)
  rest : 0 ≤ prR n (lap sc tl n p - p) more ∧ prR n (lap sc tl n p - p) more ≤ 3
  odd : low0 % 2 = prQ n (lap sc tl n p - p) % 2
  und : cmpM N Mo (W tl (2 ^ tl) * bq) more < 0 ↔ bl n + p ≤ 1 - (2 ^ (sc - 1) - 1)
theorem floor_facts {sc tl : Nat} {n p : Int} {more : Bool} (htl : 1 ≤ tl) (hn : 0 < n) (hm : more = true → p < lap sc tl n p) {a b : Nat} {B : Int} (ha : p - B = a) (hb : lea sc tl - B = (b : Int) + 1) :
    Fl sc tl n p more (n * 2 ^ a) (2 ^ a) (2 ^ (b + 1)) ((lap sc tl n p - lea sc tl) * 2 ^ tl + prQ n (lap sc tl n p - p)) := by
  obtain ⟨k, hk, hk1, hk2⟩ := bl_in hn
  have hge := lap_ge sc tl n p
  obtain ⟨d, hd⟩ : ∃ d : Nat, lap sc tl n p - lea sc tl = (d : Int) := ⟨(lap sc tl n p - lea sc tl).toNat, by omega⟩
  have hcase : (d = 0 ∧ bl n + p - 1 - tl ≤ lap sc tl n p) ∨ lap sc tl n p = bl n + p - 1 - tl := by
    unfold lap at hd ⊢
    split
    · rename_i c
      rw [if_pos c] at hd
      exact .inl ⟨by omega, by omega⟩
    · exact .inr rfl
  have hle : bl n + p - 1 - tl ≤ lap sc tl n p := by omega
  -- the scale
  obtain ⟨hQ, hR⟩ := cut_scale (n := n) (a := a) (D := d + b) (b := lap sc tl n p - p - 1) (by omega)
  have pD := pow_pos' (d + b)
  have pa := pow_pos' a
  have pt := pow_pos' tl
  have pD1 : (2 : Int) ^ (d + b + 1) = 2 ^ (d + b) * 2 := pow_s _
  have eq : prQ n (lap sc tl n p - p) = n * 2 ^ a / 2 ^ (d + b + 1) := by
    show cutQ n (lap sc tl n p - p - 1) / 2 ^ 1 = _
    rw [hQ, GM.div_div]
  have er : prR n (lap sc tl n p - p) more = 2 * (n * 2 ^ a / 2 ^ (d + b) % 2) + (if (!decide (n * 2 ^ a % 2 ^ (d + b) = 0)) || more then 1 else 0) := by
    show 2 * (cutQ n (lap sc tl n p - p - 1) % 2 ^ 1) + (if cutR n (lap sc tl n p - p - 1) || more then 1 else 0) = _
    rw [hQ, hR]
    rfl
  have hN0 : 0 < n * 2 ^ a := Int.mul_pos hn pa
  have moreD : more = true → ∃ f : Nat, (2 : Int) ^ (d + b) = 2 ^ f * 2 ^ a := fun z => by
    have := hm z
    refine ⟨d + b - a, ?_⟩
    rw [← pow_add']
    congr 1
    omega
  -- sizes of the number
  have hNlt : n * 2 ^ a < 2 ^ (k + 1 + a) := by
    rw [pow_add']
    exact Int.mul_lt_mul_of_pos_right hk2 pa
  have hNge : 2 ^ (k + a) ≤ n * 2 ^ a := by
    rw [pow_add']
    exact Int.mul_le_mul_of_nonneg_right hk1 (by omega)
  have hkd : k + 1 + a ≤ tl + 1 + (d + b + 1) := by omega
  have hm1 : n * 2 ^ a / 2 ^ (d + b + 1) < 2 ^ tl * 2 := by
    refine Int.ediv_lt_of_lt_mul (by omega) ?_
    rw [← pow_s, ← pow_add']
    exact Int.lt_of_lt_of_le hNlt (pow_le' hkd)
  have hm0 : 0 ≤ n * 2 ^ a / 2 ^ (d + b + 1) := Int.ediv_nonneg (by omega) (by omega)
  have hm2 : d = 0 ∨ 2 ^ tl ≤ n * 2 ^ a / 2 ^ (d + b + 1) := by
    rcases hcase with h | h
    · exact .inl h.1
    · right
      refine (Int.le_ediv_iff_mul_le (by omega)).mpr ?_
      rw [← pow_add']
      exact Int.le_trans (pow_le' (by omega)) hNge
  rw [eq, hd]
  have eN := Int.emod_add_mul_ediv (n * 2 ^ a) (2 ^ (d + b + 1))
  have r0 := Int.emod_nonneg (n * 2 ^ a) (show (2 : Int) ^ (d + b + 1) ≠ 0 by omega)
  have r1 := Int.emod_lt_of_pos (n * 2 ^ a) (show (0 : Int) < 2 ^ (d + b + 1) by omega)
  have fN := Int.emod_add_mul_ediv (n * 2 ^ a) (2 ^ (d + b))
  have s0 := Int.emod_nonneg (n * 2 ^ a) (show (2 : Int) ^ (d + b) ≠ 0 by omega)
  have s1 := Int.emod_lt_of_pos (n * 2 ^ a) pD
  have hh : n * 2 ^ a / 2 ^ (d + b + 1) = n * 2 ^ a / 2 ^ (d + b) / 2 := GM.div_s _ _
  have pt2 : (2 : Int) ^ tl = 2 ^ (tl - 1) * 2 := by rw [← pow_s]; congr 1; omega
  have bb : (2 : Int) ^ d * 2 ^ (b + 1) = 2 ^ (d + b) * 2 := by rw [← pow_add', show d + (b + 1) = d + b + 1 by omega, pow_s]
  have v0 : W tl ((d : Int) * 2 ^ tl + n * 2 ^ a / 2 ^ (d + b + 1)) * 2 ^ (b + 1) = n * 2 ^ a / 2 ^ (d + b + 1) * (2 ^ (d + b) * 2) := by
    rw [W_at hm0 (by omega) hm2, Int.mul_assoc, bb]
  have v1 : W tl ((d : Int) * 2 ^ tl + n * 2 ^ a / 2 ^ (d + b + 1) + 1) * 2 ^ (b + 1) = (n * 2 ^ a / 2 ^ (d + b + 1) + 1) * (2 ^ (d + b) * 2) := by
    rw [show (d : Int) * 2 ^ tl + n * 2 ^ a / 2 ^ (d + b + 1) + 1 = (d : Int) * 2 ^ tl + (n * 2 ^ a / 2 ^ (d + b + 1) + 1) by omega, W_at (by omega) (by omega) (by omega), Int.mul_assoc, bb]
  have lo0 : 0 ≤ (d : Int) * 2 ^ tl + n * 2 ^ a / 2 ^ (d + b + 1) := by
    have := Int.mul_nonneg (show (0 : Int) ≤ (d : Int) by omega) (Int.le_of_lt pt)
    omega
  have pb := pow_pos' (b + 1)
  rw [pD1] at eN r0 r1
  have vt : W tl (2 ^ tl) * 2 ^ (b + 1) = 2 ^ (tl + (b + 1)) := by
    have := W_at (t := tl) (d := 0) (m := 2 ^ tl) (by omega) (by omega) (.inl rfl)
    rw [show ((0 : Nat) : Int) * 2 ^ tl + 2 ^ tl = 2 ^ tl by omega, Int.pow_zero, Int.mul_one] at this
    rw [this, ← pow_add']
  have ho : ((d : Int) * 2 ^ tl + n * 2 ^ a / 2 ^ (d + b + 1)) % 2 = n * 2 ^ a / 2 ^ (d + b + 1) % 2 := by
    rw [pt2, ← Int.mul_assoc]
    generalize (d : Int) * 2 ^ (tl - 1) = z
    omega
  have lea1 : 1 - ((2 : Int) ^ (sc - 1) - 1) = lea sc tl + tl := by
    unfold lea
    omega
  -- multiples of what more stands for
  have stepM : more = true → ∀ X : Int, n * 2 ^ a < X * 2 ^ (d + b) → n * 2 ^ a + 2 ^ a ≤ X * 2 ^ (d + b) := fun z X hX => by
    obtain ⟨f, hf⟩ := moreD z
    rw [hf, ← Int.mul_assoc] at hX ⊢
    have h1 : n < X * 2 ^ f := Int.lt_of_mul_lt_mul_right hX (by omega)
    have h2 : (n + 1) * 2 ^ a ≤ X * 2 ^ f * 2 ^ a := Int.mul_le_mul_of_nonneg_right (by omega) (by omega)
    rw [Int.add_mul, Int.one_mul] at h2
    exact h2
  have X1 : more = true → n * 2 ^ a < 2 * (2 ^ (d + b) * (n * 2 ^ a / 2 ^ (d + b + 1))) + 2 ^ (d + b) → n * 2 ^ a + 2 ^ a ≤ 2 * (2 ^ (d + b) * (n * 2 ^ a / 2 ^ (d + b + 1))) + 2 ^ (d + b) := fun z => by
    have := stepM z (2 * (n * 2 ^ a / 2 ^ (d + b + 1)) + 1)
    rw [show (2 * (n * 2 ^ a / 2 ^ (d + b + 1)) + 1) * 2 ^ (d + b) = 2 * (2 ^ (d + b) * (n * 2 ^ a / 2 ^ (d + b + 1))) + 2 ^ (d + b) by rw [Int.add_mul, Int.one_mul, Int.mul_assoc, Int.mul_comm (2 ^ (d + b))]] at this
    exact this
  have X2 : more = true → n * 2 ^ a < 2 * (2 ^ (d + b) * (n * 2 ^ a / 2 ^ (d + b + 1))) + 2 * 2 ^ (d + b) → n * 2 ^ a + 2 ^ a ≤ 2 * (2 ^ (d + b) * (n * 2 ^ a / 2 ^ (d + b + 1))) + 2 * 2 ^ (d + b) := fun z => by
    have := stepM z (2 * (n * 2 ^ a / 2 ^ (d + b + 1)) + 2)
    rw [show (2 * (n * 2 ^ a / 2 ^ (d + b + 1)) + 2) * 2 ^ (d + b) = 2 * (2 ^ (d + b) * (n * 2 ^ a / 2 ^ (d + b + 1))) + 2 * 2 ^ (d + b) by rw [Int.add_mul, Int.mul_assoc, Int.mul_comm (2 ^ (d + b))]] at this
    exact this
  rw [show n * 2 ^ a / 2 ^ (d + b + 1) * (2 ^ (d + b) * 2) = 2 * (2 ^ (d + b) * (n * 2 ^ a / 2 ^ (d + b + 1))) by rw [← Int.mul_assoc, Int.mul_comm _ (2 ^ (d + b)), Int.mul_comm]] at v0
  rw [show (n * 2 ^ a / 2 ^ (d + b + 1) + 1) * (2 ^ (d + b) * 2) = 2 * (2 ^ (d + b) * (n * 2 ^ a / 2 ^ (d + b + 1))) + 2 * 2 ^ (d + b) by rw [Int.add_mul, ← Int.mul_assoc, Int.mul_comm _ (2 ^ (d + b)), Int.mul_comm _ 2]; omega] at v1
  have hb2 : n * 2 ^ a / 2 ^ (d + b) % 2 = 0 ∨ n * 2 ^ a / 2 ^ (d + b) % 2 = 1 := by omega
  have hNN : n * 2 ^ a = n * 2 ^ a % 2 ^ (d + b) + 2 * (2 ^ (d + b) * (n * 2 ^ a / 2 ^ (d + b + 1))) + n * 2 ^ a / 2 ^ (d + b) % 2 * 2 ^ (d + b) := by
    have e1 : n * 2 ^ a / 2 ^ (d + b) = 2 * (n * 2 ^ a / 2 ^ (d + b + 1)) + n * 2 ^ a / 2 ^ (d + b) % 2 := by omega
    have e2 : 2 ^ (d + b) * (n * 2 ^ a / 2 ^ (d + b)) = 2 * (2 ^ (d + b) * (n * 2 ^ a / 2 ^ (d + b + 1))) + n * 2 ^ a / 2 ^ (d + b) % 2 * 2 ^ (d + b) := by
      conv => lhs; rw [e1]
      rw [Int.mul_add, ← Int.mul_assoc, Int.mul_comm _ 2, Int.mul_assoc, Int.mul_comm (2 ^ (d + b)) (n * 2 ^ a / 2 ^ (d + b) % 2)]
    omega
  have hund : (n * 2 ^ a < 2 ^ (tl + (b + 1))) ↔ bl n + p ≤ 1 - (2 ^ (sc - 1) - 1) := by
    constructor
    · intro h
      have : (2 : Int) ^ (k + a) < 2 ^ (tl + (b + 1)) := by omega
      have : k + a < tl + (b + 1) := by
        rcases Nat.lt_or_ge (k + a) (tl + (b + 1)) with c | c
        · exact c
        · have := pow_le' c
          omega
      omega
    · intro h
      have : (2 : Int) ^ (k + 1 + a) ≤ 2 ^ (tl + (b + 1)) := pow_le' (by omega)
      omega
  clear eN r0 r1 fN hh stepM moreD hNlt hNge hkd hm1 hm2 hQ hR hk hk1 hk2 pt2 bb hcase
  have wle : ∀ u v : Int, 0 ≤ u → u ≤ v → W tl u * 2 ^ (b + 1) ≤ W tl v * 2 ^ (b + 1) := fun u v h1 h2 => Int.mul_le_mul_of_nonneg_right (W_le h1 h2) (by omega)
  generalize 2 ^ (d + b) * (n * 2 ^ a / 2 ^ (d + b + 1)) = z at *
  generalize n * 2 ^ a / 2 ^ (d + b) % 2 = hb' at *
  generalize n * 2 ^ a % 2 ^ (d + b) = rem at *
  generalize (d : Int) * 2 ^ tl + n * 2 ^ a / 2 ^ (d + b + 1) = lo at *
  generalize (2 : Int) ^ (d + b) = q at *
  generalize (2 : Int) ^ (b + 1) = bq at *
  generalize n * 2 ^ a = N at *
  generalize (2 : Int) ^ a = Mo at *
  have hgt : ∀ u, lo < u → cmpM N Mo (W tl u * bq) more = -1 := fun u hu => by
    have h1 := wle (lo + 1) u (by omega) (by omega)
    rw [v1] at h1
    have h2 : N < 2 * z + 2 * q := by rcases hb2 with c | c <;> rw [c] at hNN <;> omega
    exact cmp_lt (by omega) fun c => by
      have := X2 c h2
      omega
  refine ⟨lo0, fun u u0 u1 => cmp_ge ?_, hgt, ?_, ?_, ?_, by rw [eq]; exact ho, ?_⟩
  · have h1 := wle u lo u0 u1
    rw [v0] at h1
    rcases hb2 with c | c <;> rw [c] at hNN <;> omega
  · rw [v0, er]
    unfold cmpM
    rcases hb2 with c | c <;> rw [c] at hNN ⊢
    · by_cases c2 : rem = 0
      · rw [if_pos (by omega), c2]
        cases more <;> decide
      · rw [if_neg (by omega), if_pos (by omega), decide_eq_false c2]
        constructor
        · intro h; omega
        · intro h
          revert h
          cases more <;> decide
    · rw [if_neg (by omega), if_pos (by omega)]
      constructor
      · intro h; omega
      · intro h
        split at h <;> omega
  · rw [v0, v1, er]
    rcases hb2 with c | c <;> rw [c] at hNN ⊢
    · have h1 : cmpM (N * 2) (Mo * 2) (2 * z + (2 * z + 2 * q)) more = -1 := cmp_lt (by omega) fun c => by
        have := X1 c (by omega)
        omega
      rw [h1]
      split <;> rfl
    · unfold cmpM
      by_cases c2 : rem = 0
      · rw [if_pos (by omega), c2]
        cases more <;> decide
      · rw [if_neg (by omega), if_pos (by omega), decide_eq_false c2]
        rfl
  · rw [er]
    rcases hb2 with c | c <;> rw [c]
    · split <;> omega
    · split <;> omega
  · rw [vt, ← hund]
    constructor
    · intro h
      rcases Int.lt_or_le N (2 ^ (tl + (b + 1))) with c | c
      · exact c
      · have := cmp_ge (N := N) (Mo := Mo) (more := more) c
        omega
    · intro h
      have h1 : lo < 2 ^ tl := by
        rcases Int.lt_or_le lo (2 ^ tl) with c | c
        · exact c
        · have := wle (2 ^ tl) lo (by omega) c
          rw [vt, v0] at this
          rcases hb2 with c | c <;> rw [c] at hNN <;> omega
      have := hgt _ h1
      rw [vt] at this
      rw [this]
      decide
end GR
namespace GR
open PySem GM
/-! ### what is cut off, and kept as a bit more -/
theorem bl_div {n : Int} {j : Nat} (h : 0 < n / 2 ^ j) : bl (n / 2 ^ j) + j = bl n := by
  have pj := pow_pos' j
  have hm0 := Int.emod_nonneg n (show (2 : Int) ^ j ≠ 0 by omega)
  have hm1 := Int.emod_lt_of_pos n pj
  have dm := Int.emod_add_mul_ediv n (2 ^ j)
  have hpos : 0 < n := by
    have := Int.mul_pos pj h
    omega
  obtain ⟨k, hk, hk1, hk2⟩ := bl_in hpos
  obtain ⟨m, hm, g1, g2⟩ := bl_in h
  have l1 : (2 : Int) ^ (m + j) ≤ n := by
    rw [pow_add' m j]
    have := Int.mul_le_mul_of_nonneg_right g1 (Int.le_of_lt pj)
    rw [Int.mul_comm (n / 2 ^ j)] at this
    omega
  have l2 : n < (2 : Int) ^ (m + 1 + j) := by
    rw [pow_add' (m + 1) j]
    have := Int.mul_le_mul_of_nonneg_right (show n / 2 ^ j + 1 ≤ 2 ^ (m + 1) by omega) (Int.le_of_lt pj)
    rw [Int.add_mul, Int.one_mul, Int.mul_comm (n / 2 ^ j)] at this
    omega
  have e : k = m + j := by
    rcases Nat.lt_trichotomy k (m + j) with c | c | c
    · have := pow_le' (show k + 1 ≤ m + j by omega)
      omega
    · exact c
    · have := pow_le' (show m + 1 + j ≤ k by omega)
      omega
  omega
theorem mod_two {n : Int} {j c : Nat} : n % 2 ^ (c + j) = 0 ↔ (n % 2 ^ j = 0 ∧ n / 2 ^ j % 2 ^ c = 0) := by
  have pj := pow_pos' j
  have pc := pow_pos' c
  have r0 := Int.emod_nonneg n (show (2 : Int) ^ j ≠ 0 by omega)
  have r1 := Int.emod_lt_of_pos n pj
  have R0 := Int.emod_nonneg (n / 2 ^ j) (show (2 : Int) ^ c ≠ 0 by omega)
  have R1 := Int.emod_lt_of_pos (n / 2 ^ j) pc
  have d1 := Int.emod_add_mul_ediv n (2 ^ j)
  have d2 := Int.emod_add_mul_ediv (n / 2 ^ j) (2 ^ c)
  have pcj : (2 : Int) ^ (c + j) = 2 ^ c * 2 ^ j := pow_add' c j
  generalize n % 2 ^ j = r at *
  generalize n / 2 ^ j % 2 ^ c = R at *
  generalize n / 2 ^ j / 2 ^ c = Q at *
  generalize n / 2 ^ j = q at *
  have hlt : 2 ^ j * R + r < 2 ^ (c + j) := by
    have := Int.mul_le_mul_of_nonneg_right (show R + 1 ≤ 2 ^ c by omega) (Int.le_of_lt pj)
    rw [Int.add_mul, Int.one_mul, ← pcj, Int.mul_comm R] at this
    omega
  have hnn : 0 ≤ 2 ^ j * R := Int.mul_nonneg (Int.le_of_lt pj) R0
  have en : n = (2 ^ j * R + r) + Q * 2 ^ (c + j) := by
    rw [← d1, ← d2, pcj, Int.mul_add, ← Int.mul_assoc, Int.mul_comm (2 ^ j) (2 ^ c), Int.mul_comm (2 ^ c * 2 ^ j) Q]
    omega
  rw [en, Int.add_mul_emod_self_right, Int.emod_eq_of_lt (by omega) hlt]
  constructor
  · intro h
    have hz : 2 ^ j * R = 0 := by omega
    exact ⟨by omega, (Int.mul_eq_zero.mp hz).resolve_left (by omega)⟩
  · intro h
    rw [h.2, h.1]
    omega
theorem rnd_cut {sc tl : Nat} {s n p : Int} {w : Str} {more : Bool} (j : Nat) (h0 : 0 < n / 2 ^ j) (hp : p + j < lap sc tl (n / 2 ^ j) (p + j)) :
    rnd sc tl s n p w more = rnd sc tl s (n / 2 ^ j) (p + j) w (!decide (n % 2 ^ j = 0) || more) := by
  have pj := pow_pos' j
  have hb := bl_div h0
  have hb' : bl (n / 2 ^ j) + (p + j) = bl n + p := by omega
  have hl : lap sc tl (n / 2 ^ j) (p + j) = lap sc tl n p := by
    unfold lap
    rw [hb']
  rw [hl] at hp
  have hn : n ≠ 0 := fun z => by
    rw [z, Int.zero_ediv] at h0
    omega
  obtain ⟨c, hc⟩ : ∃ c : Nat, lap sc tl n p - (p + j) - 1 = (c : Int) := ⟨(lap sc tl n p - (p + j) - 1).toNat, by omega⟩
  obtain ⟨q1, r1⟩ := cut_scale (n := n / 2 ^ j) (a := 0) (D := c) (b := lap sc tl n p - (p + j) - 1) (by omega)
  obtain ⟨q2, r2⟩ := cut_scale (n := n) (a := 0) (D := c + j) (b := lap sc tl n p - p - 1) (by omega)
  rw [show (2 : Int) ^ 0 = 1 from rfl, Int.mul_one] at q1 r1 q2 r2
  have eQ : cutQ n (lap sc tl n p - p - 1) = cutQ (n / 2 ^ j) (lap sc tl n p - (p + j) - 1) := by
    rw [q1, q2, pow_add' c j, Int.mul_comm, Int.ediv_ediv_of_nonneg (Int.le_of_lt pj)]
  have eR : (cutR n (lap sc tl n p - p - 1) || more) = (cutR (n / 2 ^ j) (lap sc tl n p - (p + j) - 1) || (!decide (n % 2 ^ j = 0) || more)) := by
    rw [r1, r2, ← Bool.or_assoc]
    congr 1
    rw [Bool.eq_iff_iff, Bool.or_eq_true, Bool.not_eq_true', Bool.not_eq_true', Bool.not_eq_true', decide_eq_false_iff_not, decide_eq_false_iff_not, decide_eq_false_iff_not, mod_two]
    constructor
    · intro h
      by_cases z : n % 2 ^ j = 0
      · exact .inl (fun y => h ⟨z, y⟩)
      · exact .inr z
    · intro h y
      exact h.elim (fun z => z y.2) (fun z => z y.1)
  have ePQ : prQ n (lap sc tl n p - p) = prQ (n / 2 ^ j) (lap sc tl n p - (p + j)) := by
    unfold prQ
    rw [eQ]
  have ePR : prR n (lap sc tl n p - p) more = prR (n / 2 ^ j) (lap sc tl n p - (p + j)) (!decide (n % 2 ^ j = 0) || more) := by
    unfold prR
    rw [eQ, eR]
  unfold rnd siz mny flg
  rw [if_neg hn, if_neg (show ¬ n / 2 ^ j = 0 by omega), hl, hb', ePQ, ePR]
end GR
namespace GR
open PySem GM
/-! ### the same worth told by a lesser power; a word's own worth -/
theorem bl_mul {n : Int} {k : Nat} (h : 0 < n) : bl (n * 2 ^ k) = bl n + k := by
  have pk := pow_pos' k
  have e : n * 2 ^ k / 2 ^ k = n := Int.mul_ediv_cancel _ (by omega)
  have := bl_div (n := n * 2 ^ k) (j := k) (by rw [e]; exact h)
  rw [e] at this
  omega
theorem rnd_scale {sc tl : Nat} {s n p : Int} {w : Str} {m : Bool} (k : Nat) (hn : 0 < n) : rnd sc tl s (n * 2 ^ k) (p - k) w m = rnd sc tl s n p w m := by
  have pk := pow_pos' k
  have hb : bl (n * 2 ^ k) + (p - k) = bl n + p := by
    rw [bl_mul hn]
    omega
  have hl : lap sc tl (n * 2 ^ k) (p - k) = lap sc tl n p := by
    unfold lap
    rw [hb]
  have hz : 0 < n * 2 ^ k := Int.mul_pos hn pk
  obtain ⟨D, hD⟩ : ∃ D : Nat, (D : Int) = (k : Int) + ((p - lap sc tl n p + 1).toNat : Nat) + (lap sc tl n p - p - 1) := ⟨((k : Int) + ((p - lap sc tl n p + 1).toNat : Nat) + (lap sc tl n p - p - 1)).toNat, by omega⟩
  obtain ⟨q1, r1⟩ := cut_scale (n := n) (a := k + (p - lap sc tl n p + 1).toNat) (D := D) (b := lap sc tl n p - p - 1) (by omega)
  obtain ⟨q2, r2⟩ := cut_scale (n := n * 2 ^ k) (a := (p - lap sc tl n p + 1).toNat) (D := D) (b := lap sc tl n p - (p - k) - 1) (by omega)
  have e : n * 2 ^ k * 2 ^ (p - lap sc tl n p + 1).toNat = n * 2 ^ (k + (p - lap sc tl n p + 1).toNat) := by rw [pow_add', Int.mul_assoc]
  rw [e] at q2 r2
  have eQ : cutQ (n * 2 ^ k) (lap sc tl n p - (p - k) - 1) = cutQ n (lap sc tl n p - p - 1) := by rw [q1, q2]
  have eR : cutR (n * 2 ^ k) (lap sc tl n p - (p - k) - 1) = cutR n (lap sc tl n p - p - 1) := by rw [r1, r2]
  have ePQ : prQ (n * 2 ^ k) (lap sc tl n p - (p - k)) = prQ n (lap sc tl n p - p) := by
    unfold prQ
    rw [eQ]
  have ePR : prR (n * 2 ^ k) (lap sc tl n p - (p - k)) m = prR n (lap sc tl n p - p) m := by
    unfold prR
    rw [eQ, eR]
  unfold rnd siz mny flg
  rw [if_neg (show ¬ n * 2 ^ k = 0 by omega), if_neg (show ¬ n = 0 by omega), hl, hb, ePQ, ePR]
theorem rnd_word {sc tl : Nat} {s u : Int} {w : Str} (htl : 1 ≤ tl) (h0 : 0 < u) (h1 : u < (2 ^ sc - 1) * 2 ^ tl) : rnd sc tl s (num tl u) (lea sc tl + (ex tl u : Nat)) w false = (s * 2 ^ (sc + tl) + u, []) := by
  have pt := pow_pos' tl
  have hn : 0 < num tl u := by
    have n := Int.emod_nonneg u (show (2 : Int) ^ tl ≠ 0 by omega)
    have d := Int.emod_add_mul_ediv u (2 ^ tl)
    unfold num
    by_cases c : u / 2 ^ tl = 0
    · rw [if_pos c]
      rw [c, Int.mul_zero, Int.add_zero] at d
      omega
    · rw [if_neg c]
      omega
  have F := floor_facts (sc := sc) (tl := tl) (n := num tl u) (p := lea sc tl + (ex tl u : Nat)) (more := false) htl hn (fun z => nomatch z) (a := ex tl u + 1) (b := 0) (B := lea sc tl - 1) (by omega) (by omega)
  have eN : num tl u * 2 ^ (ex tl u + 1) = W tl u * 2 ^ (0 + 1) := by
    unfold W
    rw [pow_s, ← Int.mul_assoc]
    rfl
  have c0 : cmpM (num tl u * 2 ^ (ex tl u + 1)) (2 ^ (ex tl u + 1)) (W tl u * 2 ^ (0 + 1)) false = 0 := by
    unfold cmpM
    rw [if_pos eN]
    rfl
  have key : (lap sc tl (num tl u) (lea sc tl + (ex tl u : Nat)) - lea sc tl) * 2 ^ tl + prQ (num tl u) (lap sc tl (num tl u) (lea sc tl + (ex tl u : Nat)) - (lea sc tl + (ex tl u : Nat))) = u := by
    have L0 := F.lo0
    rcases Int.lt_trichotomy ((lap sc tl (num tl u) (lea sc tl + (ex tl u : Nat)) - lea sc tl) * 2 ^ tl + prQ (num tl u) (lap sc tl (num tl u) (lea sc tl + (ex tl u : Nat)) - (lea sc tl + (ex tl u : Nat)))) u with c | c | c
    · have := F.gt u c
      rw [c0] at this
      cases this
    · exact c
    · have g := F.le _ L0 (Int.le_refl _)
      have hm := W_mono (t := tl) (Int.le_of_lt h0) c
      have := cmp_lt (N := num tl u * 2 ^ (ex tl u + 1)) (Mo := 2 ^ (ex tl u + 1)) (V := W tl ((lap sc tl (num tl u) (lea sc tl + (ex tl u : Nat)) - lea sc tl) * 2 ^ tl + prQ (num tl u) (lap sc tl (num tl u) (lea sc tl + (ex tl u : Nat)) - (lea sc tl + (ex tl u : Nat)))) * 2 ^ (0 + 1)) (more := false) (by rw [eN]; exact Int.mul_lt_mul_of_pos_right hm (pow_pos' _)) (fun z => nomatch z)
      rw [this] at g
      omega
  have rest := F.just.mp (by rw [key]; exact c0)
  have hg : ∀ x, gup w s x 0 = false := fun x => by
    unfold gup
    split
    · rfl
    · rfl
  have hs : siz sc tl s (num tl u) (lea sc tl + (ex tl u : Nat)) w false = u := by
    unfold siz mny
    rw [rest, hg, if_neg Bool.false_ne_true]
    exact key
  have e1 : wrd sc tl 0 (2 ^ sc - 1 - 1) (2 ^ tl - 1) = (2 ^ sc - 1) * 2 ^ tl - 1 := by
    unfold wrd
    rw [Int.sub_mul (2 ^ sc - 1) 1, Int.one_mul]
    omega
  unfold rnd
  rw [if_neg (show ¬ num tl u = 0 by omega), hs, if_neg (by rw [e1]; omega), rest]
  unfold flg wrd
  rw [if_pos rfl, Int.zero_mul, Int.add_zero, Int.add_zero]
end GR
namespace GZ
open PySem PySem.Spec PyProof.Rows L2
end GZ
namespace PySem
namespace WhX
open PySem.W PySem.Calls PyProof.Rows PySem.HandSPX
/-! ### an own error over any base, whose __init__ keeps its one argument as what -/
def whA (p1 p2 : Pos) : Arguments := { posonlyargs := [], args := [{ arg := "self", annotation := none, pos := p1 }, { arg := "what", annotation := none, pos := p2 }], vararg := none, kwonlyargs := [], kw_defaults := [], kwarg := none, defaults := [] }
def whB (q1 q2 q3 q4 : Pos) : List Stmt := [.Assign [.Attribute (.Name "self" q1) "what" q2] (.Name "what" q3) q4]
def whS : Scope := { kind := .function, names := [(PySem.Str.ofString "self", .local), (PySem.Str.ofString "what", .local)], isGenerator := false, isCoroutine := false, more := [] }
/-- what the written part says of an error's class, at C -/
structure ErrC (K : Frag) (C : Addr) : Prop where
  ga : findIn K (.ref C) "__getattribute__" = some (some (.builtin "BaseException.__getattribute__"))
  gg : findIn K (.ref C) "__getattr__" = some none
  noN : findIn K (.ref C) "what" = some none
  kC : keepIn K (.ref C) = true
  exC : subIn K (.ref C) (.type "BaseException") = some true
  tyC : typeIn K (.ref C) = some (.type "type")
  hdC : hasDictIn K C = true
  cl : findIn K (.ref C) "__class__" = some (some (.builtin "object.__class__"))
  sp : specialIn K (.builtin "object.__class__") "__get__" = some (some (.builtin "getset_descriptor.__get__"))
  tk : takesIn K (.builtin "object.__class__") = some true
  mr : mroIn K C (.type "object") = some true
/-- and of one that is raised, with its __init__ at fI -/
structure ErrR (K : Frag) (C fI : Addr) : Prop extends ErrC K C where
  cls : ∃ (B newId initId : String) (bm : List Value) (nm q : Str) (N : Addr) (bs : List Value) (sn : List Str) (sub : List Value) (ab : Bool) (col : Option Bool) (dd : Option Addr) (k0 k1 k2 k3 k5 : Option Value),
    ExcBaseFacts B newId initId bm ∧ K.lookup C = some (excClassObj nm q C N bs bm true sn sub ab col dd k0 k1 k2 k3 k5 newId) ∧ bm.contains (.type "object") = true ∧ ∀ self : Value, refuseLoop self "__setattr__" bm = pure ()
  sa : findIn K (.ref C) "__setattr__" = some (some (.builtin "object.__setattr__"))
  iC : findIn K (.ref C) "__init__" = some (some (.ref fI))
  tC : typeIn K (.ref fI) = some (.type "function")
  fn : ∃ (qual : Str) (oc : Value) (od : Option Addr) (doc pm : Value) (an : Option Addr) (cdv ct : Value) (osl : Array (Option Value)) (p1 p2 q1 q2 q3 q4 : Pos),
    K.lookup fI = some ⟨oc, od, .func (fnOf "__init__" qual (whA p1 p2) (whB q1 q2 q3 q4) whS .none .none doc pm an cdv ct), osl⟩ ∧ codeIn K cdv qual = true
section
open Builtin Builtin.ObjectAttr
variable {prog : Program} {w : World} {A : Around} {E : Value → Shared → Prop} {R : Result → Shared → Prop} {hp : Heap} {g : Array GenState} {dr : Drawn} {t : Nat} {os : OsState}
/-- the first field that is stored in a new error -/
theorem osaW {K : Frag} {nam : Str} {tk : Tok} {vv : Value} {x C : Addr} {fv : Array Value} {cd : ClassData} (X : K.In hp) (hx : hp.get? x = some { cls := .ref C, data := .fields fv }) (hcd : clsIn K C = some cd) (hob : cd.mro.contains (.type "object") = true) (hne : cd.mro.isEmpty = false)
    (hps : ∀ self : Value, refuseLoop self "__setattr__" cd.mro = pure ()) (hh : cd.hasDict = true) (ha : findIn K (.ref C) nam = some none)
    (hq : ∀ h' tk' dx, (∀ b o, b ≠ x → hp.get? b = some o → h'.get? b = some o) → hp.objs.size ≤ dx → dx ≠ x → h'.get? x = some { cls := .ref C, dict := some dx, data := .fields fv } → h'.Ns1 dx (fun y => if y = nam then some vv else none) → R (.ok (.ret .none)) ⟨h', g, dr, tk', os⟩) :
    codeAny (model prog w) A (.call (.builtin "object.__setattr__") ⟨[.ref x, .str nam tk, vv], []⟩) R ⟨hp, g, dr, t, os⟩ := by
  have IA : InstAt hp x { cls := .ref C, data := .fields fv } C none := ⟨hx, rfl, rfl, trivial⟩
  have nx : x ≠ hp.objs.size := Nat.ne_of_lt (Heap.lt_size hx)
  have isO : Looks (model prog w) hp (isInstance (.ref x) (.type "object")) true := IA.type.andThen (looks_mroIn X (by unfold mroIn; rw [hcd, Option.bind_some, if_neg (by rw [hne]; decide), hob]))
  have lc : Looks (model prog w) hp (classData C) cd := looks_clsIn X hcd
  refine codeAny_call_builtin F.store_object.slot.plain F.store_object.entry (@check_slot (model prog w) _ _ ⟨hp, g, dr, t, os⟩ "object.__setattr__" "object" "__setattr__" (.ref x) [.str nam tk, vv] [] _ F.store_object.kind F.store_object.split isO (F.store_object.args (.ref x) (.str nam tk) vv) ?_)
  have lm : Looks (model prog w) hp (mroOf (.ref C)) cd.mro := lc.andThen .now
  have ln : Looks (model prog w) hp (storeTaker? none) none := .now
  rw [osa_eq, refuse_eq]
  refine wpAny_bind (wpAny_bind (IA.type.at (wpAny_bind (lm.at ?_))))
  rw [hps]
  refine wpAny_pure (wpAny_bind (IA.type.at (wpAny_bind ((looks_findIn X ha).at (wpAny_bind (ln.at ?_))))))
  show wpAny _ _ (storeInOwnDict (.ref x) (.ref C) (.str nam tk) nam vv false) _ _ _
  obtain ⟨c1, c2, c3, c4, c5, c6, c7, c8, c9, c10, c11⟩ := cd
  dsimp only at hh
  subst hh
  unfold storeInOwnDict ownDictForStores
  repeat (first | with_reducible refine store_in_new ?_ ?_ | with_reducible refine wpAny_loadPart_at hx ?_ | with_reducible refine lc.at ?_ | wp_step)
  · refine ⟨_, #[], _, (Heap.get?_update_ne _ _ _ _ nx.symm).trans (Heap.get?_push_at rfl rfl), rfl, ?_, fun _ => rfl⟩
    exact fun e he => absurd he (by simp)
  · intro h' tk' hn' sb
    have hx1 : (hp.push { cls := .type "dict", data := .dict #[] }).get? x = some { cls := .ref C, data := .fields fv } := Heap.get?_push_of_some _ hx
    refine hq h' tk' hp.objs.size (fun b o nb eb => ?_) (Nat.le_refl _) nx.symm ((sb.2 x nx).trans (Heap.get?_update_self _ hx1 rfl)) hn'
    rw [sb.2 b (Nat.ne_of_lt (Heap.lt_size eb)), Heap.get?_update_ne _ _ _ _ nb]
    exact Heap.get?_push_of_some _ eb
end
section
variable {prog : Program} {w : World} {A : Around} {R : Result → Shared → Prop} {s : Shared} {K : Frag} {C fI : Addr}
theorem wone (v : Value) : [v].length ≤ sizeLine := by
  rw [sizeLine_eq]
  exact Nat.le_of_ble_eq_true rfl
theorem wld {M : Model} {u : Shared} {qn : Str} {sc : Scope} {L f : Addr} {cd : Value} {mm : Str → Option Value} {y : Str} {pos : Pos} {vv : Value} {Q : Value → Shared → Prop} {B : Around} {E : Value → Shared → Prop} (hn : u.heap.Ns L mm) (hv : mm y = some vv) (q : Q vv u) (hk : sc.kind = .function := by rfl)
    (hl : (envOfC qn sc L f cd).kindOf y = some .local := by rfl) (hd : (y == ("__debug__" : Str)) = false := by decide) : wpAny M B (eval (.Name y pos) (envOfC qn sc L f cd)) Q E u :=
  wpAny_Name (wpAny_loadName_local hk hl hn hv q) hd
/-- the class is called: a new error at e, its dict at dx holds what -/
theorem whMade (T : ErrR K C fI) {vv : Value} (X : K.In s.heap) (nl : s.heap.NoLimit) (room : A.depth + 1 < recursionLimit)
    (hq : ∀ (h' : Heap) (tk : Nat) (e dx : Addr), (∀ b o, s.heap.get? b = some o → h'.get? b = some o) → s.heap.objs.size ≤ e → s.heap.objs.size ≤ dx → dx ≠ e →
      (∃ t1 : Addr, h'.get? e = some ({ cls := .ref C, dict := some dx, data := .fields #[.ref t1, .none, .none, .none, .bool false, .none] } : Obj)) → h'.Ns1 dx (fun y => if y = "what" then some vv else none) → R (.ok (.ret (.ref e))) { s with heap := h', toks := tk }) :
    codeAny (model prog w) A (.call (.ref C) ⟨[vv], []⟩) R s := by
  obtain ⟨Bn, newId, initId, bm, nm, q, N, bs, sn, sub, ab, col, dd, k0, k1, k2, k3, k5, FB, hC, hob, hps⟩ := T.cls
  obtain ⟨qual, oc, od, doc, pm, an, cdv, ct, osl, p1, p2, q1, q2, q3, q4, ho, hcd⟩ := T.fn
  have hcl : clsIn K C = some { name := nm, bases := bs, mro := .ref C :: bm, ns := N, qualname := q, hasDict := true, slotNames := sn, subclasses := sub, abstract := ab, collection := col, hasDel := false } := by
    unfold clsIn
    rw [hC] <;> rfl
  obtain ⟨hp, g, dr, tk0, os⟩ := s
  have grow : ∀ b o, hp.get? b = some o → ((hp.push (kdv_tup [vv])).push (excO C hp.objs.size)).get? b = some o := fun b o z => Heap.get?_push_of_some _ (Heap.get?_push_of_some _ z)
  have isE : ((hp.push (kdv_tup [vv])).push (excO C hp.objs.size)).get? (hp.objs.size + 1) = some (excO C hp.objs.size) := by heap_get
  refine call_own FB (fun _ => rfl) (X _ _ hC) (looks_findIn X T.iC) (fun self => bind_fn X self T.tC) (wone vv) ?_
  -- __init__ runs
  refine Att.call_fn (binds := [("self", .ref (hp.objs.size + 1)), ("what", vv)]) (X.keeps grow) (nl.keeps grow) ho hcd room (BindsTo.of_eq (by first | rfl | with_unfolding_all rfl)) (by first | rfl | decide | with_unfolding_all rfl) (fun s1 IC => ?_) rfl rfl rfl
  obtain ⟨h1, tk1, rfl⟩ := IC.toInCall.same
  have up1 : ∀ b o, ((hp.push (kdv_tup [vv])).push (excO C hp.objs.size)).get? b = some o → h1.get? b = some o := IC.toInCall.keep
  have ns1 := IC.toInCall.ns
  have X1 : K.In h1 := (X.keeps grow).keeps up1
  have isE1 := up1 _ _ isE
  have big : hp.objs.size + 1 + 1 ≤ h1.objs.size := by
    have z : ((hp.push (kdv_tup [vv])).push (excO C hp.objs.size)).objs.size < h1.objs.size := ns1.lt
    rw [Heap.size_push, Heap.size_push] at z
    exact Nat.le_of_lt z
  show wpAny _ _ (execs _ _) _ _ _
  refine wpAny_execs_cons (plainObj_wpAny_Assign_Attribute ?_)
  refine wld (vv := vv) ns1 (by first | rfl | with_unfolding_all rfl | kernel_rfl) ?_
  refine wld (vv := .ref (hp.objs.size + 1)) ns1 (by first | rfl | with_unfolding_all rfl | kernel_rfl) ?_
  refine set_plain X1 (ox := excO C hp.objs.size) (od := none) ⟨isE1, rfl, rfl, trivial⟩ T.sa ?_
  refine osaW X1 isE1 hcl (by rw [List.contains_cons, hob, Bool.or_true]) rfl (fun self => by rw [refuseLoop_ref]; exact hps self) rfl T.noN fun h3 tk3 dx up3 dbig dne isE3 ns3 => ?_
  show wpAny _ _ (execs _ _) _ _ _
  refine wpAny_execs_nil ⟨rfl, ?_⟩
  refine hq h3 tk3 (hp.objs.size + 1) dx (fun b o z => ?_) (Nat.le_succ _) ?_ dne ⟨_, isE3⟩ ns3
  · exact up3 b o (Nat.ne_of_lt (Nat.lt_succ_of_lt (Heap.lt_size z))) (up1 b o (grow b o z))
  have z : h1.objs.size ≤ dx := dbig
  show hp.objs.size ≤ dx
  omega
end
end WhX
end PySem
namespace L2
open PySem PySem.Spec PyProof.Rows
/-- C(e), C an error's class -/
def tMkW (C : Addr) (ta : TA) : St → Hp → XK → Prop := fun σ H Q => ta σ H fun vs H1 => ∃ v, vs = [v] ∧ ∀ d, H1 d = none → Q (.ref C) (some d) (upd H1 d (.xd [(("what" : Str), v)]))
theorem relW {v : V} {u : Value} (r : RelV v u) (f : Str) : RelO (List.lookup f [(("what" : Str), v)]) (if f = "what" then some u else none) := by
  by_cases c : f = "what"
  · subst c
    rw [if_pos rfl, show List.lookup ("what" : Str) [(("what" : Str), v)] = some v by simp [List.lookup]]
    exact r
  · have c2 : (f == ("what" : Str)) = false := by simpa using c
    rw [if_neg c, show List.lookup f [(("what" : Str), v)] = none by simp [List.lookup, c2]]
    trivial
theorem pmk_what {X : Cx} {C fI : Addr} {x : Str} {a : Expr} {ta : TA} {p pos : Pos} {k : Nat} (T : PySem.WhX.ErrR X.K C fI) (hr : Room k X.A) (hk : 0 < k) (gC : X.mg x = some (.ref C)) (hg : Gl X x) (ha : PA X [a] ta) (hdb : (x == ("__debug__" : Str)) = false := by decide)
    (he : starEach (a :: []) X.env = (false, eval a X.env) :: starEach [] X.env := by rfl) (hpl : (backTo pos (starEach [] X.env)).any (·.1) = false := by rfl) : PMk X (.Call (.Name x p) [a] [] pos) (tMkW C ta) := by
  intro pz u0 τ G0 Q I h
  refine wpAny_Call_Name_kw (ld_glob I hg gC ?_ hdb)
  refine PySem.W.callWith_K (h₀ := X.base) I.ok.mod.kin T.kC (thn (ha.run pos pz u0 τ G0 _ I h) fun us s1 hh => ?_) he hpl
  obtain ⟨vs, H1, I1, r1, v, rfl, q1⟩ := hh
  refine ⟨I1.kIn, ?_⟩
  match us, r1 with
  | [vv], .cons rv .nil =>
    show wpAny _ _ (call (.ref C) [vv]) _ _ _
    have nl := I1.nolimit
    obtain ⟨hp, g, dr, tk, os⟩ := s1
    refine wpAny_call (PySem.WhX.whMade T I1.kIn nl (by have := hr.dp; omega) fun h' tk' e dx old ebig dbig dne ise ns => ?_)
    show MkP X pz τ Q (.ref e) ⟨h', g, dr, tk', os⟩
    obtain ⟨t1, ise⟩ := ise
    obtain ⟨G', g1, g2⟩ := restrict h' fun b => decide (b ≠ e)
    have gk : ∀ b, b ≠ e → G'.get? b = h'.get? b := fun b nb => g1 b (decide_eq_true nb)
    have ge : G'.get? e = none := g2 e (decide_eq_false fun z => z rfl)
    have oldG : ∀ b o, hp.get? b = some o → G'.get? b = some o := fun b o z => by
      rw [gk b (Nat.ne_of_lt (Nat.lt_of_lt_of_le (Heap.lt_size z) ebig))]
      exact old b o z
    have okd : ObjOk X.prog X.w (upd H1 dx (.xd [(("what" : Str), v)])) G' dx (.xd [(("what" : Str), v)]) := ⟨_, ns.at (fun o z => (gk dx dne).trans z), fun f => relW rv f⟩
    have J : Inv X pz τ (upd H1 dx (.xd [(("what" : Str), v)])) ⟨G', g, dr, tk', os⟩ := I1.laid (t' := tk') oldG dbig okd
    refine ⟨e, _, _, ⟨G', g, dr, tk', os⟩, _, .ref C, some dx, rfl, J, fun b o z => ?_, ge, ise, ⟨rfl, rfl⟩, rfl, rfl, ?_, rfl, I1.bare, raises_own T.exC T.tyC, q1 dx (I1.hok.fresh dbig)⟩
    · by_cases nb : b = e
      · have z' : G'.get? b = some o := z
        rw [nb, ge] at z'
        cases z'
      · exact (gk b nb).symm.trans z
    · rw [upd_ne (Ne.symm dne)]
      exact I1.hok.fresh ebig
end L2
namespace L2
open PySem PySem.Spec PyProof.Rows
/-! ### an error that was caught and is kept behind the try -/
/-- at a: an error of the class cls, its dict d -/
def Exk (a : Addr) (cls : Value) (d : Option Addr) : HO := .ext fun h => ∃ (oe : Obj) (vs : Array Value), h.get? a = some oe ∧ Zc cls d oe ∧ oe.data = .fields vs
theorem exk_ok {P : Program} {w : World} {H : Hp} {h : Heap} {a : Addr} {cls : Value} {d : Option Addr} {oe : Obj} {vs : Array Value} (e : h.get? a = some oe) (z : Zc cls d oe) (dd : oe.data = .fields vs) : ObjOk P w H h a (Exk a cls d) :=
  ⟨⟨oe, vs, e, z, dd⟩, ⟨oe, e⟩, fun _ _ ⟨o1, v1, e1, r⟩ k => ⟨o1, v1, k o1 e1, r⟩⟩
/-- a thing that was not there when the def began is told of -/
theorem Inv.track {X : Cx} {pz : List (Addr × Obj)} {τ : St} {H : Hp} {u0 : Shared} {a : Addr} {o : HO} (I : Inv X pz τ H u0) (na : H a = none) (n0 : X.s_0.heap.get? a = none) (nL : a ≠ X.env.locals) (nC : ∀ x c, X.env.cells.lookup x = some c → c ≠ a)
    (nP : ∀ p ∈ X.pn ++ pz, p.1 ≠ a) (new : ObjOk X.prog X.w (upd H a o) u0.heap a o) : Inv X pz τ (upd H a o) u0 where
  ok := I.ok
  os := I.os
  bare := I.bare
  base := {
    keep := I.base.keep
    slot := I.base.slot
    free := fun b ob q n hx => by
      rw [upd_ne (fun z => by rw [z, n0] at q; cases q)]
      exact I.base.free b ob q n hx
    there := I.base.there
    tups := fun b xs q => by
      have q2 := I.base.tups b xs q
      rw [upd_ne (ne_of_none q2 na)]
      exact q2
    frzs := fun b ob v q => by
      have q2 := I.base.frzs b ob v q
      rw [upd_ne (ne_of_none q2 na)]
      exact q2
    tbls := fun b ps q => by
      obtain ⟨more, q2⟩ := I.base.tbls b ps q
      exact ⟨more, by rw [upd_ne (ne_of_none q2 na)]; exact q2⟩ }
  loc := I.loc
  cell := I.cell
  free := by
    rw [upd_ne nL.symm]
    exact I.free
  freeC := fun x c e => by
    rw [upd_ne (nC x c e)]
    exact I.freeC x c e
  pin := fun p hp => by
    obtain ⟨z1, z2, z3⟩ := I.pin p hp
    refine ⟨z1, ?_, z3⟩
    rw [upd_ne (nP p hp)]
    exact z2
  hok := fun b ob e => by
    by_cases nb : b = a
    · subst nb
      rw [upd_same] at e
      cases e
      exact new
    · rw [upd_ne nb] at e
      exact (I.hok b ob e).stay (fun _ _ _ z => z) (fun c z => by rw [upd_ne (ne_of_none z na)]; exact z) (fun c xs z => by rw [upd_ne (ne_of_none z na)]; exact z)
  len := I.len
/-- what is wished of an error of the body: it is caught; the suite runs; the error is told of behind it -/
def wKp (K : PySem.W.Frag) (c : Value) (i : Nat) (ts : Addr → Value → Option Addr → TS) (D : Ends) : WX := fun cls d τ H => PySem.W.exmOne K cls c = some true ∧
  ∀ a, H a = none → ts a cls d { nx := fun τ' H' => D.nx (τ'.set i none) (upd H' a (Exk a cls d)), rt := fun _ _ => False, bk := fun _ _ => False, ct := fun _ _ => False } (τ.set i (some (.ref a))) H
theorem ps_try_keep {X : Cx} {x n : Str} {c : Value} {i : Nat} {body suite : List Stmt} {b0 : Stmt} {np pos pos' : Pos} {tb : WX → TS} {ts : Addr → Value → Option Addr → TS} (hs : X.stack = X.env :: X.outer) (hf : X.env.frame = some X.env.locals) (hex : X.ex = []) (hN : X.N.Nodup) (hi : X.N[i]? = some n)
    (hln : X.env.kindOf n = some .local) (hc : Names X x c)
    (hb : ∀ (W : WX) (pn : List (Addr × Obj)) (xe : Value → Shared → Prop), Takes (X.tr pn xe) W → PassesOwn (model X.prog X.w) X.A X.env xe → PSs (X.tr pn xe) body (tb W))
    (hsu : ∀ (a : Addr) (oe : Obj) (cls : Value) (d : Option Addr) (pn : List (Addr × Obj)), Zc cls d oe → (∃ vs, oe.data = .fields vs) → PSs (X.suite a ((a, oe) :: pn)) (b0 :: suite) (ts a cls d)) :
    PS X (.Try body [.ExceptHandler (some (.Name x np)) (some n) (b0 :: suite) pos'] [] [] pos) (fun D τ H => tb (wKp X.K c i ts D) D τ H) := by
  constructor
  intro pz u0 τ H D I h
  have ok := I.ok
  have frA : X.A.frames = some (X.env :: X.outer) := ok.frames.trans (congrArg some hs)
  refine wpAny_Try_except (wpAny_mono ((hb (wKp X.K c i ts D) (X.pn ++ pz) _ (fun u s1 xx => ?caught) PassesOwn.looking).run [] u0 τ H D (I.toTry _) h) (fun f s1 z => ?fine) (fun _ _ z => z))
  case fine =>
    cases f with
    | next =>
      obtain ⟨τ1, H1, J1, q1⟩ := z
      exact wpAny_execs_nil ⟨τ1, H1, J1.ofTry ok, q1⟩
    | brk =>
      obtain ⟨τ1, H1, J1, q1⟩ := z
      exact ⟨τ1, H1, J1.ofTry ok, q1⟩
    | cont =>
      obtain ⟨τ1, H1, J1, q1⟩ := z
      exact ⟨τ1, H1, J1.ofTry ok, q1⟩
    | ret v1 =>
      obtain ⟨v, τ1, H1, J1, r1, q1⟩ := z
      exact ⟨v, τ1, H1, J1.ofTry ok, r1, q1⟩
  case caught =>
    obtain ⟨a, Bh, sI, pI, τ1, H1, cls, d, rfl, J0, nb, up, sky, na, eos, bare, mt, goes⟩ := xx
    have J : Inv X pz τ1 H1 sI := J0.ofTry ok
    rw [show (X.tr (X.pn ++ pz) _).stack = X.env :: X.outer from hs] at sky
    show wpAny (model X.prog X.w) X.A (noteFrame (.ref a) X.env) _ _ _
    refine Sky.land Zc.steady frA hf sky fun h3 fl3 up3 => ?_
    have J3 : Inv X pz τ1 H1 { s1 with heap := h3 } := J.landed nb fl3.1 (up.trans up3) eos bare
    obtain ⟨oe3, vs3, at3, z3, dt3⟩ := fl3.there
    have noFr : a ∉ frs (X.env :: X.outer) := fun hm => by
      obtain ⟨_, o1, e1, n1⟩ := fl3.2.2.1.mem hm
      rw [at3] at e1
      cases e1
      exact n1 _ dt3
    have nL : a ≠ X.env.locals := fun z => noFr (List.mem_filterMap.mpr ⟨X.env, List.mem_cons_self, by rw [hf, z]⟩)
    have nF : a ∉ X.fs := fun hm => by
      obtain ⟨e1, m1, q1⟩ := List.mem_filterMap.mp hm
      exact noFr (List.mem_filterMap.mpr ⟨e1, List.mem_cons_of_mem _ m1, q1⟩)
    -- it was not there before
    have newA : sI.heap.get? a = none := by
      cases q : sI.heap.get? a with
      | none => rfl
      | some o1 =>
        have z := nb a o1 q (by rw [show frs (X.tr (X.pn ++ pz) _).stack = frs (X.env :: X.outer) from congrArg frs hs]; exact noFr)
        rw [fl3.2.1] at z
        cases z
    have new0 : X.s_0.heap.get? a = none := by
      cases q : X.s_0.heap.get? a with
      | none => rfl
      | some o1 =>
        obtain ⟨o2, z⟩ := J.base.there a o1 q (by rw [hex]; exact fun z => nomatch z)
        rw [newA] at z
        cases z
    have S3 := J3.suite at3 dt3 na nL nF
    refine wpAny_handleBy_cons (codeAny_handlers_test ?_) (by intro q; cases q)
    have isC : PySem.W.Looks (model X.prog X.w) h3 (typeOf (.ref a)) cls := fun A1 Q1 E1 s2 k2 q2 => wpAny_typeOf_ref (k2 _ _ at3) (by rw [z3.1]; exact q2)
    have meets := PySem.W.exm_one (M := model X.prog X.w) J3.kIn isC mt
    have named : ∀ {Q1 : Value → Shared → Prop} {E1 : Value → Shared → Prop}, Q1 c { s1 with heap := h3 } → wpAny (model X.prog X.w) (X.A.mark (some (.ref a))) (eval (.Name x np) X.env) Q1 E1 { s1 with heap := h3 } := fun {Q1 E1} q1 => by
      obtain ⟨g1, g2, g3 | ⟨g3, g4, g5⟩⟩ := hc
      · exact ld_glob (X := X.suite a ((a, oe3) :: (X.pn ++ pz))) S3 g1 g3 q1 g2
      · exact ld_blt (X := X.suite a ((a, oe3) :: (X.pn ++ pz))) S3 g1 g3 g4 q1 g5 g2
    refine named (meets.here (codeAny_handlers_suite_as (HandSPX.lands_againZ fl3 fun h4 fl4 up4 => ?_)))
    have J4 : Inv X pz τ1 H1 { s1 with heap := h4 } := J.landed nb fl4.1 ((up.trans up3).trans up4) eos bare
    obtain ⟨oe4, vs4, at4, z4, dt4⟩ := fl4.there
    refine store_ok (X := X.suite a ((a, oe4) :: (X.pn ++ pz))) (v := .ref a) (J4.suite at4 dt4 na nL nF) hN hi (.inl hln) rfl (fun s5 S5 => ?_) (.inr hln)
    refine wpAny_mono ((hsu a oe4 cls d (X.pn ++ pz) z4 ⟨_, dt4⟩).run [] s5 _ H1 _ S5 (goes a na)) (fun f s6 z => ?_) (fun _ _ z => z.elim)
    cases f with
    | brk => exact (z.choose_spec.choose_spec.2).elim
    | cont => exact (z.choose_spec.choose_spec.2).elim
    | ret v1 => exact (z.choose_spec.choose_spec.choose_spec.2.2).elim
    | next =>
      obtain ⟨τ6, H6, S6, q6⟩ := z
      obtain ⟨at6, na6, _⟩ := S6.pin (a, oe4) (List.mem_append_left _ List.mem_cons_self)
      have J6 : Inv X pz τ6 H6 s6 := S6.unsuite ok
      have K6 : Inv X pz τ6 (upd H6 a (Exk a cls d)) s6 := by
        refine J6.track na6 new0 nL (fun y cc e => ?_) (fun p hp => ?_) (exk_ok at6 z4 dt4)
        · obtain ⟨v, oc, hoc, _⟩ := J.cell y cc e
          exact fun z => by rw [z, newA] at hoc; cases hoc
        · obtain ⟨z1, _⟩ := J.pin p hp
          exact fun z => by rw [z, newA] at z1; cases z1
      exact gone_ok K6 hN hi hln fun s7 J7 => ⟨_, _, J7, q6⟩
end L2
namespace L2
open PySem PySem.Spec PyProof.Rows
/-- at a: a caught error of the class at C that holds what = v -/
def EkAt (H : Hp) (a C : Addr) (v : V) : Prop := ∃ dd, H a = some (Exk a (.ref C) (some dd)) ∧ H dd = some (.xd [(("what" : Str), v)])
theorem ek_inst {X : Cx} {pz : List (Addr × Obj)} {τ : St} {H : Hp} {u0 : Shared} {a C : Addr} {v : V} (I : Inv X pz τ H u0) (e : EkAt H a C v) :
    ∃ (oe od : Obj) (u : Value), PySem.W.InstAt u0.heap a oe C (some od) ∧ RelV v u ∧ PySem.W.lookIn "what" od = some (some u) := by
  obtain ⟨dd, ea, ed⟩ := e
  obtain ⟨⟨oe, vs, hget, hz, hdat⟩, _⟩ := I.hok a _ ea
  obtain ⟨mA, hns, hr⟩ := (show ObjOk X.prog X.w H u0.heap dd (.xd [(("what" : Str), v)]) from I.hok dd _ ed)
  obtain ⟨od, ho, hl⟩ := lookIn_ns hns
  obtain ⟨u, hu, ru⟩ := RelO.some_of (v := v) (o := mA "what") (by rw [← show List.lookup ("what" : Str) [(("what" : Str), v)] = some v by simp [List.lookup]]; exact hr "what")
  refine ⟨oe, od, u, ⟨hget, hz.1, by unfold PySem.W.notCls; rw [hdat] <;> rfl, by rw [hz.2]; exact ho⟩, ru, by rw [hl, hu]⟩
/-- e.what of a caught error -/
def tWhat (K : PySem.W.Frag) (te : TE) : TE := fun σ H Q => te σ H fun x H1 => ∃ (a C : Addr) (v : V), x = .ref a ∧ PySem.WhX.ErrC K C ∧ EkAt H1 a C v ∧ Q v H1
theorem pe_what {X : Cx} {e : Expr} {te : TE} {pos : Pos} (he : PE X e te) (hb : attributeBase e "what" X.env (eval e X.env) = eval e X.env := by rfl) : PE X (.Attribute e "what" pos) (tWhat X.K te) := by
  constructor
  intro pz u0 τ H Q I h
  refine attr_of hb (thn (he.run pz u0 τ H _ I h) fun u s1 hh => ?_)
  obtain ⟨x, H1, I1, rx, a, C, v, rfl, T, ek, q⟩ := hh
  obtain rfl : u = Value.ref a := rx
  obtain ⟨oe, od, u1, J, ru, hl⟩ := ek_inst I1 ek
  exact HandSPX.exc_get I1.kIn J T.ga T.gg T.exC (PySem.W.findObj_own T.hdC T.noN rfl hl) (handed_of ru) ⟨v, H1, I1.tok _, ru, q⟩
/-- isinstance of a caught error: one class; a tuple of classes -/
def rIsW (K : PySem.W.Frag) : List V → Hp → VK → Prop := fun xs H Q => ∃ (a C : Addr) (v c : V) (u : Value) (b : Bool), xs = [.ref a, c] ∧ PySem.WhX.ErrC K C ∧ EkAt H a C v ∧ ClsV c u ∧ PySem.W.kitOne K (.ref C) u = some b ∧ Q (.bl b) H
def rIsWT (K : PySem.W.Frag) : List V → Hp → VK → Prop := fun xs H Q => ∃ (a C tp : Addr) (v : V) (cs : List V) (us : List Value) (b : Bool), xs = [.ref a, .ref tp] ∧ PySem.WhX.ErrC K C ∧ EkAt H a C v ∧ H tp = some (.tup cs) ∧ Paired ClsV cs us ∧ PySem.W.kitAny K (.ref C) us = some b ∧ Q (.bl b) H
theorem has_cls {K : PySem.W.Frag} {C : Addr} (h : PySem.W.hasDictIn K C = true) : (PySem.W.clsIn K C).isSome = true := by
  obtain ⟨cd, hc, _⟩ := PySem.W.any_some h
  rw [hc]
  rfl
section
variable {X : Cx}
theorem call_isW : CallR X (.builtin "isinstance") (rIsW X.K) := by
  intro pz u0 τ H xs us Q I r h
  obtain ⟨a, C, v, c, u, b, rfl, T, ek, k, e, q⟩ := h
  obtain ⟨u1, u2, rfl, r1, r2⟩ := vals2 r
  cases (show u1 = Value.ref a from r1)
  have e2 := k.eq r2
  subst e2
  obtain ⟨oe, od, _, J, _⟩ := ek_inst I ek
  exact PySem.W.kia_one (PySem.W.kitx_exc (has_cls T.hdC) T.ga T.gg T.exC T.cl T.sp T.tk T.mr) I.kIn J e (fun z => nomatch z) fun tk => ⟨.bl b, H, I.tok tk, rfl, q⟩
theorem call_isWT : CallR X (.builtin "isinstance") (rIsWT X.K) := by
  intro pz u0 τ H xs us Q I r h
  obtain ⟨a, C, tp, v, cs, ws, b, rfl, T, ek, hT, k, e, q⟩ := h
  obtain ⟨u1, u2, rfl, r1, r2⟩ := vals2 r
  cases (show u1 = Value.ref a from r1)
  cases (show u2 = Value.ref tp from r2)
  obtain ⟨oe, od, _, J, _⟩ := ek_inst I ek
  obtain ⟨_, its, rv, o, h1, h2, n, h3⟩ := (show ObjOk X.prog X.w H u0.heap tp (.tup cs) from I.hok tp _ hT)
  have e3 := ClsV.all k rv
  subst e3
  obtain ⟨oc, od1, dt, sl⟩ := o
  simp only at h2 h3
  subst h2 h3
  exact PySem.W.kia_tup (PySem.W.kitx_exc (has_cls T.hdC) T.ga T.gg T.exC T.cl T.sp T.tk T.mr) I.kIn J h1 e (fun z => nomatch z) fun tk => ⟨.bl b, H, I.tok tk, rfl, q⟩
end
end L2
namespace L2
open PySem PySem.Spec PyProof.Rows
/-! ### a call with keywords whose errors go to a try; promises side by side -/
def tCallNS (n m : Nat) (sp : Sp) (gV : List V → List V → List V) (E : St → XK) (t tk : TA) : TE := fun σ H Q => t σ H fun vs H1 => tk σ H1 fun zs H2 => vs.length = n ∧ zs.length = m ∧ sp (gV vs zs) H2 Q (E σ)
section
variable {X : Cx} {CX : CXT} {k n : Nat} {f : Addr} {fd : FuncData} {ps ks : List Str} {sp : Sp} {E : St → XK} {x : Str} {p pos : Pos} {e : Expr} {es : List Expr} {kws : List Keyword} {t tk : TA} {g : List Value → List Value → List Value} {gV : List V → List V → List V}
theorem pe_callNS (F : FnOk X.prog X.w X.K X.mg X.base CX k f fd ps sp) (hr : Room k X.A) (hg : Gl X x) (hm : X.mg x = some (.ref f)) (hk : PySem.W.keepIn X.K (.ref f) = true) (hb : KBn X.K fd ps n ks g gV) (hx : ∀ σ, PassesAt CX X σ (E σ)) (ha : PA X (e :: es) t) (hkw : PK X kws tk)
    (hall : (backToKw pos (keywordEach kws X.env)).all (·.1.isSome) = true := by rfl) (hks : (backToKw pos (keywordEach kws X.env)).filterMap (·.1) = ks := by rfl) (hdb : (x == ("__debug__" : Str)) = false := by decide)
    (he : starEach (e :: es) X.env = (false, eval e X.env) :: starEach es X.env := by rfl) (hpl : ((backTo pos (starEach (e :: es) X.env)).any (·.1) || (backToKw pos (keywordEach kws X.env)).any (·.1.isNone)) = false := by rfl) :
    PE X (.Call (.Name x p) (e :: es) kws pos) (tCallNS n ks.length sp gV E t tk) := by
  constructor
  intro pz u0 τ H Q I h
  refine wpAny_Call_Name_kw (ld_glob I hg hm (PySem.W.callWith_KW (h₀ := X.base) I.ok.mod.kin hk hall (thn (ha.run pos pz u0 τ H _ I h) fun us s1 z => ?_) hpl he) hdb)
  obtain ⟨vs, H1, I1, r1, q1⟩ := z
  refine thn (hkw.run pos pz s1 τ H1 _ I1 q1) fun ws s2 z => ?_
  obtain ⟨zs, H2, I2, r2, l1, l2, q2⟩ := z
  refine ⟨I2.kIn, ?_⟩
  rw [hks]
  refine wpAny_call (codeAny_mono (F.run X.A X.stack s2 H2 ⟨us, ks.zip ws⟩ (g us ws) (gV vs zs) Q (E τ) hr I2.env0 (hb.to s2 us ws I2.kIn (r1.length.symm.trans l1) (r2.length.symm.trans l2)) (hb.rel r1 r2) q2) fun r s3 z => ?_)
  match r with
  | .error er => exact hx τ pz H2 s2 er s3 I2 z
  | .ok (.ret v) => exact I2.after z
  | .ok .next => exact z.elim
  | .ok .brk => exact z.elim
  | .ok .cont => exact z.elim
end
section
variable {P : Program} {w : World} {K : PySem.W.Frag} {mg : Str → Option Value} {base : Heap} {k : Nat} {f : Addr} {fd : FuncData} {ps : List Str} {sp sq : Sp}
theorem fn_lift {CX : CXT} (F : FnOk P w K mg base CX0 k f fd ps sp) : FnOk P w K mg base CX k f fd ps sp := ⟨F.len, fun A outer s H args us vs Q E hr e0 hb hv hs => codeAny_mono (F.run A outer s H args us vs Q E hr e0 hb hv hs) fun r s1 z => by
  match r with
  | .error er => exact False.elim z
  | .ok (.ret v) => exact z
  | .ok .next => exact z
  | .ok .brk => exact z
  | .ok .cont => exact z⟩
theorem fn_or {CX : CXT} (F : FnOk P w K mg base CX k f fd ps sp) (G : FnOk P w K mg base CX k f fd ps sq) : FnOk P w K mg base CX k f fd ps (fun vs H Q E => sp vs H Q E ∨ sq vs H Q E) :=
  ⟨fun vs H Q E h => h.elim (F.len vs H Q E) (G.len vs H Q E), fun A outer s H args us vs Q E hr e0 hb hv hs => hs.elim (F.run A outer s H args us vs Q E hr e0 hb hv) (G.run A outer s H args us vs Q E hr e0 hb hv)⟩
end
end L2
namespace GZ
open PySem PySem.Spec PyProof.Rows L2
theorem kit_self {K : PySem.W.Frag} {C : Addr} : PySem.W.kitOne K (.ref C) (.ref C) = some true := by
  unfold PySem.W.kitOne
  rw [if_pos (beq_self_eq_true _)]
theorem kit_own {K : PySem.W.Frag} {C D : Addr} {b : Bool} (n : (Value.ref C == Value.ref D) = false) (hd : PySem.W.hasDictIn K D = true) (ty : PySem.W.typeIn K (.ref D) = some (.type "type")) (su : PySem.W.subIn K (.ref C) (.ref D) = some b) : PySem.W.kitOne K (.ref C) (.ref D) = some b := by
  unfold PySem.W.kitOne PySem.W.kitCls
  rw [if_neg (by rw [n]; decide)]
  dsimp only
  rw [if_pos (by rw [has_cls hd, ty] <;> rfl)]
  exact su
theorem kit_bt {K : PySem.W.Frag} {C : Addr} {T : String} {b : Bool} (su : PySem.W.subIn K (.ref C) (.type T) = some b) (km : PySem.W.kitMeta T = true := by decide +kernel) : PySem.W.kitOne K (.ref C) (.type T) = some b := by
  unfold PySem.W.kitOne PySem.W.kitCls
  rw [if_neg (show ¬ ((Value.ref C == Value.type T) = true) from Bool.false_ne_true)]
  dsimp only
  rw [if_pos km]
  exact su
end GZ
namespace L2
open PySem PySem.Spec PyProof.Rows
/-! ### a name, a starred one, a name: x, *ys, z = a tuple -/
section
variable {X : Cx}
def gStar3 (K : PySem.W.Frag) (t : TGs) : TG := fun v σ H Q => ∃ (a : Addr) (x z : V) (xs : List V), v = .ref a ∧ SqT K H a (x :: (xs ++ [z])) ∧ xs.length ≤ 16000 ∧ ∀ D, H D = none → t [x, .ref D, z] σ (upd H D (.lst xs)) Q
theorem unpack_star3 {prog : Program} {w : World} {A : Around} {E : Value → Shared → Prop} {s : Shared} {l : Addr} {items : Array Value} {Q : List Value → Shared → Prop} (hl : IsTup s.heap l items) (hh : A.handled = none) (h0 : 2 ≤ items.size) (hz : items.size ≤ 16384)
    (h : ∀ (h₂ : Heap) (tk : Nat), (∀ b o, s.heap.get? b = some o → h₂.get? b = some o) → Q (items.toList.take 1 ++ [.ref h₂.objs.size] ++ (items.toList.drop 1).drop (items.size - 2)) { s with heap := h₂.push { cls := .type "list", data := .seq ((items.toList.drop 1).take (items.size - 2)).toArray 0 }, toks := tk }) : wpAny (model prog w) A (unpackItems (.ref l) 3 (some 1)) Q E s := by
  have hlt : l ≠ s.heap.objs.size := by obtain ⟨o, ho, _⟩ := hl; exact Nat.ne_of_lt (Heap.lt_size ho)
  unfold unpackItems
  refine wpAny_bind ?_
  unfold notIterableAtAll
  refine wpAny_bind (wpAny_specialOf hl.typeIs slot_tuple_iter.lookup ?_)
  refine wpAny_pure ?_
  simp only [Bool.false_eq_true, if_false]
  refine wpAny_bind (wpAny_holding (iter_tuple hl ?_))
  refine wpAny_bind (wpAny_holding (draw_tuple hlt 1 0 _ _ ⟨_, Heap.get?_push_size _ rfl, rfl, rfl⟩ (hl.push _) (by omega) fun h₁ hit₁ hs₁ => ?_))
  have hl₁ : IsTup h₁ l items := (hl.push _).extBut hs₁.extBut hlt
  have hit₁' := hit₁
  obtain ⟨oi, hoi, _⟩ := hit₁'
  have hl₁' := hl₁
  obtain ⟨ol, hol, _⟩ := hl₁'
  rw [List.drop_zero]
  have hfl : (items.toList.take 1).length = 1 := by rw [List.length_take, Array.length_toList]; omega
  rw [if_neg (show ¬ ((items.toList.take 1).length < 1) by rw [hfl]; omega)]
  refine wpAny_bind (wpAny_holding (PySem.W.kun_collect (s := { s with heap := h₁ }) (T := "tuple_iterator") (.inr (.inr (.inr rfl))) (Walks.tuple (A := A.in1) hh s.heap.objs.size l hlt items) (fun j u st => st.1.typeIs) (k := 1) (by omega) ⟨hit₁, hl₁⟩ (Heap.lt_size hoi) (Heap.lt_size hol) (fun h₂ tk hk => ?_) (by rw [sizeLine_eq]; omega)))
  have hrl : (items.toList.drop 1).length = items.size - 1 := by rw [List.length_drop, Array.length_toList]
  show wpAny _ _ (if (items.toList.drop 1).length < 3 - 1 - 1 then _ else _) _ _ _
  rw [if_neg (by omega)]
  show wpAny _ _ (newList ((items.toList.drop 1).take ((items.toList.drop 1).length - (3 - 1 - 1))) >>= fun d => pure (items.toList.take 1 ++ [d] ++ (items.toList.drop 1).drop ((items.toList.drop 1).length - (3 - 1 - 1)))) _ _ _
  rw [show (items.toList.drop 1).length - (3 - 1 - 1) = items.size - 2 by rw [hrl]; omega]
  have he : ∀ b o, s.heap.get? b = some o → h₂.get? b = some o := fun b o e => hk b o (Nat.ne_of_lt (Heap.lt_size e)) (hs₁.extBut b o (Nat.ne_of_lt (Heap.lt_size e)) (Heap.get?_push_of_some _ e))
  refine wpAny_bind ?_
  unfold newList
  refine wpAny_newObj_type (wpAny_pure ?_) (by show ((items.toList.drop 1).take (items.size - 2)).toArray.size ≤ sizeLine; rw [List.size_toArray, List.length_take, List.length_drop, sizeLine_eq, Array.length_toList]; omega)
  exact h h₂ tk he
theorem pg_star3 {es : List Expr} {k : Nat} {pos : Pos} {t : TGs} (hc : X.calm = true) (h : PGs X es t)
    (hn : (assignEach es X.env).length = 3 := by rfl) (hst : (assignEach es X.env).findIdx? (·.1) = some 1 := by rfl) : PG X (.Tuple es k pos) (gStar3 X.K t) := by
  refine ⟨fun pins s σ H v u Q I r hw => ?_⟩
  obtain ⟨a, x, z, xs, e1, hq, hz, hw⟩ := hw
  subst e1
  cases r
  obtain ⟨its, rv, pl, hzz⟩ := I.tuple hq
  have hlen := rv.length
  rw [List.length_cons, List.length_append, List.length_singleton] at hlen
  rw [PyProof.Rows.assign_Tuple]
  refine wpAny_bind (wpAny_standAt ?_)
  unfold unpack
  rw [hn, hst]
  refine wpAny_bind (wpAny_holding (unpack_star3 pl (I.ok.hd hc) (by rw [List.size_toArray]; omega) (by rw [List.size_toArray]; omega) fun h' tk hx => ?_))
  have rt := rv.take 1
  have rd := (rv.drop 1).take (its.toArray.size - 2)
  have rl := (rv.drop 1).drop (its.toArray.size - 2)
  have sz : its.toArray.size - 2 = xs.length := by rw [List.size_toArray]; omega
  rw [sz] at rd rl ⊢
  rw [show (x :: (xs ++ [z])).drop 1 = xs ++ [z] from rfl, List.take_left' rfl] at rd
  rw [show (x :: (xs ++ [z])).drop 1 = xs ++ [z] from rfl, List.drop_left' rfl] at rl
  have I0 : Inv X pins σ H { s with heap := h', toks := tk } := I.kept (t' := tk) hx
  have I1 : Inv X pins σ (upd H h'.objs.size (.lst xs)) { s with heap := h'.push { cls := .type "list", data := .seq ((its.drop 1).take xs.length).toArray 0 }, toks := tk } := I0.laid (t' := tk) (o := .lst xs) (fun b u e => Heap.get?_push_of_some _ e) (Nat.le_refl _) ⟨by show xs.length ≤ sizeLine; rw [sizeLine_eq]; omega, _, 0, rd, Heap.get?_push_size _ rfl⟩
  exact h.run pins _ σ _ _ _ Q I1 ((rt.append (.cons (show RelV (.ref h'.objs.size) (.ref h'.objs.size) from rfl) .nil)).append rl) (hw _ (I0.hok.fresh (Nat.le_refl _)))
theorem pgs_star {e : Expr} {sp : Pos} {es : List Expr} {t : TG} {u : TGs} (h1 : PG X e t) (h2 : PGs X es u) : PGs X (.Starred e sp :: es) (gCons t u) := by
  refine ⟨fun pins s σ H vs us Q I r h => ?_⟩
  obtain ⟨v, vr, e1, h⟩ := h
  subst e1
  cases r with
  | cons r rr =>
    show wpAny _ _ (assignInOrder (assign e X.env :: (assignEach es X.env).map (·.2)) _) _ _ _
    refine assignInOrder_cons (thn (h1.run pins s σ H _ _ _ I r h) fun _ s1 ⟨σ1, H1, I1, q1⟩ => ?_)
    exact h2.run pins s1 σ1 H1 _ _ Q I1 rr q1
end
/-! ### d.get(k) of a dict of the module, its keys texts -/
structure KDcts (w : World) (K : PySem.W.Frag) (D : Addr) (kvs : List (Str × V)) : Prop where
  loc : ∃ es ep, K.lookup D = some ⟨.type "dict", none, .dict es ep, #[]⟩ ∧ PySem.W.KeysLit w.params es.toList ∧ Paired (fun (e : DictEntry) (kv : Str × V) => (∃ t, e.key = .str kv.1 t) ∧ RelV kv.2 e.val) es.toList kvs
  sm : (D == sysModules) = false
def kdV (kvs : List (Str × V)) (x : Str) : Option V := (kvs.find? fun kv => decide (kv.1 = x)).map (·.2)
theorem KDcts.ns {w : World} {K : PySem.W.Frag} {D : Addr} {kvs : List (Str × V)} (h : KDcts w K D kvs) (x : Str) : ∃ r, PySem.W.nsIn K D x = some r ∧ RelO (kdV kvs x) r := by
  obtain ⟨es, ep, hl, hk, hf⟩ := h.loc
  unfold PySem.W.nsIn
  rw [hl]
  dsimp only
  have : ∀ (l : List DictEntry) (m : List (Str × V)), Paired (fun (e : DictEntry) (kv : Str × V) => (∃ t, e.key = .str kv.1 t) ∧ RelV kv.2 e.val) l m → (∃ e, (l.find? fun d => d.key.isStr x) = some e ∧ RelO (kdV m x) (some e.val)) ∨ ((l.find? fun d => d.key.isStr x) = none ∧ RelO (kdV m x) none ∧ l.any (·.refKey) = false) := fun l m hm => by
    induction hm with
    | nil => exact .inr ⟨rfl, trivial, rfl⟩
    | @cons e kv l m h _ ih =>
      obtain ⟨⟨t, h2⟩, h3⟩ := h
      unfold kdV at ih ⊢
      have ek : e.key.isStr x = decide (kv.1 = x) := by
        rw [h2]
        by_cases c : kv.1 = x
        · rw [decide_eq_true c, c]
          simp [Value.isStr]
        · rw [decide_eq_false c]
          simp [Value.isStr]
          exact c
      rw [List.find?_cons, List.find?_cons, ek]
      by_cases c : kv.1 = x
      · rw [decide_eq_true c]
        exact .inl ⟨e, rfl, h3⟩
      · rw [decide_eq_false c]
        rcases ih with h | ⟨a1, a2, a3⟩
        · exact .inl h
        · refine .inr ⟨a1, a2, ?_⟩
          rw [List.any_cons, a3]
          have : e.refKey = false := by
            unfold DictEntry.refKey
            rw [h2]
          rw [this]
          rfl
  rcases this _ _ hf with ⟨e, h1, h2⟩ | ⟨h1, h2, h3⟩
  · rw [h1]
    exact ⟨_, rfl, h2⟩
  · rw [h1, h3]
    exact ⟨_, rfl, h2⟩
def tKGet (kvs : List (Str × V)) (ty : TE) : TE := fun σ H Q => ty σ H fun y H2 => ∃ x : Str, y = .str x ∧ Q ((kdV kvs x).getD .non) H2
theorem pe_kdget {X : Cx} {o e : Expr} {apos cpos : Pos} {D : Addr} {kvs : List (Str × V)} {ty : TE} (hD : KDcts X.w X.K D kvs) (ho : PE X o (tC (.ref D))) (he : PE X e ty) (m : M1 X o "get" apos e cpos) : PE X (.Call (.Attribute o "get" apos) [e] [] cpos) (tKGet kvs ty) := by
  refine ⟨fun pins s σ H Q I h => ?_⟩
  refine wpAny_Call_method m.base m.few m.line PySem.F.plainAttrs_dict PySem.F.slot_dict_get PySem.F.type_dict_get (thn (ho.run pins s σ H (fun v G => v = .ref D ∧ G = H) I ⟨rfl, rfl⟩) fun u s1 ⟨x, H1, I1, rx, q1⟩ => ?_)
  obtain ⟨rfl, rfl⟩ := q1
  obtain rfl : u = Value.ref D := rx
  obtain ⟨es, ep, hl, hk, hf⟩ := hD.loc
  have hm := fun (s2 : Shared) (k : X.K.In s2.heap) => PySem.W.mapOf_K (prog := X.prog) (w := X.w) k hl hk
  refine ⟨(hm s1 I1.kIn).typeIs, fun b q => (by cases q; exact ⟨_, I1.kIn _ _ hl, rfl⟩), ?_⟩
  rw [m.trees]
  refine Calls.callWith_builtin rfl (Calls.evalArgs_plain (Calls.spliced_cons (thn (he.run pins s1 σ H1 _ I1 h) fun iv s2 ⟨y, H2, I2, ry, x, ey, q2⟩ => Calls.spliced_nil ?_)))
  subst ey
  obtain ⟨t, rfl⟩ := (show ∃ t, iv = Value.str x t from ry)
  obtain ⟨r, hr, rr⟩ := hD.ns x
  refine call_meetsIn PySem.F.slot_dict_get (hm s2 I2.kIn).typeIs PySem.F.entry_dict_get (PySem.F.args_dict_get_2 _ _) (meets_dict_get (strKind X.prog X.w) D (strKind_is X.prog X.w x t) hD.sm) ⟨_, hm s2 I2.kIn, ?_⟩
  refine ⟨_, H2, I2.tok _, ?_, q2⟩
  rw [PySem.W.find_K hl hr]
  exact rr.getD rfl
end L2
/-! ### a built-in method in a comprehension's block -/
namespace L2
open PySem PySem.Spec PyProof.Rows
theorem pe_bmKX {X : Cx} {K : PySem.W.Frag} {o e : Expr} {es : List Expr} {to : TE} {t : TA} {name : Str} {apos cpos : Pos} {T id : String} {r : V → List V → Hp → VK → Prop}
    (pa : PlainAttrs T) (slot : Slot T name id) (hty : typeOf (.builtin id) = pure (.type "method_descriptor")) (hm : MtR X id r) (ho : PE X o to) (ha : PA X (e :: es) t)
    (h : X.K = K := by rfl) (hbase : attributeBase o name X.env (eval o X.env) = eval o X.env := by rfl)
    (hfew : ((backTo cpos (starEach (e :: es) X.env)).all (fun x => !x.1) && (backToKw cpos (keywordEach [] X.env)).all (fun x => x.1.isSome)
      && decide ((e :: es).length + ([] : List Keyword).length + (if ([] : List Keyword).isEmpty then 0 else 1) < 30)) = true := by rfl)
    (hline : (apos.endLine == cpos.line) = true := by rfl) (hs : starEach (e :: es) X.env = (false, eval e X.env) :: starEach es X.env := by rfl) (hplain : (backTo cpos (starEach es X.env)).any (·.1) = false := by rfl) :
    PE X (.Call (.Attribute o name apos) (e :: es) [] cpos) (tBM K T r to t) := by
  subst h
  exact pe_bm pa slot hty hm ho ha hbase hfew hline hs hplain
def rJoin (K : PySem.W.Frag) : V → List V → Hp → VK → Prop := fun x xs H Q => ∃ a p, ∃ ys : List Str, x = .str a ∧ xs = [.ref p] ∧ (SqL K H p (ys.map V.str) ∨ SqT K H p (ys.map V.str)) ∧
    (ys.map (·.length)).sum + ys.length * a.length ≤ 16777216 ∧ Q (.str (Txt.join a ys)) H
theorem mt_joinKX {X : Cx} {K : PySem.W.Frag} (h : X.K = K := by rfl) : MtR X "str.join" (rJoin K) := by
  subst h
  exact mt_join
end L2
namespace L2
open PySem PySem.Spec PyProof.Rows
/-! ### except (A, B, ..) as n: the error is kept behind the try -/
theorem fly_keeps {B h h' : Heap} {l : List Env} {a : Addr} {Z : Obj → Prop} (f : HandSPX.FlyingZ B l a Z h) (k : ∀ b o, h.get? b = some o → h'.get? b = some o) : HandSPX.FlyingZ B l a Z h' := by
  obtain ⟨f1, f2, f3, oe, vs, T, oT, ts, he, hz, hd, h1, hn, hT, hT2, hd2, h3⟩ := f
  exact ⟨fun b o e => k _ _ (f1 b o e), f2, f3.of_keeps (fun b o e _ => ⟨o, k _ _ e, rfl⟩), oe, vs, T, oT, ts, k _ _ he, hz, hd, h1, hn, hT, k _ _ hT2, hd2, h3⟩
theorem wp_forIn1 {M : Model} {A : Around} {β : Type} {E : Value → Shared → Prop} {s : Shared} {f : Value → β → Sem (ForInStep β)} {i0 : β} : ∀ (cs : List Value) {Q : β → Shared → Prop}, (∀ c ∈ cs, ∀ Q1 : ForInStep β → Shared → Prop, Q1 (.yield i0) s → wpAny M A (f c i0) Q1 E s) → Q i0 s → wpAny M A (forIn cs i0 f) Q E s
  | [], Q, _, q => by
    rw [List.forIn_nil]
    exact wpAny_pure q
  | c :: cs, Q, h, q => by
    rw [List.forIn_cons]
    refine wpAny_bind (h c List.mem_cons_self _ ?_)
    exact wp_forIn1 cs (fun d hd => h d (List.mem_cons_of_mem _ hd)) q
theorem wp_forIn2 {M : Model} {A : Around} {β : Type} {E : Value → Shared → Prop} {s : Shared} {f : Value → β → Sem (ForInStep β)} {i0 d0 : β} {K : PySem.W.Frag} {cls : Value}
    (h : ∀ c b, PySem.W.exmOne K cls c = some b → ∀ Q1 : ForInStep β → Shared → Prop, Q1 (if b = true then .done d0 else .yield i0) s → wpAny M A (f c i0) Q1 E s) :
    ∀ (cs : List Value) (b : Bool) {Q : β → Shared → Prop}, PySem.W.exmAny K cls cs = some b → Q (if b = true then d0 else i0) s → wpAny M A (forIn cs i0 f) Q E s
  | [], b, Q, e, q => by
    cases e
    rw [List.forIn_nil]
    exact wpAny_pure q
  | c :: cs, b, Q, e, q => by
    obtain ⟨b1, d1, e1, e2, rfl⟩ := PySem.W.exmAny_cons e
    rw [List.forIn_cons]
    refine wpAny_bind (h c b1 e1 _ ?_)
    cases b1 with
    | true => exact wpAny_pure q
    | false =>
      rw [Bool.false_or] at q
      exact wp_forIn2 h cs d1 e2 q
theorem exmAny_mem {K : PySem.W.Frag} {cls : Value} : ∀ {cs : List Value} {b : Bool}, PySem.W.exmAny K cls cs = some b → ∀ c ∈ cs, ∃ d, PySem.W.exmOne K cls c = some d
  | [], _, _, _, h => nomatch h
  | c :: cs, b, e, x, h => by
    obtain ⟨b1, d1, e1, e2, _⟩ := PySem.W.exmAny_cons e
    rcases List.mem_cons.mp h with z | z
    · subst z
      exact ⟨_, e1⟩
    · exact exmAny_mem e2 x z
theorem exm_tupL {M : Model} {K : PySem.W.Frag} {cs : List Value} {cls : Value} {tp e : Addr} {b : Bool} {h : Heap} (X : K.In h) (LT : PySem.W.Looks M h (typeOf (.ref e)) cls) (hp : h.get? tp = some { cls := .type "tuple", data := .seq cs.toArray }) (hx : PySem.W.exmAny K cls cs = some b) :
    PySem.W.Looks M h (excMatches (.ref e) (.ref tp)) b := by
  intro A Q E s k₀ q
  obtain ⟨hh, g, d, tk, os⟩ := s
  have k : ∀ b o, h.get? b = some o → hh.get? b = some o := k₀
  have LT0 : PySem.W.Looks M h (isInstance (.ref tp) (.type "tuple")) true := ((PySem.W.Looks.ld hp).andThen .now).andThen (PySem.W.Looks.of_pure isSubtype_tuple_tuple)
  have LT := LT.keeps k
  have LT0 := LT0.keeps k
  have hp' := k _ _ hp
  unfold excMatches
  refine wpAny_bind (LT0.at ?_)
  dsimp only
  rw [if_pos rfl]
  first
    | refine wpAny_bind (wpAny_seqItems hp' rfl ?_)
    | refine wpAny_bind (wpAny_bind (wpAny_seqItems hp' rfl (wpAny_pure ?_)))
  dsimp only [Option.getD_some, Option.getD]
  refine wpAny_bind (wpAny_pure ?_)
  refine wpAny_bind (wp_forIn1 cs (fun c hc Q1 q1 => ?_) ?_)
  · obtain ⟨v, hv⟩ := exmAny_mem hx c hc
    obtain ⟨e1, _⟩ := PySem.W.exm_cls (M := M) X hv
    refine wpAny_bind ((e1.keeps k).at ?_)
    exact wpAny_pure q1
  refine wpAny_bind (LT.at ?_)
  refine wpAny_bind (wp_forIn2 (K := K) (cls := cls) (d0 := ⟨some true, ⟨⟩⟩) (fun c v hv Q1 q1 => ?_) cs b hx ?_)
  · obtain ⟨_, S1⟩ := PySem.W.exm_cls (M := M) X hv
    refine wpAny_bind ((S1.keeps k).at ?_)
    cases v
    · exact wpAny_pure q1
    · exact wpAny_pure q1
  cases b
  · exact wpAny_pure q
  · exact wpAny_pure q
inductive NamesL (X : Cx) : List Expr → List Value → Prop
  | nil : NamesL X [] []
  | cons {x : Str} {c : Value} {np : Pos} {es : List Expr} {cs : List Value} (h : Names X x c) (r : NamesL X es cs) : NamesL X (.Name x np :: es) (c :: cs)
theorem NamesL.len {X : Cx} {es : List Expr} {cs : List Value} (h : NamesL X es cs) : cs.length = es.length := by
  induction h with
  | nil => rfl
  | cons _ _ ih => rw [List.length_cons, List.length_cons, ih]
/-- what is wished of an error of the body: it is one of these; the suite runs; the error is told of behind it -/
def wKpT (K : PySem.W.Frag) (cs : List Value) (i : Nat) (ts : Addr → Value → Option Addr → TS) (D : Ends) : WX := fun cls d τ H => PySem.W.exmAny K cls cs = some true ∧
  ∀ a, H a = none → ts a cls d { nx := fun τ' H' => D.nx (τ'.set i none) (upd H' a (Exk a cls d)), rt := fun _ _ => False, bk := fun _ _ => False, ct := fun _ _ => False } (τ.set i (some (.ref a))) H
theorem ps_try_keepT {X : Cx} {n : Str} {es : List Expr} {cs : List Value} {kk : Nat} {i : Nat} {body suite : List Stmt} {b0 : Stmt} {tpos pos pos' : Pos} {tb : WX → TS} {ts : Addr → Value → Option Addr → TS} (hs : X.stack = X.env :: X.outer) (hf : X.env.frame = some X.env.locals) (hex : X.ex = []) (hN : X.N.Nodup) (hi : X.N[i]? = some n)
    (hln : X.env.kindOf n = some .local) (hc : NamesL X es cs) (hle : cs.length ≤ 100)
    (hb : ∀ (W : WX) (pn : List (Addr × Obj)) (xe : Value → Shared → Prop), Takes (X.tr pn xe) W → PassesOwn (model X.prog X.w) X.A X.env xe → PSs (X.tr pn xe) body (tb W))
    (hsu : ∀ (a : Addr) (oe : Obj) (cls : Value) (d : Option Addr) (pn : List (Addr × Obj)), Zc cls d oe → (∃ vs, oe.data = .fields vs) → PSs (X.suite a ((a, oe) :: pn)) (b0 :: suite) (ts a cls d)) :
    PS X (.Try body [.ExceptHandler (some (.Tuple es kk tpos)) (some n) (b0 :: suite) pos'] [] [] pos) (fun D τ H => tb (wKpT X.K cs i ts D) D τ H) := by
  constructor
  intro pz u0 τ H D I h
  have ok := I.ok
  have frA : X.A.frames = some (X.env :: X.outer) := ok.frames.trans (congrArg some hs)
  refine wpAny_Try_except (wpAny_mono ((hb (wKpT X.K cs i ts D) (X.pn ++ pz) _ (fun u s1 xx => ?caught) PassesOwn.looking).run [] u0 τ H D (I.toTry _) h) (fun f s1 z => ?fine) (fun _ _ z => z))
  case fine =>
    cases f with
    | next =>
      obtain ⟨τ1, H1, J1, q1⟩ := z
      exact wpAny_execs_nil ⟨τ1, H1, J1.ofTry ok, q1⟩
    | brk =>
      obtain ⟨τ1, H1, J1, q1⟩ := z
      exact ⟨τ1, H1, J1.ofTry ok, q1⟩
    | cont =>
      obtain ⟨τ1, H1, J1, q1⟩ := z
      exact ⟨τ1, H1, J1.ofTry ok, q1⟩
    | ret v1 =>
      obtain ⟨v, τ1, H1, J1, r1, q1⟩ := z
      exact ⟨v, τ1, H1, J1.ofTry ok, r1, q1⟩
  case caught =>
    obtain ⟨a, Bh, sI, pI, τ1, H1, cls, d, rfl, J0, nb, up, sky, na, eos, bare, mt, goes⟩ := xx
    have J : Inv X pz τ1 H1 sI := J0.ofTry ok
    rw [show (X.tr (X.pn ++ pz) _).stack = X.env :: X.outer from hs] at sky
    show wpAny (model X.prog X.w) X.A (noteFrame (.ref a) X.env) _ _ _
    refine Sky.land Zc.steady frA hf sky fun h3 fl3 up3 => ?_
    have J3 : Inv X pz τ1 H1 { s1 with heap := h3 } := J.landed nb fl3.1 (up.trans up3) eos bare
    obtain ⟨oe3, vs3, at3, z3, dt3⟩ := fl3.there
    have noFr : a ∉ frs (X.env :: X.outer) := fun hm => by
      obtain ⟨_, o1, e1, n1⟩ := fl3.2.2.1.mem hm
      rw [at3] at e1
      cases e1
      exact n1 _ dt3
    have nL : a ≠ X.env.locals := fun z => noFr (List.mem_filterMap.mpr ⟨X.env, List.mem_cons_self, by rw [hf, z]⟩)
    have nF : a ∉ X.fs := fun hm => by
      obtain ⟨e1, m1, q1⟩ := List.mem_filterMap.mp hm
      exact noFr (List.mem_filterMap.mpr ⟨e1, List.mem_cons_of_mem _ m1, q1⟩)
    -- it was not there before
    have newA : sI.heap.get? a = none := by
      cases q : sI.heap.get? a with
      | none => rfl
      | some o1 =>
        have z := nb a o1 q (by rw [show frs (X.tr (X.pn ++ pz) _).stack = frs (X.env :: X.outer) from congrArg frs hs]; exact noFr)
        rw [fl3.2.1] at z
        cases z
    have new0 : X.s_0.heap.get? a = none := by
      cases q : X.s_0.heap.get? a with
      | none => rfl
      | some o1 =>
        obtain ⟨o2, z⟩ := J.base.there a o1 q (by rw [hex]; exact fun z => nomatch z)
        rw [newA] at z
        cases z
    have S3 := J3.suite at3 dt3 na nL nF
    refine wpAny_handleBy_cons (codeAny_handlers_test ?_) (by intro q; cases q)
    have kp : ∀ q o, h3.get? q = some o → (h3.push { cls := .type "tuple", data := .seq cs.toArray }).get? q = some o := fun _ _ z => Heap.get?_push_of_some _ z
    have isC : PySem.W.Looks (model X.prog X.w) h3 (typeOf (.ref a)) cls := fun A1 Q1 E1 s2 k2 q2 => wpAny_typeOf_ref (k2 _ _ at3) (by rw [z3.1]; exact q2)
    have meets := exm_tupL (M := model X.prog X.w) (J3.kIn.keeps kp) (isC.keeps kp) (Heap.get?_push_size h3 rfl) mt
    have named : ∀ {x : Str} {c : Value} {np : Pos}, Names X x c → ∀ {Q1 : Value → Shared → Prop} {E1 : Value → Shared → Prop}, Q1 c { s1 with heap := h3 } → wpAny (model X.prog X.w) (X.A.mark (some (.ref a))) (eval (.Name x np) X.env) Q1 E1 { s1 with heap := h3 } := fun {x c np} hc {Q1 E1} q1 => by
      obtain ⟨g1, g2, g3 | ⟨g3, g4, g5⟩⟩ := hc
      · exact ld_glob (X := X.suite a ((a, oe3) :: (X.pn ++ pz))) S3 g1 g3 q1 g2
      · exact ld_blt (X := X.suite a ((a, oe3) :: (X.pn ++ pz))) S3 g1 g3 g4 q1 g5 g2
    have items : ∀ {es : List Expr} {cs : List Value}, NamesL X es cs → ∀ {Q1 : List Value → Shared → Prop} {E1 : Value → Shared → Prop}, Q1 cs { s1 with heap := h3 } → wpAny (model X.prog X.w) (X.A.mark (some (.ref a))) (spliced (backTo tpos (starEach es X.env))) Q1 E1 { s1 with heap := h3 } := fun {es cs} hc => by
      induction hc with
      | nil =>
        intro Q1 E1 q1
        exact wpAny_items_nil q1
      | cons hx _ ih =>
        intro Q1 E1 q1
        exact wpAny_items_cons (named hx (ih q1)) (by rfl)
    refine wpAny_Tuple (items hc ⟨?_, ?_⟩)
    · rw [sizeLine_eq]
      omega
    refine meets.here (codeAny_handlers_suite_as (HandSPX.lands_againZ (fly_keeps fl3 kp) fun h4 fl4 up4 => ?_))
    have J4 : Inv X pz τ1 H1 { s1 with heap := h4 } := J.landed nb fl4.1 ((up.trans up3).trans ((Heap.UpToSlots.of_keeps kp).trans up4)) eos bare
    obtain ⟨oe4, vs4, at4, z4, dt4⟩ := fl4.there
    refine store_ok (X := X.suite a ((a, oe4) :: (X.pn ++ pz))) (v := .ref a) (J4.suite at4 dt4 na nL nF) hN hi (.inl hln) rfl (fun s5 S5 => ?_) (.inr hln)
    refine wpAny_mono ((hsu a oe4 cls d (X.pn ++ pz) z4 ⟨_, dt4⟩).run [] s5 _ H1 _ S5 (goes a na)) (fun f s6 z => ?_) (fun _ _ z => z.elim)
    cases f with
    | brk => exact (z.choose_spec.choose_spec.2).elim
    | cont => exact (z.choose_spec.choose_spec.2).elim
    | ret v1 => exact (z.choose_spec.choose_spec.choose_spec.2.2).elim
    | next =>
      obtain ⟨τ6, H6, S6, q6⟩ := z
      obtain ⟨at6, na6, _⟩ := S6.pin (a, oe4) (List.mem_append_left _ List.mem_cons_self)
      have J6 : Inv X pz τ6 H6 s6 := S6.unsuite ok
      have K6 : Inv X pz τ6 (upd H6 a (Exk a cls d)) s6 := by
        refine J6.track na6 new0 nL (fun y cc e => ?_) (fun p hp => ?_) (exk_ok at6 z4 dt4)
        · obtain ⟨v, oc, hoc, _⟩ := J.cell y cc e
          exact fun z => by rw [z, newA] at hoc; cases hoc
        · obtain ⟨z1, _⟩ := J.pin p hp
          exact fun z => by rw [z, newA] at z1; cases z1
      exact gone_ok K6 hN hi hln fun s7 J7 => ⟨_, _, J7, q6⟩
end L2
namespace L2
open PySem PySem.Spec PyProof.Rows
/-- o.m(), its error goes to a try -/
def tMeth0S (C : Addr) (m : Str) (sp : Sp) (E : St → XK) (ta : TE) : TE := fun σ H Q => ta σ H fun x H1 => ∃ a dx fs, x = .ref a ∧ H1 a = some (.ins C dx fs) ∧ fs.lookup m = none ∧ sp [x] H1 Q (E σ)
theorem pe_meth0S {X : Cx} {CX : CXT} {k : Nat} {f C : Addr} {fd : FuncData} {ps : List Str} {sp : Sp} {E : St → XK} {m : Str} {pos apos : Pos} {o : Expr} {ta : TE} {pl : Sem Bool} (he : PE X o ta) (c : Cls X.K C) (hm : Meth X.K C m f) (F : FnOk X.prog X.w X.K X.mg X.base CX k f fd ps sp) (hr : Room k X.A) (hb : Binds X.K fd ps []) (hx : ∀ σ, PassesAt CX X σ (E σ))
    (ht : eval (.Call (.Attribute o m apos) [] [] pos) X.env = (do
      let ov ← eval o X.env
      standAt apos.atName
      let (f, first) ← holding [ov] (getMethod ov m pl)
      callWith pos f first (backTo pos (starEach [] X.env)) (backToKw pos (keywordEach [] X.env))) := by rfl) :
    PE X (.Call (.Attribute o m apos) [] [] pos) (tMeth0S C m sp E ta) := by
  refine ⟨fun pins s σ H Q I h => ?_⟩
  refine PySem.W.methodCall_KW (pl := pl) (thn (he.run pins s σ H _ I h) fun u s1 ⟨x, H1, I1, rx, a, dx, fs, ex, ea, l, q⟩ => ?_) ht
  subst ex
  obtain rfl : u = Value.ref a := rx
  refine getmeth_ok I1 ea c hm l ?_
  exact PySem.W.callWith_K0 (first := [.ref a]) I1.kIn hm.kp (run_fnS (us := [.ref a]) (vs := [.ref a]) F hr hb (hx σ) I1 (.cons rfl .nil) q)
end L2
namespace GZ
open PySem PySem.Spec PyProof.Rows L2
/-! ### x in a tuple, both read as data -/
theorem units65 {k : Nat} {A : Around} (r : Room k A) : A.units + 65 < cLine := by have := r.un; omega
section
variable {X : Cx}
def rInDT (K : PySem.W.Frag) : R2 := fun x y H Q => ∃ d ds, Dp K H x d ∧ Dp K H y (.tuple ds) ∧ d.plain = true ∧ PyData.plainAll ds = true ∧ PyData.depthAll ds ≤ 60 ∧ Q (.bl (ds.any fun z => PyData.eqv z d)) H
theorem op_inDT (hu : X.A.units + 65 < cLine) : OpR X (compareOp .In) (rInDT X.K) := by
  intro pins s σ H x y v u Q I rx ry h
  obtain ⟨d, ds, hd, he, sd, se, dd, q⟩ := h
  obtain ⟨as, r1⟩ := Dp.reads I d x v hd rx
  obtain ⟨bs, r2⟩ := Dp.reads I (.tuple ds) y u he ry
  refine PySem.SeqAt.in_tuple_data r2 r1 se sd ?_ ⟨.bl _, H, I, rfl, q⟩
  have := Nat.min_le_left (PyData.depthAll ds) d.depth
  omega
end
/-! ### x in a list, both read as data -/
section
variable {X : Cx}
def rInDL (K : PySem.W.Frag) : R2 := fun x y H Q => ∃ d ds, Dp K H x d ∧ Dp K H y (.list ds) ∧ d.plain = true ∧ PyData.plainAll ds = true ∧ PyData.depthAll ds ≤ 60 ∧ Q (.bl (ds.any fun z => PyData.eqv z d)) H
theorem op_inDL (hu : X.A.units + 65 < cLine) : OpR X (compareOp .In) (rInDL X.K) := by
  intro pins s σ H x y v u Q I rx ry h
  obtain ⟨d, ds, hd, he, sd, se, dd, q⟩ := h
  obtain ⟨as, r1⟩ := Dp.reads I d x v hd rx
  obtain ⟨bs, r2⟩ := Dp.reads I (.list ds) y u he ry
  refine PySem.SeqAt.in_list_data r2 r1 se sd ?_ ⟨.bl _, H, I, rfl, q⟩
  have := Nat.min_le_left (PyData.depthAll ds) d.depth
  omega
end
theorem KDcts.dict {w : World} {K : PySem.W.Frag} {D : Addr} {kvs : List (Str × V)} (h : KDcts w K D kvs) : ∃ es n, KDict K w D es n := by
  obtain ⟨es, ep, hl, hk, hf⟩ := h.loc
  exact ⟨es, ep, hl, hk, h.sm⟩
theorem KDcts.kd {w : World} {K : PySem.W.Frag} {D : Addr} {kvs : List (Str × V)} (h : KDcts w K D kvs) {x : Str} {v : V} (e : kdV kvs x = some v) : KDct K w D x v := by
  obtain ⟨es, ep, hl, hk, hf⟩ := h.loc
  obtain ⟨r, hr, rr⟩ := h.ns x
  rw [e] at rr
  cases r with
  | none => exact absurd rr (fun z => z)
  | some u => exact ⟨es, ep, u, hl, hk, hr, rr⟩
/-! ### == and != of things that read as data, whatever their texts -/
theorem op_nePl {X : Cx} (hu : X.A.units + 64 < cLine) : OpR X (compareOp .NotEq) (fun x y H Q => ∃ d e, Dp X.K H x d ∧ Dp X.K H y e ∧ d.plain = true ∧ e.plain = true ∧ d.depth ≤ 64 ∧ Q (.bl (!PyData.eqv d e)) H) := by
  intro pins s σ H x y v u Q I rx ry h
  obtain ⟨d, e, hd, he, sd, se, dd, q⟩ := h
  obtain ⟨as, r1⟩ := Dp.reads I d x v hd rx
  obtain ⟨bs, r2⟩ := Dp.reads I e y u he ry
  refine SeqAt.ne_plain r1 r2 sd se ?_ ⟨.bl _, H, I, rfl, q⟩
  have := Nat.min_le_left d.depth e.depth
  omega
theorem op_eqPl {X : Cx} (hu : X.A.units + 64 < cLine) : OpR X (compareOp .Eq) (fun x y H Q => ∃ d e, Dp X.K H x d ∧ Dp X.K H y e ∧ d.plain = true ∧ e.plain = true ∧ d.depth ≤ 64 ∧ Q (.bl (PyData.eqv d e)) H) := by
  intro pins s σ H x y v u Q I rx ry h
  obtain ⟨d, e, hd, he, sd, se, dd, q⟩ := h
  obtain ⟨as, r1⟩ := Dp.reads I d x v hd rx
  obtain ⟨bs, r2⟩ := Dp.reads I e y u he ry
  refine SeqAt.eq_plain r1 r2 sd se ?_ ⟨.bl _, H, I, rfl, q⟩
  have := Nat.min_le_left d.depth e.depth
  omega
/-! ### zip of two lists or tuples -/
def SqIt (t : Bool) (h : Heap) (i2 a : Addr) (i : Nat) : Prop := bif t then h.IsTupleIter i2 a i else h.IsListIter i2 a i
def SqIs (t : Bool) (h : Heap) (a : Addr) (its : Array Value) : Prop := bif t then h.IsTuple a its else h.IsList a its
theorem SqIt.ex {t : Bool} {h : Heap} {i2 a : Addr} {i : Nat} (s : SqIt t h i2 a i) : ∃ o, h.get? i2 = some o ∧ ∀ f, o.data ≠ .cell f := by
  cases t <;> obtain ⟨o, e, _, d⟩ := s <;> exact ⟨o, e, fun f q => by rw [d] at q; cases q⟩
theorem draws_sq {prog : Program} {w : World} {A : Around} (t : Bool) (hh : A.handled = none) (it l : Addr) (hne : l ≠ it) (items : Array Value) :
    Draws prog w A it [it, l] items.size (fun i v => items[i]? = some v) (fun i h => SqIt t h it l i ∧ SqIs t h l items) := by
  cases t
  · exact Draws.list hh it l hne items
  · exact Draws.tuple hh it l hne items
theorem sq_val {X : Cx} {t : Bool} {pins : List (Addr × Obj)} {σ : L2.St} {H : Hp} {s : Shared} {a : Addr} {ys : List V} (I : Inv X pins σ H s) (h : bif t then SqT X.K H a ys else SqL X.K H a ys) : ∃ its : List Value, Vals ys its ∧ SqIs t s.heap a its.toArray := by
  cases t
  · obtain ⟨its, rv, p, _⟩ := I.list h
    exact ⟨its, rv, p.isList⟩
  · obtain ⟨its, rv, p, _⟩ := I.tuple h
    exact ⟨its, rv, p⟩
theorem sq_inj {X : Cx} {t : Bool} {pins : List (Addr × Obj)} {σ : L2.St} {H : Hp} {s : Shared} {a : Addr} {ys zs : List V} (I : Inv X pins σ H s) (h : bif t then SqT X.K H a ys else SqL X.K H a ys) (h2 : bif t then SqT X.K H a zs else SqL X.K H a zs) : ys = zs := by
  cases t
  · exact I.list_inj h h2
  · exact I.tuple_inj h h2
theorem begins_sq (t : Bool) (l : Addr) (items : Array Value) : Begins (.ref l) { cls := .type (bif t then "tuple_iterator" else "list_iterator"), data := .fields #[.ref l, .int 0 0] } fun h => SqIs t h l items := by
  cases t
  · exact begins_list l items
  · exact begins_tuple l items
def Sq2 (t : Bool) (K : PySem.W.Frag) (H : Hp) (a : Addr) (xs : List V) : Prop := bif t then SqT K H a xs else SqL K H a xs
theorem Sq2.to {t : Bool} {K : PySem.W.Frag} {H : Hp} {a : Addr} {xs : List V} (h : Sq2 t K H a xs) : SqL K H a xs ∨ SqT K H a xs := by
  cases t
  · exact .inl h
  · exact .inr h
theorem Sq2.of {K : PySem.W.Frag} {H : Hp} {a : Addr} {xs : List V} (h : SqL K H a xs ∨ SqT K H a xs) : ∃ t, Sq2 t K H a xs := h.elim (fun z => ⟨false, z⟩) fun z => ⟨true, z⟩
def Itzb (t1 t2 : Bool) (K : PySem.W.Frag) (a b : Addr) : It :=
  ⟨fun i H => ∃ (xs ys : List V), Sq2 t1 K H a xs ∧ Sq2 t2 K H b ys ∧ i < xs.length ∧ i < ys.length,
   fun i H v H' => ∃ T x y, v = .ref T ∧ H T = none ∧ H' = upd H T (.tup [x, y]) ∧ (∀ xs, Sq2 t1 K H a xs → xs[i]? = some x) ∧ ∀ ys, Sq2 t2 K H b ys → ys[i]? = some y,
   fun i H => ∃ (xs ys : List V), Sq2 t1 K H a xs ∧ Sq2 t2 K H b ys ∧ i = min xs.length ys.length⟩
def StZb (t1 t2 : Bool) (a b z TI TO i1 i2 : Addr) (i : Nat) (h : Heap) : Prop :=
  IsZip h z TI TO .none ∧ IsTupOf2 h TI (.ref i1) (.ref i2) ∧ (∃ u v, IsTupOf2 h TO u v) ∧ SqIt t1 h i1 a i ∧ SqIt t2 h i2 b i
theorem turn_zb {P : Program} {w : World} {K : PySem.W.Frag} {elts : List Expr} {kk : Nat} {tpos : Pos} {t1 t2 : Bool} {a b z TI TO i1 i2 : Addr} (S : ZipSep2 z TI TO i1 i2 [i1, a] [i2, b]) (na : a ≠ i1) (nb : b ≠ i2) :
    Turn P w K (.Tuple elts kk tpos) (Itzb t1 t2 K a b) [z, TI, TO, i1, i2] z (StZb t1 t2 a b z TI TO i1 i2) where
  mem := List.mem_cons_self
  obj := by
    rintro i h ⟨a1, a2, ⟨u, v, a3⟩, s1, s2⟩ c hm
    simp only [List.mem_cons, List.not_mem_nil, or_false] at hm
    rcases hm with e | e | e | e | e <;> subst e
    · exact ⟨_, a1, (fun _ q => nomatch q)⟩
    · exact ⟨_, a2, (fun _ q => nomatch q)⟩
    · exact ⟨_, a3, (fun _ q => nomatch q)⟩
    · obtain ⟨o2, e2, n2⟩ := s1.ex
      exact ⟨o2, e2, n2⟩
    · obtain ⟨o2, e2, n2⟩ := s2.ex
      exact ⟨o2, e2, n2⟩
  keep := by
    rintro i h h' ⟨a1, a2, ⟨u, v, a3⟩, s1, s2⟩ k
    refine ⟨k z (by simp) _ a1, k TI (by simp) _ a2, ⟨u, v, k TO (by simp) _ a3⟩, ?_, ?_⟩
    · cases t1 <;> exact s1.at fun o q => k i1 (by simp) o q
    · cases t2 <;> exact s2.at fun o q => k i2 (by simp) o q
  item := by
    intro X hP hw hK hc i pins s σ H E I hf st hg
    subst hP hw hK
    obtain ⟨xs, ys, hx, hy, l1, l2⟩ := hg
    obtain ⟨its1, rv1, p1⟩ := sq_val I hx
    obtain ⟨its2, rv2, p2⟩ := sq_val I hy
    obtain ⟨u, hu, ru⟩ := rv1.get (List.getElem?_eq_getElem l1)
    obtain ⟨v, hv, rv⟩ := rv2.get (List.getElem?_eq_getElem l2)
    have W := WalksT.zipD2 (prog := X.prog) (w := X.w) (A := X.A) S (draws_sq (A := X.A.in1) t1 (I.ok.hd hc) i1 a na its1.toArray) (draws_sq (A := X.A.in1) t2 (I.ok.hd hc) i2 b nb its2.toArray)
    have hin : ∀ c ∈ [z, TO, i1, i2], c ∈ [z, TI, TO, i1, i2] := fun b hb => by
      simp only [List.mem_cons, List.not_mem_nil, or_false] at hb ⊢
      rcases hb with q | q | q | q <;> simp [q]
    obtain ⟨a1, a2, a3, s1, s2⟩ := id st
    have g1 := rv1.length
    have g2 := rv2.length
    refine W.item i s _ E (by simp only [List.size_toArray]; omega) ⟨a1, a2, a3, ⟨s1, p1⟩, ⟨s2, p2⟩⟩ fun T vals h1 tk pt hT isT mid k1 => ?_
    obtain ⟨u1, u2, e1, e2, rfl⟩ := pt
    rw [List.getElem?_toArray, hu] at e1
    rw [List.getElem?_toArray, hv] at e2
    cases e1
    cases e2
    refine ⟨.ref T, rfl, W.go elts kk tpos i T { s with heap := h1, toks := tk } _ E mid fun h2 st2 k2 => ?_⟩
    have nT : T ∉ [z, TO, i1, i2] := W.apart i T h1 mid
    have isT2 : h2.IsTuple T #[u, v] := isT.at fun o e => k2 T o nT e
    have new : ObjOk X.prog X.w (upd H T (.tup [xs[i], ys[i]])) h2 T (.tup [xs[i], ys[i]]) :=
      ⟨by show 2 ≤ sizeLine; decide, [u, v], .cons ru (.cons rv .nil), isT2⟩
    have I2 : Inv X pins σ (upd H T (.tup [xs[i], ys[i]])) { s with heap := h2, toks := tk } :=
      I.turnedNew (t' := tk) (ch := [z, TI, TO, i1, i2]) (fun b o nb e => k2 b o (fun q => nb (hin b q)) (k1 b o (fun q => nb (hin b q)) e)) hf hT new
    obtain ⟨b1, b2, b3, ⟨b4, _⟩, b5, _⟩ := st2
    refine ⟨.ref T, _, I2, rfl, ⟨T, _, _, rfl, I.hok.fresh hT, rfl, fun zs' hz' => ?_, fun zs' hz' => ?_⟩, ⟨b1, b2, b3, b4, b5⟩, fun b hb => ?_⟩
    · rw [sq_inj I hz' hx]
      exact List.getElem?_eq_getElem l1
    · rw [sq_inj I hz' hy]
      exact List.getElem?_eq_getElem l2
    have nb : b ≠ T := by
      obtain ⟨a1, a2, ⟨u, v, a3⟩, s1, s2⟩ := st
      obtain ⟨o1, e1, _⟩ := s1.ex
      obtain ⟨o2, e2, _⟩ := s2.ex
      have lt : b < s.heap.objs.size := by
        simp only [List.mem_cons, List.not_mem_nil, or_false] at hb
        rcases hb with q | q | q | q | q <;> subst q
        · exact Heap.lt_size a1
        · exact Heap.lt_size a2
        · exact Heap.lt_size a3
        · exact Heap.lt_size e1
        · exact Heap.lt_size e2
      exact Nat.ne_of_lt (Nat.lt_of_lt_of_le lt hT)
    rw [upd_ne nb]
    exact (hf b hb).1
  done := by
    intro X hP hw hK hc i pins s σ H E I hf st hg
    subst hP hw hK
    obtain ⟨xs, ys, hx, hy, hi⟩ := hg
    obtain ⟨its1, rv1, p1⟩ := sq_val I hx
    obtain ⟨its2, rv2, p2⟩ := sq_val I hy
    have W := WalksT.zipD2 (prog := X.prog) (w := X.w) (A := X.A) S (draws_sq (A := X.A.in1) t1 (I.ok.hd hc) i1 a na its1.toArray) (draws_sq (A := X.A.in1) t2 (I.ok.hd hc) i2 b nb its2.toArray)
    have hn : i = min its1.toArray.size its2.toArray.size := by
      have e1 := rv1.length
      have e2 := rv2.length
      simp only [List.size_toArray]
      omega
    subst hn
    obtain ⟨a1, a2, a3, s1, s2⟩ := id st
    refine W.done s _ E ⟨a1, a2, a3, ⟨s1, p1⟩, ⟨s2, p2⟩⟩ fun h1 tk k1 => ⟨rfl, I.turnedL (t' := tk) (ch := [z, TI, TO, i1, i2]) (fun b o nb e => k1 b o (fun q => nb ?_) e) hf⟩
    simp only [List.mem_cons, List.not_mem_nil, or_false] at q ⊢
    rcases q with q | q | q | q <;> simp [q]
  self := fun A i s Q E st h => wpAny_pyIter_zip st.1 h
def iZb (K : PySem.W.Frag) (ta : TA) : TI := fun σ H R => ta σ H fun vs H1 => ∃ (t1 t2 : Bool) (a b : Addr) (xs ys : List V), vs = [.ref a, .ref b] ∧ Sq2 t1 K H1 a xs ∧ Sq2 t2 K H1 b ys ∧ R (Itzb t1 t2 K a b) H1
theorem pi_zb {X : Cx} {e e2 : Expr} {ta : TA} {p pos tpos : Pos} {elts : List Expr} {kk : Nat} (hg : Gl X "zip") (hm : X.mg "zip" = none) (ha : PA X [e, e2] ta)
    (hs : starEach [e, e2] X.env = (false, eval e X.env) :: starEach [e2] X.env := by rfl) (hp : (backTo pos (starEach [e2] X.env)).any (·.1) = false := by rfl) :
    PI X (.Tuple elts kk tpos) (.Call (.Name "zip" p) [e, e2] [] pos) (iZb X.K ta) := by
  constructor
  intro pins s σ H R I h
  refine Call_ (ld_blt I hg hm PyProof.Rows.boot_zip (PyProof.Rows.callWith_type1 (thn (ha.run pos pins s σ H _ I h) fun us s1 hh => ?_) hs hp))
  obtain ⟨vs, H1, I1, r1, t1, t2, a, b, xs, ys, rfl, hx, hy, q⟩ := hh
  match us, r1 with
  | [v1, v2], .cons hv1 (.cons hv2 .nil) =>
    cases hv1
    cases hv2
    obtain ⟨its1, rv1, p1⟩ := sq_val I1 hx
    obtain ⟨its2, rv2, p2⟩ := sq_val I1 hy
    have la : a < s1.heap.objs.size := by
      cases t1 <;> obtain ⟨o, e, _⟩ := p1 <;> exact Heap.lt_size e
    have lb : b < s1.heap.objs.size := by
      cases t2 <;> obtain ⟨o, e, _⟩ := p2 <;> exact Heap.lt_size e
    refine zip_begins2 (begins_sq t1 a its1.toArray) (begins_sq t2 b its2.toArray) p1 p2 fun h' a1 a2 a3 g1 g2 _ k => wpAny_pyIter_zip a1 ?_
    have I2 : Inv X pins σ H1 { s1 with heap := h' } := I1.kept (t' := s1.toks) k
    have S : ZipSep2 (s1.heap.objs.size + 4) (s1.heap.objs.size + 2) (s1.heap.objs.size + 3) s1.heap.objs.size (s1.heap.objs.size + 1) [s1.heap.objs.size, a] [s1.heap.objs.size + 1, b] := zip_sep2 (fp1 := [a]) (fp2 := [b]) (fun c q => by rw [List.mem_singleton.mp q]; exact la) (fun c q => by rw [List.mem_singleton.mp q]; exact lb)
    have fr : ∀ c ∈ [s1.heap.objs.size + 4, s1.heap.objs.size + 2, s1.heap.objs.size + 3, s1.heap.objs.size, s1.heap.objs.size + 1], FpOk X pins H1 c := fun b hb => by
      have le : s1.heap.objs.size ≤ b := by
        simp only [List.mem_cons, List.not_mem_nil, or_false] at hb
        rcases hb with z | z | z | z | z <;> rw [z]
        · exact Nat.le_add_right _ _
        · exact Nat.le_add_right _ _
        · exact Nat.le_add_right _ _
        · exact Nat.le_refl _
        · exact Nat.le_add_right _ _
      exact I1.fpOk le (I1.hok.fresh le)
    refine ⟨s1.heap.objs.size + 4, [s1.heap.objs.size + 4, s1.heap.objs.size + 2, s1.heap.objs.size + 3, s1.heap.objs.size, s1.heap.objs.size + 1], _, _, H1, rfl, I2, turn_zb S (Nat.ne_of_lt la) (Nat.ne_of_lt (Nat.lt_succ_of_lt lb)), ⟨a1, a2, ⟨_, _, a3⟩, ?_, ?_⟩, fr, q⟩
    · cases t1 <;> exact ⟨_, g1, rfl, rfl⟩
    · cases t2 <;> exact ⟨_, g2, rfl, rfl⟩
theorem walk_zb {K : PySem.W.Frag} {t1 t2 : Bool} {a b : Addr} {xs ys : List V} {n : Nat} (hx : xs.length = n) (hy : ys.length = n) : Walk (Itzb t1 t2 K a b) n (fun H => Sq2 t1 K H a xs ∧ Sq2 t2 K H b ys) (YPair (fun i => xs[i]?) (fun i => ys[i]?)) := by
  refine ⟨fun i _ hi q => ⟨xs, ys, q.1, q.2, by omega, by omega⟩, fun _ q => ⟨xs, ys, q.1, q.2, by omega⟩, fun i H v H' hi q z => ?_⟩
  obtain ⟨T, c, y, h1, h2, h3, h4, h5⟩ := z
  exact ⟨T, _, _, h1, h2, h3, h4 xs q.1, h5 ys q.2⟩
/-! ### a list or a tuple walked -/
def Itq (t : Bool) (K : PySem.W.Frag) (a : Addr) : It := bif t then Itt K a else Itl K a
def iSq (K : PySem.W.Frag) (tl : TE) : TI := fun σ H R => tl σ H fun x H1 => ∃ (t : Bool) (a : Addr) (xs : List V), x = .ref a ∧ Sq2 t K H1 a xs ∧ R (Itq t K a) H1
theorem pi_sq {X : Cx} {tg l : Expr} {tl : TE} (hl : PE X l tl) : PI X tg l (iSq X.K tl) := by
  refine ⟨fun pins s σ H R I h => ?_⟩
  refine thn (hl.run pins s σ H _ I h) fun v s1 ⟨x, H1, I1, r1, q1⟩ => ?_
  obtain ⟨t, a, xs, e, hq, q⟩ := q1
  subst e
  cases r1
  cases t
  · obtain ⟨its, rv, p, hz⟩ := I1.list hq
    refine wpAny_pyIter_list p.isList ?_
    refine ⟨s1.heap.objs.size, [s1.heap.objs.size], _, _, H1, rfl, I1.kept (t' := s1.toks) fun b o e => Heap.get?_push_of_some _ e, turn_list a _, ⟨_, Heap.get?_push_size _ rfl, rfl, rfl⟩, fun b hb => ?_, q⟩
    have e : b = s1.heap.objs.size := by simpa using hb
    subst e
    exact I1.fpOk (Nat.le_refl _) (I1.hok.fresh (Nat.le_refl _))
  · obtain ⟨its, rv, p, hz⟩ := I1.tuple hq
    refine wpAny_pyIter_tuple (show s1.heap.IsTuple a its.toArray from p) ?_
    refine ⟨s1.heap.objs.size, [s1.heap.objs.size], _, _, H1, rfl, I1.kept (t' := s1.toks) fun b o e => Heap.get?_push_of_some _ e, turn_tuple a _, ⟨_, Heap.get?_push_size _ rfl, rfl, rfl⟩, fun b hb => ?_, q⟩
    have e : b = s1.heap.objs.size := by simpa using hb
    subst e
    exact I1.fpOk (Nat.le_refl _) (I1.hok.fresh (Nat.le_refl _))
theorem walk_q {t : Bool} {K : PySem.W.Frag} {a : Addr} {xs : List V} : Walk (Itq t K a) xs.length (fun H => Sq2 t K H a xs) (YAt xs) := by
  cases t
  · exact walk_list
  · exact walk_tup
theorem Sq2.len {t : Bool} {K : PySem.W.Frag} {H : Hp} {a : Addr} {xs : List V} (h : Sq2 t K H a xs) : SqL K H a xs ∨ SqT K H a xs := h.to
/-! ### a name, then a starred one: x, *ys = a list -/
section
variable {X : Cx}
def gStarE (K : PySem.W.Frag) (t : TGs) : TG := fun v σ H Q => ∃ (a : Addr) (x : V) (xs : List V), v = .ref a ∧ SqL K H a (x :: xs) ∧ xs.length ≤ 16000 ∧ ∀ D, H D = none → t [x, .ref D] σ (upd H D (.lst xs)) Q
theorem unpack_starE {prog : Program} {w : World} {A : Around} {E : Value → Shared → Prop} {s : Shared} {l : Addr} {items : Array Value} {Q : List Value → Shared → Prop} (hl : s.heap.IsList l items) (hh : A.handled = none) (h0 : 1 ≤ items.size) (hz : items.size ≤ 16384)
    (h : ∀ (h₂ : Heap) (tk : Nat), (∀ b o, s.heap.get? b = some o → h₂.get? b = some o) → Q (items.toList.take 1 ++ [.ref h₂.objs.size]) { s with heap := h₂.push { cls := .type "list", data := .seq (items.toList.drop 1).toArray 0 }, toks := tk }) : wpAny (model prog w) A (unpackItems (.ref l) 2 (some 1)) Q E s := by
  have hlt : l ≠ s.heap.objs.size := by obtain ⟨o, ho, _⟩ := hl; exact Nat.ne_of_lt (Heap.lt_size ho)
  unfold unpackItems
  refine wpAny_bind ?_
  unfold notIterableAtAll
  refine wpAny_bind (wpAny_specialOf hl.typeIs slot_list_iter.lookup ?_)
  refine wpAny_pure ?_
  simp only [Bool.false_eq_true, if_false]
  refine wpAny_bind (wpAny_holding (wpAny_pyIter_list hl ?_))
  refine wpAny_bind (wpAny_holding (PySem.W.kun_draw hlt 1 0 _ _ ⟨_, Heap.get?_push_size _ rfl, rfl, rfl⟩ (hl.push _) (by omega) fun h₁ hit₁ hs₁ => ?_))
  have hl₁ : h₁.IsList l items := (hl.push _).extBut hs₁.extBut hlt
  have hit₁' := hit₁
  obtain ⟨oi, hoi, _⟩ := hit₁'
  have hl₁' := hl₁
  obtain ⟨ol, hol, _⟩ := hl₁'
  rw [List.drop_zero]
  have hfl : (items.toList.take 1).length = 1 := by rw [List.length_take, Array.length_toList]; omega
  rw [if_neg (show ¬ ((items.toList.take 1).length < 1) by rw [hfl]; omega)]
  refine wpAny_bind (wpAny_holding (PySem.W.kun_collect (s := { s with heap := h₁ }) (T := "list_iterator") (.inr (.inr (.inl rfl))) (Walks.list (A := A.in1) hh s.heap.objs.size l hlt items) (fun j u st => st.1.typeIs) (k := 1) (by omega) ⟨hit₁, hl₁⟩ (Heap.lt_size hoi) (Heap.lt_size hol) (fun h₂ tk hk => ?_) (by rw [sizeLine_eq]; omega)))
  have hrl : (items.toList.drop 1).length = items.size - 1 := by rw [List.length_drop, Array.length_toList]
  show wpAny _ _ (if (items.toList.drop 1).length < 2 - 1 - 1 then _ else _) _ _ _
  rw [if_neg (by omega)]
  show wpAny _ _ (newList ((items.toList.drop 1).take ((items.toList.drop 1).length - (2 - 1 - 1))) >>= fun d => pure (items.toList.take 1 ++ [d] ++ (items.toList.drop 1).drop ((items.toList.drop 1).length - (2 - 1 - 1)))) _ _ _
  rw [show (2 - 1 - 1 : Nat) = 0 from rfl, Nat.sub_zero, List.take_length, List.drop_length]
  have he : ∀ b o, s.heap.get? b = some o → h₂.get? b = some o := fun b o e => hk b o (Nat.ne_of_lt (Heap.lt_size e)) (hs₁.extBut b o (Nat.ne_of_lt (Heap.lt_size e)) (Heap.get?_push_of_some _ e))
  refine wpAny_bind ?_
  unfold newList
  refine wpAny_newObj_type (wpAny_pure ?_) (by show (items.toList.drop 1).toArray.size ≤ sizeLine; rw [List.size_toArray, List.length_drop, sizeLine_eq, Array.length_toList]; omega)
  rw [List.append_nil]
  exact h h₂ tk he
theorem pg_starE {es : List Expr} {k : Nat} {pos : Pos} {t : TGs} (hc : X.calm = true) (h : PGs X es t)
    (hn : (assignEach es X.env).length = 2 := by rfl) (hst : (assignEach es X.env).findIdx? (·.1) = some 1 := by rfl) : PG X (.Tuple es k pos) (gStarE X.K t) := by
  refine ⟨fun pins s σ H v u Q I r hw => ?_⟩
  obtain ⟨a, x, xs, e1, hq, hz, hw⟩ := hw
  subst e1
  cases r
  obtain ⟨its, rv, pl, hzz⟩ := I.list hq
  have hlen := rv.length
  rw [List.length_cons] at hlen
  rw [PyProof.Rows.assign_Tuple]
  refine wpAny_bind (wpAny_standAt ?_)
  unfold unpack
  rw [hn, hst]
  refine wpAny_bind (wpAny_holding (unpack_starE pl.isList (I.ok.hd hc) (by rw [List.size_toArray]; omega) (by rw [List.size_toArray]; omega) fun h' tk hx => ?_))
  have rt := rv.take 1
  have rd := rv.drop 1
  have I0 : Inv X pins σ H { s with heap := h', toks := tk } := I.kept (t' := tk) hx
  have I1 : Inv X pins σ (upd H h'.objs.size (.lst xs)) { s with heap := h'.push { cls := .type "list", data := .seq (its.drop 1).toArray 0 }, toks := tk } := I0.laid (t' := tk) (o := .lst xs) (fun b u e => Heap.get?_push_of_some _ e) (Nat.le_refl _) ⟨by show xs.length ≤ sizeLine; rw [sizeLine_eq]; omega, _, 0, rd, Heap.get?_push_size _ rfl⟩
  exact h.run pins _ σ _ _ _ Q I1 (rt.append (.cons (show RelV (.ref h'.objs.size) (.ref h'.objs.size) from rfl) .nil)) (hw _ (I0.hok.fresh (Nat.le_refl _)))
end
/-! ### f(e, ..) of a local name, f one of several defs -/
section
variable {X : Cx} {k i : Nat} {x : Str} {e : Expr} {es : List Expr} {p pos : Pos} {t : TA}
def tCallP (i : Nat) (S : Addr → Sp → Prop) (t : TA) : TE := fun σ H Q => ∃ f sp, σ[i]? = some (some (.ref f)) ∧ S f sp ∧ t σ H fun vs H1 => sp vs H1 Q (fun _ _ _ => False)
theorem pe_callP {S : Addr → Sp → Prop} (A : ∀ f sp, S f sp → Held X.prog X.w X.K X.mg X.base k f sp) (hr : Room k X.A) (hN : X.N[i]? = some x) (hv : Vis X.env.scope x) (ha : PA X (e :: es) t)
    (hdb : (x == ("__debug__" : Str)) = false := by decide) (hcd : (x == ("__classdict__" : Str)) = false := by decide)
    (he : starEach (e :: es) X.env = (false, eval e X.env) :: starEach es X.env := by rfl) (hpl : (backTo pos (starEach es X.env)).any (·.1) = false := by rfl) : PE X (.Call (.Name x p) (e :: es) [] pos) (tCallP i S t) := by
  refine ⟨fun pins s σ H Q I h => ?_⟩
  obtain ⟨f, sp, hs, hS, ht⟩ := h
  obtain ⟨fd, ps, F, hk, hb⟩ := (A f sp hS).ex
  refine (pe_callL (i := i) (f := f) (sp := sp) (dvs := []) (E := fun _ _ _ => False) F hr hN hv hk hb .nil (fun _ _ _ _ _ _ _ z => z.elim) ha hdb hcd he hpl).run pins s σ H Q I ⟨hs, ?_⟩
  have e0 : (fun (vs : List V) (H1 : Hp) => sp (vs ++ []) H1 Q (fun _ _ _ => False)) = fun vs H1 => sp vs H1 Q (fun _ _ _ => False) := by
    funext vs H1
    rw [List.append_nil]
  show t σ H (fun vs H1 => sp (vs ++ []) H1 Q (fun _ _ _ => False))
  rw [e0]
  exact ht
end
theorem takes00 {X : Cx} : Takes X (fun _ _ _ _ => False) := fun _ _ ⟨_, _, _, _, _, _, _, _, _, _, _, _, _, _, _, _, z⟩ => z.elim
def pkz {α : Type} : α → List α → Nat → α
  | a, _, 0 => a
  | a, _, 1 => a
  | a, [], _ => a
  | _, b :: xs, n + 2 => pkz b xs (n + 1)
theorem val0 (t : Tok) : Vals [V.int 0] [Value.int 0 t] := .cons ⟨_, rfl⟩ .nil
/-! ### keyword-only parameters -/
theorem kbn_of {K : PySem.W.Frag} {x qual : Str} {st : Stmt} {D : Addr} {an : Option Addr} {doc pm cdv ct : Value} {ps ks : List Str} {n : Nat} {ml : List (Str × Value)} {g : List Value → List Value → List Value} {gV : List V → List V → List V} (hml : ∀ q ∈ ml, PySem.W.nsIn K D q.1 = some (some q.2))
    (h : ∀ us ws : List Value, us.length = n → ws.length = ks.length → KwChain D ml (bindArgs (PySem.W.fnOf x qual (defArgs st) (defBody st) (defScope st) .none (.ref D) doc pm an cdv ct) ⟨us, ks.zip ws⟩) (ps.zip (g us ws)))
    (rel : ∀ {vs : List V} {us : List Value} {zs : List V} {ws : List Value}, vs.length = n → zs.length = ks.length → Vals vs us → Vals zs ws → Vals (gV vs zs) (g us ws)) :
    ∀ (s : Shared) (us ws : List Value), K.In s.heap → us.length = n → ws.length = ks.length → BindsTo s (PySem.W.fnOf x qual (defArgs st) (defBody st) (defScope st) .none (.ref D) doc pm an cdv ct) ⟨us, ks.zip ws⟩ (ps.zip (g us ws)) :=
  fun s us ws X l1 l2 => BindsTo.of_looks fun M => KwChain.looks X hml (h us ws l1 l2)
theorem bnd_of {K : PySem.W.Frag} {x qual : Str} {st : Stmt} {D : Addr} {an : Option Addr} {doc pm cdv ct : Value} {ps : List Str} {ml : List (Str × Value)} {ds : List Value} (hml : ∀ q ∈ ml, PySem.W.nsIn K D q.1 = some (some q.2))
    (h : ∀ us : List Value, us.length + ds.length = ps.length → KwChain D ml (bindArgs (PySem.W.fnOf x qual (defArgs st) (defBody st) (defScope st) .none (.ref D) doc pm an cdv ct) ⟨us, []⟩) (ps.zip (us ++ ds))) :
    Binds K (PySem.W.fnOf x qual (defArgs st) (defBody st) (defScope st) .none (.ref D) doc pm an cdv ct) ps ds := fun s us X hl => by
  rw [List.length_append] at hl
  exact BindsTo.of_looks fun M => KwChain.looks X hml (h us hl)
/-! ### a def whose defaults aren't asked for -/
structure FunA (K : PySem.W.Frag) (x qual : Str) (st : Stmt) (f : Addr) (fd : FuncData) : Prop where
  ex : ∃ (oc : Value) (od : Option Addr) (dV kV doc pm : Value) (an : Option Addr) (cdv ct : Value) (osl : Array (Option Value)),
    fd = PySem.W.fnOf x qual (defArgs st) (defBody st) (defScope st) dV kV doc pm an cdv ct ∧ K.lookup f = some ⟨oc, od, .func fd, osl⟩ ∧ PySem.W.codeIn K cdv qual = true
  kp : PySem.W.keepIn K (.ref f) = true
theorem FunA.ok {P : Program} {w : World} {K : PySem.W.Frag} {mg : Str → Option Value} {base : Heap} {x qual : Str} {st : Stmt} {f : Addr} {fd : FuncData} {N ps : List Str} {k : Nat} {sp : Sp} (F : FunA K x qual st f fd) (S : FnScope N ps (defScope st)) (len : ∀ vs H Q E, sp vs H Q E → vs.length = ps.length)
    (hbody : ∀ (cdv : Value) (A : Around) (outer : List Env) (s : Shared) (H : Hp) (vs : List V) (Q : VK) (E : XK), Room k (A.deeper (envOfC qual (defScope st) s.heap.objs.size f cdv)) → sp vs H Q E →
      ∃ t, PSs (cxOf CX0 P w K mg base N qual (defScope st) f cdv A outer s H E).nox (defBody st) t ∧ t { nx := fun _ H' => Q .non H', rt := Q } (start N vs) H) : FnOk P w K mg base CX0 (k + 1) f fd ps sp := by
  obtain ⟨oc, od, dV, kV, doc, pm, an, cdv, ct, osl, rfl, lk, hcd⟩ := F.ex
  refine fn_of lk hcd S len fun A outer s H vs Q E hr hsp => ?_
  obtain ⟨t, h, q⟩ := hbody cdv A outer s H vs Q E hr hsp
  exact ⟨t, h.nox, q⟩
theorem bindsA {K : PySem.W.Frag} {x qual : Str} {st : Stmt} {f T : Addr} {oc oT vT : Value} {od an dT : Option Addr} {osl sT : Array (Option Value)} {kV doc pm cdv ct : Value} {nT : Nat} {ps : List Str} (l : K.lookup f = some ⟨oc, od, .func (PySem.W.fnOf x qual (defArgs st) (defBody st) (defScope st) (.ref T) kV doc pm an cdv ct), osl⟩)
    (lT : K.lookup T = some ⟨oT, dT, .seq #[vT] nT, sT⟩)
    (h : ∀ (kV doc pm : Value) (an : Option Addr) (cdv ct : Value) (us : List Value), us.length = ps.length → ∃ k, bindArgs (PySem.W.fnOf x qual (defArgs st) (defBody st) (defScope st) (.ref T) kV doc pm an cdv ct) ⟨us, []⟩ = seqItems? (.ref T) >>= k ∧ k (some #[vT]) = pure (ps.zip us)) : Binds K (PySem.W.fnOf x qual (defArgs st) (defBody st) (defScope st) (.ref T) kV doc pm an cdv ct) ps [] := by
  intro s us X hl
  rw [List.append_nil] at hl ⊢
  obtain ⟨k, e1, e2⟩ := h kV doc pm an cdv ct us hl
  refine BindsTo.of_looks fun M => ?_
  rw [e1]
  exact looks_items X lT rfl (.of_pure e2)
theorem bindsAD {K : PySem.W.Frag} {x qual : Str} {st : Stmt} {f T : Addr} {oc oT vT : Value} {od an dT : Option Addr} {osl sT : Array (Option Value)} {kV doc pm cdv ct : Value} {nT : Nat} {ps : List Str} (l : K.lookup f = some ⟨oc, od, .func (PySem.W.fnOf x qual (defArgs st) (defBody st) (defScope st) (.ref T) kV doc pm an cdv ct), osl⟩)
    (lT : K.lookup T = some ⟨oT, dT, .seq #[vT] nT, sT⟩)
    (h : ∀ (kV doc pm : Value) (an : Option Addr) (cdv ct : Value) (us : List Value), us.length + 1 = ps.length → ∃ k, bindArgs (PySem.W.fnOf x qual (defArgs st) (defBody st) (defScope st) (.ref T) kV doc pm an cdv ct) ⟨us, []⟩ = seqItems? (.ref T) >>= k ∧ k (some #[vT]) = pure (ps.zip (us ++ [vT]))) : Binds K (PySem.W.fnOf x qual (defArgs st) (defBody st) (defScope st) (.ref T) kV doc pm an cdv ct) ps [vT] := by
  intro s us X hl
  rw [List.length_append] at hl
  obtain ⟨k, e1, e2⟩ := h kV doc pm an cdv ct us hl
  refine BindsTo.of_looks fun M => ?_
  rw [e1]
  exact looks_items X lT rfl (.of_pure e2)
theorem kbindsA {x1 : Str} {K : PySem.W.Frag} {x qual : Str} {st : Stmt} {f T : Addr} {oc oT vT : Value} {od an dT : Option Addr} {osl sT : Array (Option Value)} {kV doc pm cdv ct : Value} {nT : Nat} {ps : List Str} (l : K.lookup f = some ⟨oc, od, .func (PySem.W.fnOf x qual (defArgs st) (defBody st) (defScope st) (.ref T) kV doc pm an cdv ct), osl⟩)
    (lT : K.lookup T = some ⟨oT, dT, .seq #[vT] nT, sT⟩)
    (h : ∀ (kV doc pm : Value) (an : Option Addr) (cdv ct u w : Value), ∃ k, bindArgs (PySem.W.fnOf x qual (defArgs st) (defBody st) (defScope st) (.ref T) kV doc pm an cdv ct) ⟨[u], [(x1, w)]⟩ = seqItems? (.ref T) >>= k ∧ k (some #[vT]) = pure (ps.zip [u, w])) : KBn K (PySem.W.fnOf x qual (defArgs st) (defBody st) (defScope st) (.ref T) kV doc pm an cdv ct) ps 1 [x1] (fun us ws => us ++ ws) (fun us ws => us ++ ws) := by
  refine ⟨fun s us ws X l1 l2 => ?_, fun r1 r2 => r1.append r2⟩
  match us, ws, l1, l2 with
  | [u], [w], _, _ =>
    obtain ⟨k, e1, e2⟩ := h kV doc pm an cdv ct u w
    refine BindsTo.of_looks fun M => ?_
    show PySem.W.Looks M s.heap (bindArgs (PySem.W.fnOf x qual (defArgs st) (defBody st) (defScope st) (.ref T) kV doc pm an cdv ct) ⟨[u], [(x1, w)]⟩) (ps.zip [u, w])
    rw [e1]
    exact looks_items X lT rfl (.of_pure e2)
theorem funA_mk {K : PySem.W.Frag} {x qual : Str} {st : Stmt} {f : Addr} {oc : Value} {od an : Option Addr} {osl : Array (Option Value)} {dV kV doc pm cdv ct : Value} (l : K.lookup f = some ⟨oc, od, .func (PySem.W.fnOf x qual (defArgs st) (defBody st) (defScope st) dV kV doc pm an cdv ct), osl⟩)
    (c : PySem.W.codeIn K cdv qual = true) (k : PySem.W.keepIn K (.ref f) = true) : FunA K x qual st f (PySem.W.fnOf x qual (defArgs st) (defBody st) (defScope st) dV kV doc pm an cdv ct) := ⟨⟨oc, od, dV, kV, doc, pm, an, cdv, ct, osl, rfl, l, c⟩, k⟩
def STL : List Str := ["read", "first", "second", "last"]
def rdKV (tr : Nat → Addr) : List (Str × V) := [("put", .ref (tr 0)), ("add", .ref (tr 1)), ("take", .ref (tr 2)), ("times", .ref (tr 3)), ("over", .ref (tr 4)), ("join", .ref (tr 5)), ("empty", .ref (tr 6)), ("cell", .ref (tr 7)), ("whole", .ref (tr 8)), ("flags", .ref (tr 9)), ("inside", .ref (tr 10)), ("ticks", .ref (tr 11)), ("again", .ref (tr 12))]
def rdV (za : Nat → Addr) : Nat → List V
  | 0 => [.ref (za 5), .ref (za 6)]
  | 1 | 2 | 3 | 4 => [.ref (za 5), .ref (za 5), .ref (za 5), .ref (za 7)]
  | 5 => [.ref (za 5), .ref (za 5), .ref (za 5), .ref (za 5), .ref (za 7)]
  | 6 | 12 => [.ref (za 8)]
  | 7 | 8 => [.ref (za 5)]
  | _ => []
section
variable {P : Program} {w : World} {K : PySem.W.Frag} {mg : Str → Option Value} {base : Heap}
theorem cutG {Cd A : Int → Int → Hp → Prop} {B : Prop} (h1 : ∀ n p H, Cd n p H → A n p H) (h2 : (∀ n p H, Cd n p H → A n p H) → B) : B := h2 h1
theorem cutA {Cd A : Addr → Hp → Prop} {B : Prop} (h1 : ∀ a H, Cd a H → A a H) (h2 : (∀ a H, Cd a H → A a H) → B) : B := h2 h1
theorem cutH {H : Hp} {A : Hp → Prop} {B : Prop} (h1 : ∀ H', Same H H' → A H') (h2 : (∀ H', Same H H' → A H') → B) : B := h2 h1
theorem cutP {A B : Prop} (h1 : A) (h2 : A → B) : B := h2 h1
theorem gB {i : Nat} {v u : Bool} {σ : L2.St} {H : Hp} {D : L2.St → Hp → Prop} (e : v = u) (h : gName i (V.bl u) σ H D) : gName i (V.bl v) σ H D := e ▸ h
theorem gI {i : Nat} {v u : Int} {σ : L2.St} {H : Hp} {D : L2.St → Hp → Prop} (e : v = u) (h : gName i (V.int u) σ H D) : gName i (V.int v) σ H D := e ▸ h
theorem dvi (a b : Int) : decide (V.int a = V.int b) = decide (a = b) := by
  by_cases c : a = b
  · rw [decide_eq_true c, decide_eq_true (congrArg V.int c)]
  · rw [decide_eq_false c, decide_eq_false (fun z => c (V.int.inj z))]
theorem dvs (a b : Str) : decide (V.str a = V.str b) = decide (a = b) := by
  by_cases c : a = b
  · rw [decide_eq_true c, decide_eq_true (congrArg V.str c)]
  · rw [decide_eq_false c, decide_eq_false (fun z => c (V.str.inj z))]
theorem bx1 {c : Int} {H : Hp} {b : Addr} (h : BoxAt (c + 2 ^ (1 - 1)) H b) : BoxAt (c + 1) H b := h
theorem Keep.none {b p : Addr} {H H' : Hp} (k : Keep b H H') (n : p ≠ b) (h : H' p = none) : H p = none := by
  cases q : H p with
  | none => rfl
  | some o =>
    rw [k p o q n] at h
    cases h
theorem dp_ints {H : Hp} : ∀ ds : List Int, DpAll K H (ds.map V.int) (ds.map PyData.int)
  | [] => .nil
  | d :: ds => .cons (.int d) (dp_ints ds)
theorem lv_ints {n : Nat} (ds : List Int) (h : ds.length ≤ 1000) : Lv (n + 1) (.list (ds.map PyData.int)) := by
  refine ⟨by rw [List.length_map]; omega, fun d hd => ?_⟩
  obtain ⟨x, _, rfl⟩ := List.mem_map.mp hd
  cases n <;> trivial
theorem eqv_ints (ds : List Int) : PyData.eqv (.list (ds.map PyData.int)) (.list (ds.map PyData.int)) = true := PySem.SeqAt.eqv_refl _ (PySem.SeqAt.canLay_of_shaped (PySem.W.shaped_ints ds))
/-! ### the module's own WAYS -/
def WL : List Str := ["near", "cut", "up", "down"]
structure WG (K : PySem.W.Frag) (mg : Str → Option Value) (fa : Addr) : Prop where
  mgW : mg "WAYS" = some (.ref fa)
  sq : ∀ H, SqT K H fa (WL.map V.str)
/-! ### a form -/
/-- at x stands a Form of these two -/
def FAt (C : Addr) (H : Hp) (x : Addr) (sc tl : Nat) : Prop := ∃ dx, H x = some (.ins C dx [("scale", .int (sc : Int)), ("tail", .int (tl : Int))]) ∧ 2 ≤ sc ∧ sc ≤ 8 ∧ 1 ≤ tl ∧ tl ≤ 24
theorem FAt.keep {C : Addr} {b : Addr} {H H' : Hp} {x : Addr} {sc tl : Nat} (h : FAt C H x sc tl) (k : Keep b H H') (n : x ≠ b) : FAt C H' x sc tl := by
  obtain ⟨dx, e, r⟩ := h
  exact ⟨dx, k _ _ e n, r⟩
theorem FAt.same {C : Addr} {H H' : Hp} {x : Addr} {sc tl : Nat} (h : FAt C H x sc tl) (s : Same H H') : FAt C H' x sc tl := by
  obtain ⟨dx, e, r⟩ := h
  exact ⟨dx, s _ _ e, r⟩
structure FT (K : PySem.W.Frag) (mg : Str → Option Value) (C : Addr) : Prop where
  cl : Cls K C
  ns : NoAttr K C "scale"
  nt : NoAttr K C "tail"
  mgC : mg "Form" = some (.ref C)
theorem fl_s (a b : V) : List.lookup ("scale" : Str) ([("scale", a), ("tail", b)] : List (Str × V)) = some a := rfl
theorem fl_t (a b : V) : List.lookup ("tail" : Str) ([("scale", a), ("tail", b)] : List (Str × V)) = some b := rfl
/-- Form(scale, tail) makes one -/
theorem made {C : Addr} {H : Hp} {x dx : Addr} (nx : H x = none) (nd : H dx = none) (ne : dx ≠ x) {H' : Hp} (k : ∀ p o, (upd (upd H dx (.own x)) x (.ins C dx [])) p = some o → p ≠ x → H' p = some o) : Same H H' := fun p o e =>
  k p o (by rw [upd_ne (ne_of_none e nx), upd_ne (ne_of_none e nd)]; exact e) (ne_of_none e nx)
structure LL (K : PySem.W.Frag) (mg : Str → Option Value) (C : Addr) (za : Nat → Addr) (zl : Nat → FuncData) (t28 : Tok) (fW : Addr) (DR : Addr) (tr : Nat → Addr) (w : World) (E_BadText I_BadText E_BadRow I_BadRow : Addr) : Prop where
  F_is_number : Fun K "is_number" "is_number" s_is_number (za 1) (zl 1)
  m_is_number : mg "is_number" = some (.ref (za 1))
  b_is_number : Binds K (zl 1) ["thing"] []
  F_is_number_in : Fun K "is_number_in" "is_number_in" s_is_number_in (za 2) (zl 2)
  m_is_number_in : mg "is_number_in" = some (.ref (za 2))
  b_is_number_in : Binds K (zl 2) ["least", "greatest", "thing"] []
  F_is_text_of : Fun K "is_text_of" "is_text_of" s_is_text_of (za 3) (zl 3)
  m_is_text_of : mg "is_text_of" = some (.ref (za 3))
  b_is_text_of : Binds K (zl 3) ["signs", "many", "thing"] []
  F_word_in : Fun K "word_in" "word_in" s_word_in (za 4) (zl 4)
  m_word_in : mg "word_in" = some (.ref (za 4))
  b_word_in : Binds K (zl 4) ["form", "text"] []
  F_cell_in : Fun K "cell_in" "cell_in" s_cell_in (za 5) (zl 5)
  m_cell_in : mg "cell_in" = some (.ref (za 5))
  b_cell_in : Binds K (zl 5) ["form", "text"] []
  F_bits_in : Fun K "bits_in" "bits_in" s_bits_in (za 6) (zl 6)
  m_bits_in : mg "bits_in" = some (.ref (za 6))
  b_bits_in : Binds K (zl 6) ["form", "text"] []
  F_way_in : Fun K "way_in" "way_in" s_way_in (za 7) (zl 7)
  m_way_in : mg "way_in" = some (.ref (za 7))
  b_way_in : Binds K (zl 7) ["form", "text"] []
  F_number_in : Fun K "number_in" "number_in" s_number_in (za 8) (zl 8)
  m_number_in : mg "number_in" = some (.ref (za 8))
  b_number_in : Binds K (zl 8) ["form", "text"] []
  F_row_in : Fun K "row_in" "row_in" s_row_in (za 9) (zl 9)
  m_row_in : mg "row_in" = some (.ref (za 9))
  b_row_in : Binds K (zl 9) ["form", "text"] []
  F_words_in : Fun K "words_in" "words_in" s_words_in (za 10) (zl 10)
  m_words_in : mg "words_in" = some (.ref (za 10))
  b_words_in : Binds K (zl 10) ["form", "name", "words"] []
  F_tick_in : Fun K "tick_in" "tick_in" s_tick_in (za 11) (zl 11)
  m_tick_in : mg "tick_in" = some (.ref (za 11))
  b_tick_in : Binds K (zl 11) ["form", "words"] []
  F_stages_in : Fun K "stages_in" "stages_in" s_stages_in (za 12) (zl 12)
  m_stages_in : mg "stages_in" = some (.ref (za 12))
  b_stages_in : Binds K (zl 12) ["words"] []
  F__law_box : Fun K "_law_box" "_law_box" sBox (za 13) (zl 13)
  m__law_box : mg "_law_box" = some (.ref (za 13))
  b__law_box : Binds K (zl 13) ["_law_script", "_law_k"] []
  F__law_take : Fun K "_law_take" "_law_take" sTake (za 14) (zl 14)
  m__law_take : mg "_law_take" = some (.ref (za 14))
  b__law_take : Binds K (zl 14) ["_law_box_here", "_law_size"] []
  F__law_folded : Fun K "_law_folded" "_law_folded" sFolded (za 15) (zl 15)
  m__law_folded : mg "_law_folded" = some (.ref (za 15))
  b__law_folded : Binds K (zl 15) ["_law_script", "_law_size"] []
  F__law_same : Fun K "_law_same" "_law_same" sSame (za 16) (zl 16)
  m__law_same : mg "_law_same" = some (.ref (za 16))
  b__law_same : Binds K (zl 16) ["_law_found", "_law_due"] []
  F__law_form : Fun K "_law_form" "_law_form" s__law_form (za 17) (zl 17)
  m__law_form : mg "_law_form" = some (.ref (za 17))
  b__law_form : Binds K (zl 17) ["_law_box_here"] []
  F__law_word : Fun K "_law_word" "_law_word" s__law_word (za 18) (zl 18)
  m__law_word : mg "_law_word" = some (.ref (za 18))
  b__law_word : Binds K (zl 18) ["_law_box_here", "_law_scale", "_law_tail"] []
  F__law_bits : Fun K "_law_bits" "_law_bits" s__law_bits (za 19) (zl 19)
  m__law_bits : mg "_law_bits" = some (.ref (za 19))
  b__law_bits : Binds K (zl 19) ["_law_word_here", "_law_many"] []
  F__law_held : Fun K "_law_held" "_law_held" s__law_held (za 20) (zl 20)
  m__law_held : mg "_law_held" = some (.ref (za 20))
  b__law_held : Binds K (zl 20) ["_law_box_here"] []
  F__law_case : Fun K "_law_case" "_law_case" s__law_case (za 21) (zl 21)
  m__law_case : mg "_law_case" = some (.ref (za 21))
  b__law_case : Binds K (zl 21) ["_law_box_here", "_law_scale", "_law_tail"] []
  F__law_refused : Fun K "_law_refused" "_law_refused" s__law_refused (za 22) (zl 22)
  m__law_refused : mg "_law_refused" = some (.ref (za 22))
  b__law_refused : Binds K (zl 22) ["_law_form_here", "_law_row"] []
  F__law_right : Fun K "_law_right" "_law_right" s__law_right (za 23) (zl 23)
  m__law_right : mg "_law_right" = some (.ref (za 23))
  b__law_right : Binds K (zl 23) ["_law_box_here"] []
  T : FT K mg C
  M : Mk K C (za 24)
  F_Form___init__ : Fun K "__init__" "Form.__init__" s_Form___init__ (za 24) (zl 24)
  b_Form___init__ : Binds K (zl 24) ["self", "scale", "tail"] []
  F_Form_top : Fun K "top" "Form.top" s_Form_top (za 25) (zl 25)
  b_Form_top : Binds K (zl 25) ["self"] []
  M_Form_top : Meth K C "top" (za 25)
  F_Form_parts : Fun K "parts" "Form.parts" s_Form_parts (za 26) (zl 26)
  b_Form_parts : Binds K (zl 26) ["self", "word"] []
  M_Form_parts : Meth K C "parts" (za 26)
  F_Form_word_of : Fun K "word_of" "Form.word_of" s_Form_word_of (za 27) (zl 27)
  b_Form_word_of : Binds K (zl 27) ["self", "sign", "scale", "tail"] []
  M_Form_word_of : Meth K C "word_of" (za 27)
  F_Form_greatest : FunA K "greatest" "Form.greatest" s_Form_greatest (za 28) (zl 28)
  b_Form_greatest : Binds K (zl 28) ["self", "sign"] []
  M_Form_greatest : Meth K C "greatest" (za 28)
  d_Form_greatest : Binds K (zl 28) ["self", "sign"] [.int 0 t28]
  z_set : mg "set" = none
  W : WG K mg fW
  g_MOST : ∃ t, mg "MOST" = some (.int 900 t)
  g_STAGES : ∃ a, mg "STAGES" = some (.ref a) ∧ ∀ H, SqT K H a (STL.map V.str)
  g_READERS : mg "READERS" = some (.ref DR)
  d_READERS : KDcts w K DR (rdKV tr)
  s_R : ∀ H i, i < 13 → SqT K H (tr i) (rdV za i)
  g_BadText : mg "BadText" = some (.ref E_BadText)
  R_BadText : PySem.WhX.ErrR K E_BadText I_BadText
  x_BadText : PySem.W.exmOne K (.ref E_BadText) (.ref E_BadText) = some true
  g_BadRow : mg "BadRow" = some (.ref E_BadRow)
  R_BadRow : PySem.WhX.ErrR K E_BadRow I_BadRow
  x_BadRow : PySem.W.exmOne K (.ref E_BadRow) (.ref E_BadRow) = some true
variable {C : Addr} {za : Nat → Addr} {zl : Nat → FuncData} {t28 : Tok} {fW : Addr} {DR : Addr} {tr : Nat → Addr} {E_BadText I_BadText E_BadRow I_BadRow : Addr}

/-! ### is_number, is_number_in -/
inductive Th (K : PySem.W.Frag) (H : Hp) : V → Prop
  | non : Th K H .non
  | bl (b : Bool) : Th K H (.bl b)
  | int (i : Int) : Th K H (.int i)
  | str (x : Str) : Th K H (.str x)
def isI : V → Bool
  | .int _ => true
  | _ => false
def numIn (a b : Int) : V → Bool
  | .int z => decide (a ≤ z) && decide (z ≤ b)
  | _ => false
def spNum (K : PySem.W.Frag) : Sp := fun vs H Q _ => ∃ x : V, vs = [x] ∧ Th K H x ∧ Q (.bl (isI x)) H
theorem ok_is_number (B : Bl mg) (L : LL K mg C za zl t28 fW DR tr w E_BadText I_BadText E_BadRow I_BadRow) : FnOk P w K mg base CX0 1 (za 1) (zl 1) ["thing"] (spNum K) := by
  refine L.F_is_number.ok sc_is_number (fun vs H Q E h => ?_) (fun cdv A outer s H vs Q E hr h => ?_)
  · obtain ⟨x, rfl, _⟩ := h
    rfl
  obtain ⟨x, rfl, hx, q⟩ := h
  refine ⟨_, (pss_one (ps_ret (pe_and (pe_callB call_isi (by rfl) B.isinstance boot_isinstance (pa_cons (pv 0) (pa_cons (pe_bltn (v := .ty "int") (by rfl) B.int PyProof.Rows.boot_int rfl) pa_nil))) (pe_one (pe_not (pe_callB call_isi (by rfl) B.isinstance boot_isinstance (pa_cons (pv 0) (pa_cons (pe_bltn (v := .ty "bool") (by rfl) B.bool PyProof.Rows.boot_bool rfl) pa_nil)))))))), ?_⟩
  cases hx with
  | non => exact ⟨_, rfl, _, _, _, _, _, rfl, .ty _, .base .non, kit_ty (by decide +kernel : kitB "NoneType" "int" = some false), _, rfl, iteF q⟩
  | bl b =>
    refine ⟨_, rfl, _, _, _, _, _, rfl, .ty _, .base (.bl _), kit_ty (by decide +kernel : kitB "bool" "int" = some true), _, rfl, iteT ?_⟩
    exact ⟨_, rfl, _, _, _, _, _, rfl, .ty _, .base (.bl _), kit_ty (by decide +kernel : kitB "bool" "bool" = some true), _, rfl, q⟩
  | int i =>
    refine ⟨_, rfl, _, _, _, _, _, rfl, .ty _, .base (.int _), kit_ty (by decide +kernel : kitB "int" "int" = some true), _, rfl, iteT ?_⟩
    exact ⟨_, rfl, _, _, _, _, _, rfl, .ty _, .base (.int _), kit_ty (by decide +kernel : kitB "int" "bool" = some false), _, rfl, q⟩
  | str z => exact ⟨_, rfl, _, _, _, _, _, rfl, .ty _, .base (.str _), kit_ty (by decide +kernel : kitB "str" "int" = some false), _, rfl, iteF q⟩
def spNumIn (K : PySem.W.Frag) : Sp := fun vs H Q _ => ∃ (a b : Int) (x : V), vs = [.int a, .int b, x] ∧ Th K H x ∧ Q (.bl (numIn a b x)) H
theorem ok_is_number_in (B : Bl mg) (L : LL K mg C za zl t28 fW DR tr w E_BadText I_BadText E_BadRow I_BadRow) : FnOk P w K mg base CX0 2 (za 2) (zl 2) ["least", "greatest", "thing"] (spNumIn K) := by
  have G_is_number : FnOk P w K mg base CX0 1 (za 1) (zl 1) ["thing"] (spNum K) := (ok_is_number B L).mono (by decide)
  refine L.F_is_number_in.ok sc_is_number_in (fun vs H Q E h => ?_) (fun cdv A outer s H vs Q E hr h => ?_)
  · obtain ⟨a, b, x, rfl, _⟩ := h
    rfl
  obtain ⟨a, b, x, rfl, hx, q⟩ := h
  refine ⟨_, (pss_one (ps_ret (pe_and (pe_call G_is_number hr (by rfl) L.m_is_number L.F_is_number.kp L.b_is_number .nil pass0 (pa_cons (pv 2) pa_nil)) (pe_one (pe_chain op_le op_le (pv 0) (pv 2) (pv 1)))))), ?_⟩
  refine ⟨_, rfl, _, rfl, hx, _, rfl, ?_⟩
  cases hx with
  | non => exact iteF q
  | bl b => exact iteF q
  | str z => exact iteF q
  | int z =>
    refine iteT ?_
    refine ⟨_, rfl, _, rfl, _, _, rfl, rfl, _, rfl, ite2 (fun c => ?_) (fun c => ?_)⟩
    · refine ⟨_, rfl, _, _, rfl, rfl, ?_⟩
      rw [show numIn a b (.int z) = decide (z ≤ b) by show (decide (a ≤ z) && decide (z ≤ b)) = _; rw [c]; rfl] at q
      exact q
    · rw [show numIn a b (.int z) = false by show (decide (a ≤ z) && decide (z ≤ b)) = _; rw [Bool.eq_false_iff.mpr c]; rfl] at q
      exact q
/-! ### Form(scale, tail) and its words -/
def spInit (C : Addr) : Sp := fun vs H Q _ => ∃ (x dx : Addr) (sc tl : Nat), vs = [.ref x, .int (sc : Int), .int (tl : Int)] ∧ H x = some (.ins C dx []) ∧ 2 ≤ sc ∧ sc ≤ 8 ∧ 1 ≤ tl ∧ tl ≤ 24 ∧
  ∀ H', FAt C H' x sc tl → (∀ p o, H p = some o → p ≠ x → H' p = some o) → Q .non H'
theorem numIn_t {a b z : Int} (h1 : a ≤ z) (h2 : z ≤ b) : numIn a b (.int z) = true := by
  show (decide (a ≤ z) && decide (z ≤ b)) = true
  rw [decide_eq_true h1, decide_eq_true h2]
  rfl
theorem ok_Form___init__ (B : Bl mg) (L : LL K mg C za zl t28 fW DR tr w E_BadText I_BadText E_BadRow I_BadRow) : FnOk P w K mg base CX0 3 (za 24) (zl 24) ["self", "scale", "tail"] (spInit C) := by
  have G_is_number_in : FnOk P w K mg base CX0 2 (za 2) (zl 2) ["least", "greatest", "thing"] (spNumIn K) := (ok_is_number_in B L).mono (by decide)
  refine L.F_Form___init__.ok sc_Form___init__ (fun vs H Q E h => ?_) (fun cdv A outer s H vs Q E hr h => ?_)
  · obtain ⟨x, dx, sc, tl, rfl, _⟩ := h
    rfl
  obtain ⟨x, dx, sc, tl, rfl, hx, h1, h2, h3, h4, q⟩ := h
  refine ⟨_, (pss_cons (ps_if (pt_not (pt_val (pe_call G_is_number_in hr (by rfl) L.m_is_number_in L.F_is_number_in.kp L.b_is_number_in .nil pass0 (pa_cons pe_int (pa_cons pe_int (pa_cons (pv 1) pa_nil)))))) (pss_one ps_never) pss_nil)
    (pss_cons (ps_if (pt_not (pt_val (pe_call G_is_number_in hr (by rfl) L.m_is_number_in L.F_is_number_in.kp L.b_is_number_in .nil pass0 (pa_cons pe_int (pa_cons pe_int (pa_cons (pv 2) pa_nil)))))) (pss_one ps_never) pss_nil)
    (pss_cons (ps_fld (pv 0) (pv 1) rfl)
    (pss_one (ps_fld (pv 0) (pv 2) rfl))))), ?_⟩
  refine ⟨_, rfl, _, _, _, rfl, .int _, ?_⟩
  rw [numIn_t (by omega) (by omega)]
  refine ⟨_, rfl, iteF ?_⟩
  refine ⟨_, rfl, _, _, _, rfl, .int _, ?_⟩
  rw [numIn_t (by omega) (by omega)]
  refine ⟨_, rfl, iteF ?_⟩
  refine ⟨_, rfl, _, rfl, x, C, dx, _, rfl, hx, L.T.cl, L.T.ns, (by decide), ?_⟩
  refine ⟨_, rfl, _, rfl, x, C, dx, _, rfl, upd_same, L.T.cl, L.T.nt, (by show 1 < 1000; decide), ?_⟩
  refine q _ ⟨dx, upd_same, h1, h2, h3, h4⟩ fun p o e n => ?_
  rw [upd_ne n, upd_ne n]
  exact e
def spTop (C : Addr) : Sp := fun vs H Q _ => ∃ (x : Addr) (sc tl : Nat), vs = [.ref x] ∧ FAt C H x sc tl ∧ Q (.int (2 ^ sc - 1)) H
theorem ok_Form_top (B : Bl mg) (L : LL K mg C za zl t28 fW DR tr w E_BadText I_BadText E_BadRow I_BadRow) : FnOk P w K mg base CX0 1 (za 25) (zl 25) ["self"] (spTop C) := by
  refine L.F_Form_top.ok sc_Form_top (fun vs H Q E h => ?_) (fun cdv A outer s H vs Q E hr h => ?_)
  · obtain ⟨x, sc, tl, rfl, _⟩ := h
    rfl
  obtain ⟨x, sc, tl, rfl, ⟨dx, hx, h1, h2, h3, h4⟩, q⟩ := h
  refine ⟨_, (pss_one (ps_ret (pe_op op_sub (pe_op op_oneShl pe_int (pe_fld (pv 0) rfl)) pe_int))), ?_⟩
  exact ⟨_, rfl, x, C, dx, _, _, rfl, hx, L.T.cl, L.T.ns, fl_s _ _, sc, rfl, rfl, by omega, _, _, rfl, rfl, q⟩
end
theorem gset_if2 {i : Nat} {v : V} {σ : L2.St} {H : Hp} {c : TT} {t u r : TS} {D : Ends} (h : tIfS c t u { D with nx := r D } (σ.set i (some v)) H) : gName i v σ H ({ D with nx := tSeq (tIfS c t u) r D } : Ends).nx := h
theorem gset_if {σ : L2.St} {H : Hp} {c : TT} {t u r : TS} {D : Ends} (h : tIfS c t u { D with nx := r D } σ H) : tSeq (tIfS c t u) r D σ H := h
theorem ifS_cut {c : TT} {t u : TS} {D : Ends} {σ : L2.St} {H : Hp} (R : L2.St → Hp → Prop) (h : ∀ D' : Ends, (∀ σ' H', R σ' H' → D'.nx σ' H') → tIfS c t u D' σ H) (q : ∀ σ' H', R σ' H' → D.nx σ' H') : tIfS c t u D σ H := h D q
theorem ifS_ev {c : TT} {t u : TS} {D : Ends} {σ : L2.St} {H : Hp} (R : Bool → Hp → Prop) (h : ∀ Q : Bool → Hp → Prop, (∀ z H', R z H' → Q z H') → c σ H Q) (q1 : ∀ H', R true H' → t D σ H') (q2 : ∀ H', R false H' → u D σ H') : tIfS c t u D σ H := h _ fun z H' r => by
  cases z with
  | true => exact q1 H' r
  | false => exact q2 H' r
theorem if_ev {t : TT} {ta tb : TE} {σ : L2.St} {H : Hp} {Q : VK} (R : V → Hp → Prop) (h : ∀ Q : VK, (∀ z H', R z H' → Q z H') → tIf t ta tb σ H Q) (q : ∀ z H', R z H' → Q z H') : tIf t ta tb σ H Q := h Q q
theorem and_ev {ta tb : TE} {σ : L2.St} {H : Hp} {Q : VK} (R : V → Hp → Prop) (h : ∀ Q : VK, (∀ z H', R z H' → Q z H') → tAndV ta tb σ H Q) (q : ∀ z H', R z H' → Q z H') : tAndV ta tb σ H Q := h Q q
theorem or_ev {ta tb : TE} {σ : L2.St} {H : Hp} {Q : VK} (R : V → Hp → Prop) (h : ∀ Q : VK, (∀ z H', R z H' → Q z H') → tOrV ta tb σ H Q) (q : ∀ z H', R z H' → Q z H') : tOrV ta tb σ H Q := h Q q
theorem ifset_ev {c : TT} {e : TE} {k : Nat} {D : Ends} {σ : L2.St} {H : Hp} {old : V} (hσ : σ.set k (some old) = σ) (R : V → Hp → Prop) (h : ∀ Q : VK, (∀ z H', R z H' → Q z H') → c σ H (fun b H1 => if b = true then e σ H1 Q else Q old H1)) (q : ∀ z H', R z H' → D.nx (σ.set k (some z)) H') : tIfS c (tAsg e (gName k)) tNext D σ H := by
  have t := h (fun z H' => D.nx (σ.set k (some z)) H') q
  rw [hσ] at t
  exact t
theorem two_cut {t : TE} {g : TG} {c : TT} {a b r : TS} {D : Ends} {σ : L2.St} {H : Hp} (R : L2.St → Hp → Prop) (h : ∀ D' : Ends, (∀ σ' H', R σ' H' → D'.nx σ' H') → tSeq (tAsg t g) (tIfS c a b) D' σ H) (q : ∀ σ' H', R σ' H' → r D σ' H') : tSeq (tAsg t g) (tSeq (tIfS c a b) r) D σ H := h { D with nx := r D } q
theorem org80 {ta tb : TE} {σ : L2.St} {H : Hp} {Q : VK} {c d : Bool} (ha : ∀ Q : VK, Q (.bl c) H → ta σ H Q) (hb : ∀ Q : VK, Q (.bl d) H → tb σ H Q) (h : Q (.bl (c || d)) H) : tOrV ta tb σ H Q := by
  refine ha _ ⟨c, rfl, ?_⟩
  cases c
  · exact hb _ h
  · exact h
theorem gnext_if18 {σ : L2.St} {H : Hp} {c : TT} {t u : TS} {r : TS} {D : Ends} (h : tIfS c t u { D with nx := r D } σ H) : tNext ({ D with nx := tSeq (tIfS c t u) r D } : Ends) σ H := h
theorem ret_if18 {c : TT} {ta tb : TE} {D : Ends} {σ : L2.St} {H : Hp} (R : Bool → Hp → Prop) (h : ∀ Q : Bool → Hp → Prop, (∀ z H', R z H' → Q z H') → c σ H Q) (q1 : ∀ H', R true H' → ta σ H' D.rt) (q2 : ∀ H', R false H' → tb σ H' D.rt) : tRet (tIf c ta tb) D σ H := h _ fun z H' r => by
  cases z with
  | true => exact q1 H' r
  | false => exact q2 H' r
theorem gset_if3 {i : Nat} {v : V} {σ : L2.St} {H : Hp} {c : TT} {t u r : TS} {D : Ends} (h : tIfS c t u { D with nx := r D } (σ.set i (some v)) H) : gName i v σ H (tSeq (tIfS c t u) r D) := h
theorem asg_ev {t : TE} {i : Nat} {r : TS} {D : Ends} {σ : L2.St} {H : Hp} (R : V → Hp → Prop) (h : ∀ Q : VK, (∀ z H', R z H' → Q z H') → t σ H Q) (q : ∀ z H', R z H' → r D (σ.set i (some z)) H') : tSeq (tAsg t (gName i)) r D σ H := h _ q
section
variable {P : Program} {w : World} {K : PySem.W.Frag} {mg : Str → Option Value} {base : Heap}
variable {C : Addr} {za : Nat → Addr} {zl : Nat → FuncData} {t28 : Tok} {fW : Addr} {DR : Addr} {tr : Nat → Addr} {E_BadText I_BadText E_BadRow I_BadRow : Addr}
def spForm : Sp := fun vs H Q _ => ∃ (b : Addr) (c : Int), vs = [.ref b] ∧ BoxAt c H b ∧ c ≤ 900000000 ∧
  ∀ (p : Addr) (sc tl : Nat) (H' : Hp), H' p = some (.tup [.int (sc : Int), .int (tl : Int)]) → 2 ≤ sc → sc ≤ 8 → 1 ≤ tl → tl ≤ 24 → BoxAt (c + 5) H' b → Keep b H H' → Q (.ref p) H'
theorem ok__law_form (B : Bl mg) (L : LL K mg C za zl t28 fW DR tr w E_BadText I_BadText E_BadRow I_BadRow) : FnOk P w K mg base CX0 2 (za 17) (zl 17) ["_law_box_here"] spForm := by
  have G__law_take : FnOk P w K mg base CX0 1 (za 14) (zl 14) ["_law_box_here", "_law_size"] (spTake 1) := (ok_take L.F__law_take L.b__law_take L.m__law_take B 1).mono (by decide)
  refine L.F__law_form.ok sc__law_form (fun vs H Q E h => ?_) (fun cdv A outer s H vs Q E hr h => ?_)
  · obtain ⟨b, c, rfl, _⟩ := h
    rfl
  obtain ⟨b, c, rfl, hB, hc, q⟩ := h
  refine ⟨_, (pss_cons (ps_set (i := 1) sc__law_form.nd rfl (.inl rfl) (pe_lst (pa_cons (pe_tup (pa_cons (pe_op op_add pe_int (pe_call G__law_take hr (by rfl) L.m__law_take L.F__law_take.kp L.b__law_take .nil pass0 (pa_cons (pv 0) (pa_cons pe_int pa_nil)))) (pa_cons (pe_op op_add pe_int (pe_call G__law_take hr (by rfl) L.m__law_take L.F__law_take.kp L.b__law_take .nil pass0 (pa_cons (pv 0) (pa_cons pe_int pa_nil)))) pa_nil))) (pa_cons (pe_tup (pa_cons (pe_op op_add pe_int (pe_call G__law_take hr (by rfl) L.m__law_take L.F__law_take.kp L.b__law_take .nil pass0 (pa_cons (pv 0) (pa_cons pe_int pa_nil)))) (pa_cons (pe_op op_add pe_int (pe_call G__law_take hr (by rfl) L.m__law_take L.F__law_take.kp L.b__law_take .nil pass0 (pa_cons (pv 0) (pa_cons pe_int pa_nil)))) pa_nil))) (pa_cons (pe_tup (pa_cons pe_int (pa_cons pe_int pa_nil))) pa_nil)))))
    (pss_one (ps_ret (pe_ix ix_list (pv 1) (pe_ix ix_list (pe_lst (pa_cons pe_int (pa_cons pe_int (pa_cons pe_int (pa_cons pe_int (pa_cons pe_int (pa_cons pe_int pa_nil))))))) (pe_call G__law_take hr (by rfl) L.m__law_take L.F__law_take.kp L.b__law_take .nil pass0 (pa_cons (pv 0) (pa_cons pe_int pa_nil))) (fun _ _ => rfl)) (fun _ _ => rfl))))), ?_⟩
  refine ⟨_, rfl, b, _, _, rfl, hB, (by decide), (by decide), (by decide), (by omega), (by decide), fun r1 H1 a1 a1' B1 k1 => ?_⟩
  replace B1 := bx1 B1
  refine ⟨_, _, rfl, rfl, _, rfl, b, _, _, rfl, B1, (by decide), (by decide), (by decide), (by omega), (by decide), fun r2 H2 a2 a2' B2 k2 => ?_⟩
  replace B2 := bx1 B2
  refine ⟨_, _, rfl, rfl, (by show 2 ≤ sizeLine; decide), fun t1 n1 => ?_⟩
  have n1b : t1 ≠ b := (B2.ne n1).symm
  refine ⟨_, rfl, b, _, _, rfl, B2.same (same_upd n1), (by decide), (by decide), (by decide), (by omega), (by decide), fun r3 H3 a3 a3' B3 k3 => ?_⟩
  replace B3 := bx1 B3
  have e1 := k3 _ _ upd_same n1b
  refine ⟨_, _, rfl, rfl, _, rfl, b, _, _, rfl, B3, (by decide), (by decide), (by decide), (by omega), (by decide), fun r4 H4 a4 a4' B4 k4 => ?_⟩
  replace B4 := bx1 B4
  have e1' := k4 _ _ e1 n1b
  refine ⟨_, _, rfl, rfl, (by show 2 ≤ sizeLine; decide), fun t2 n2 => ?_⟩
  refine ⟨(by show 2 ≤ sizeLine; decide), fun t3 n3 => ?_⟩
  refine ⟨(by show 3 ≤ sizeLine; decide), fun so nso => ?_⟩
  refine ⟨_, rfl, (by show 6 ≤ sizeLine; decide), fun ix nix => ?_⟩
  have s1 := same_upd (o := .tup [.int (2 + r3), .int (1 + r4)]) n2
  have s2 := same_upd (o := .tup [.int 8, .int 23]) n3
  have s3 := same_upd (o := .lst [.ref t1, .ref t2, .ref t3]) nso
  have s4 := same_upd (o := .lst [.int 0, .int 0, .int 1, .int 1, .int 1, .int 2]) nix
  have B5 := (((B4.same s1).same s2).same s3).same s4
  have n2b : t2 ≠ b := (B4.ne n2).symm
  have n3b : t3 ≠ b := ((B4.same s1).ne n3).symm
  have nsb : so ≠ b := (((B4.same s1).same s2).ne nso).symm
  have nxb : ix ≠ b := ((((B4.same s1).same s2).same s3).ne nix).symm
  refine ⟨_, rfl, b, _, _, rfl, B5, (by decide), (by decide), (by decide), (by omega), (by decide), fun r5 H5 a5 a5' B6 k5 => ?_⟩
  replace B6 := bx1 B6
  have ex := k5 _ _ upd_same nxb
  have es := k5 _ _ (s4 _ _ upd_same) nsb
  have f1 := k5 _ _ (s4 _ _ (s3 _ _ (s2 _ _ (s1 _ _ e1')))) n1b
  have f2 := k5 _ _ (s4 _ _ (s3 _ _ (s2 _ _ upd_same))) n2b
  have f3 := k5 _ _ (s4 _ _ (s3 _ _ upd_same)) n3b
  have kk : Keep b H H5 := (((k1.trans k2).trans ((Keep.new n1).trans k3)).trans k4).trans ((Keep.ofSame (s1.trans (s2.trans (s3.trans s4)))).trans k5)
  obtain ⟨j, hj, hj3⟩ : ∃ j : Nat, atI ([.int 0, .int 0, .int 1, .int 1, .int 1, .int 2] : List V) r5 = some (.int (j : Int)) ∧ j < 3 := by
    have c3 : r5 = 0 ∨ r5 = 1 ∨ r5 = 2 ∨ r5 = 3 ∨ r5 = 4 ∨ r5 = 5 := by omega
    rcases c3 with z | z | z | z | z | z <;> subst z
    · exact ⟨0, rfl, by decide⟩
    · exact ⟨0, rfl, by decide⟩
    · exact ⟨1, rfl, by decide⟩
    · exact ⟨1, rfl, by decide⟩
    · exact ⟨1, rfl, by decide⟩
    · exact ⟨2, rfl, by decide⟩
  obtain ⟨p, sc, tl, hp, ep, b1, b2, b3, b4⟩ : ∃ (p : Addr) (sc tl : Nat), atI ([.ref t1, .ref t2, .ref t3] : List V) (j : Int) = some (.ref p) ∧ H5 p = some (.tup [.int (sc : Int), .int (tl : Int)]) ∧ 2 ≤ sc ∧ sc ≤ 8 ∧ 1 ≤ tl ∧ tl ≤ 24 := by
    match j, hj3 with
    | 0, _ => exact ⟨t1, (2 + r1).toNat, (1 + r2).toNat, rfl, by rw [Int.toNat_of_nonneg (by omega), Int.toNat_of_nonneg (by omega)]; exact f1, by omega, by omega, by omega, by omega⟩
    | 1, _ => exact ⟨t2, (2 + r3).toNat, (1 + r4).toNat, rfl, by rw [Int.toNat_of_nonneg (by omega), Int.toNat_of_nonneg (by omega)]; exact f2, by omega, by omega, by omega, by omega⟩
    | 2, _ => exact ⟨t3, 8, 23, rfl, f3, by omega, by omega, by omega, by omega⟩
  refine ⟨ix, _, _, _, rfl, rfl, SqL.of ex, hj, ?_⟩
  refine ⟨so, _, _, _, rfl, rfl, SqL.of es, hp, ?_⟩
  exact q p sc tl H5 ep b1 b2 b3 b4 (B6.mono (by omega)) kk
theorem bx2 {c : Int} {H : Hp} {b : Addr} (h : BoxAt (c + 2 ^ (2 - 1)) H b) : BoxAt (c + 2) H b := h
def spWord : Sp := fun vs H Q _ => ∃ (b : Addr) (sc tl : Nat) (c : Int), vs = [.ref b, .int (sc : Int), .int (tl : Int)] ∧ 2 ≤ sc ∧ sc ≤ 8 ∧ 1 ≤ tl ∧ tl ≤ 24 ∧ BoxAt c H b ∧ c ≤ 900000000 ∧
  ∀ (r : Int) (H' : Hp), 0 ≤ r → r < 2 ^ (1 + sc + tl) → BoxAt (c + 20) H' b → Keep b H H' → Q (.int r) H'
theorem all8 {a0 a1 a2 a3 a4 a5 a6 a7 M : Int} {j : Nat} (hj : j < 8) (h0 : a0 < M) (h1 : a1 < M) (h2 : a2 < M) (h3 : a3 < M) (h4 : a4 < M) (h5 : a5 < M) (h6 : a6 < M) (h7 : a7 < M) :
    ∃ v : Int, atI ([.int a0, .int a1, .int a2, .int a3, .int a4, .int a5, .int a6, .int a7] : List V) (j : Int) = some (.int v) ∧ v < M := by
  match j, hj with
  | 0, _ => exact ⟨a0, rfl, h0⟩
  | 1, _ => exact ⟨a1, rfl, h1⟩
  | 2, _ => exact ⟨a2, rfl, h2⟩
  | 3, _ => exact ⟨a3, rfl, h3⟩
  | 4, _ => exact ⟨a4, rfl, h4⟩
  | 5, _ => exact ⟨a5, rfl, h5⟩
  | 6, _ => exact ⟨a6, rfl, h6⟩
  | 7, _ => exact ⟨a7, rfl, h7⟩
theorem at12 {r : Int} (h0 : 0 ≤ r) (h1 : r < 12) : ∃ j : Nat, atI ([.int 0, .int 0, .int 0, .int 0, .int 1, .int 2, .int 3, .int 4, .int 5, .int 6, .int 6, .int 7] : List V) r = some (.int (j : Int)) ∧ j < 8 := by
  obtain ⟨n, rfl⟩ : ∃ n : Nat, r = (n : Int) := ⟨r.toNat, by omega⟩
  have hn : n < 12 := by omega
  match n, hn with
  | 0, _ => exact ⟨0, rfl, by decide⟩
  | 1, _ => exact ⟨0, rfl, by decide⟩
  | 2, _ => exact ⟨0, rfl, by decide⟩
  | 3, _ => exact ⟨0, rfl, by decide⟩
  | 4, _ => exact ⟨1, rfl, by decide⟩
  | 5, _ => exact ⟨2, rfl, by decide⟩
  | 6, _ => exact ⟨3, rfl, by decide⟩
  | 7, _ => exact ⟨4, rfl, by decide⟩
  | 8, _ => exact ⟨5, rfl, by decide⟩
  | 9, _ => exact ⟨6, rfl, by decide⟩
  | 10, _ => exact ⟨6, rfl, by decide⟩
  | 11, _ => exact ⟨7, rfl, by decide⟩
theorem ok__law_word (B : Bl mg) (L : LL K mg C za zl t28 fW DR tr w E_BadText I_BadText E_BadRow I_BadRow) : FnOk P w K mg base CX0 3 (za 18) (zl 18) ["_law_box_here", "_law_scale", "_law_tail"] spWord := by
  have G__law_take : FnOk P w K mg base CX0 2 (za 14) (zl 14) ["_law_box_here", "_law_size"] (spTake 2) := (ok_take L.F__law_take L.b__law_take L.m__law_take B 2).mono (by decide)
  refine L.F__law_word.ok sc__law_word (fun vs H Q E h => ?_) (fun cdv A outer s H vs Q E hr h => ?_)
  · obtain ⟨b, sc, tl, c, rfl, _⟩ := h
    rfl
  obtain ⟨b, sc, tl, c, rfl, h1, h2, h3, h4, hB, hc, q⟩ := h
  refine ⟨_, (pss_cons (ps_set (i := 3) sc__law_word.nd rfl (.inl rfl) (pe_op op_add (pe_op op_mul pe_int pe_int) (pe_op op_shlN (pe_op op_sub (pe_op op_oneShl pe_int (pv 1)) pe_int) (pv 2))))
    (pss_cons (ps_set (i := 4) sc__law_word.nd rfl (.inl rfl) (pe_lst (pa_cons (pe_call G__law_take hr (by rfl) L.m__law_take L.F__law_take.kp L.b__law_take .nil pass0 (pa_cons (pv 0) (pa_cons (pv 3) pa_nil))) (pa_cons (pe_call G__law_take hr (by rfl) L.m__law_take L.F__law_take.kp L.b__law_take .nil pass0 (pa_cons (pv 0) (pa_cons pe_int pa_nil))) (pa_cons (pe_op op_add (pe_op op_sub (pe_op op_oneShl pe_int (pv 2)) pe_int) (pe_call G__law_take hr (by rfl) L.m__law_take L.F__law_take.kp L.b__law_take .nil pass0 (pa_cons (pv 0) (pa_cons pe_int pa_nil)))) (pa_cons (pe_op op_sub (pe_op op_sub (pv 3) pe_int) (pe_call G__law_take hr (by rfl) L.m__law_take L.F__law_take.kp L.b__law_take .nil pass0 (pa_cons (pv 0) (pa_cons pe_int pa_nil)))) pa_nil))))))
    (pss_cons (ps_set (i := 4) sc__law_word.nd rfl (.inl rfl) (pe_op op_cat (pv 4) (pe_lst (pa_cons (pv 3) (pa_cons (pe_op op_add (pe_op op_add (pv 3) pe_int) (pe_call G__law_take hr (by rfl) L.m__law_take L.F__law_take.kp L.b__law_take .nil pass0 (pa_cons (pv 0) (pa_cons (pe_orT (pe_op op_sub (pe_op op_oneShl pe_int (pv 2)) pe_int) (pe_one pe_int)) pa_nil)))) (pa_cons (pe_op op_shlN (pe_call G__law_take hr (by rfl) L.m__law_take L.F__law_take.kp L.b__law_take .nil pass0 (pa_cons (pv 0) (pa_cons (pe_op op_oneShl pe_int (pv 1)) pa_nil))) (pv 2)) (pa_cons pe_int pa_nil)))))))
    (pss_cons (ps_set (i := 5) sc__law_word.nd rfl (.inl rfl) (pe_ix ix_list (pe_lst (pa_cons pe_int (pa_cons pe_int (pa_cons pe_int (pa_cons pe_int (pa_cons pe_int (pa_cons pe_int (pa_cons pe_int (pa_cons pe_int (pa_cons pe_int (pa_cons pe_int (pa_cons pe_int (pa_cons pe_int pa_nil))))))))))))) (pe_call G__law_take hr (by rfl) L.m__law_take L.F__law_take.kp L.b__law_take .nil pass0 (pa_cons (pv 0) (pa_cons pe_int pa_nil))) (fun _ _ => rfl)))
    (pss_cons (ps_set (i := 6) sc__law_word.nd rfl (.inl rfl) (pe_ix ix_list (pv 4) (pv 5) (fun _ _ => rfl)))
    (pss_cons (ps_if (PW.pt (pw_and (pt_cmpR op_eq (pv 5) pe_int (nomark _)) (pw_and1 (pt_cmpR op_eq (pe_call G__law_take hr (by rfl) L.m__law_take L.F__law_take.kp L.b__law_take .nil pass0 (pa_cons (pv 0) (pa_cons pe_int pa_nil))) pe_int (nomark _))))) (pss_one (ps_set (i := 6) sc__law_word.nd rfl (.inl rfl) (pe_op op_orL (pe_op op_shlN (pe_op op_mod (pe_op op_add (pe_op op_sub (pe_op op_oneShl pe_int (pe_op op_sub (pv 1) pe_int)) pe_int) (pe_call G__law_take hr (by rfl) L.m__law_take L.F__law_take.kp L.b__law_take .nil pass0 (pa_cons (pv 0) (pa_cons pe_int pa_nil)))) (pe_op op_sub (pe_op op_oneShl pe_int (pv 1)) pe_int)) (pv 2)) (pe_op op_andM (pv 6) (pe_op op_sub (pe_op op_oneShl pe_int (pv 2)) pe_int))))) pss_nil)
    (pss_one (ps_ret (pe_op op_add (pe_op op_shlN (pe_call G__law_take hr (by rfl) L.m__law_take L.F__law_take.kp L.b__law_take .nil pass0 (pa_cons (pv 0) (pa_cons pe_int pa_nil))) (pe_op op_add (pv 1) (pv 2))) (pe_callB (call_max2 rfl) (by rfl) B.max boot_max (pa_cons pe_int (pa_cons (pv 6) pa_nil)))))))))))), ?_⟩
  have pS := GM.pow_pos' sc
  have pT := GM.pow_pos' tl
  have pS4 : (2 : Int) ^ 2 ≤ 2 ^ sc := GM.pow_le' h1
  have pS8 : (2 : Int) ^ sc ≤ 2 ^ 8 := GM.pow_le' h2
  have pT2 : (2 : Int) ^ 1 ≤ 2 ^ tl := GM.pow_le' h3
  have pT24 : (2 : Int) ^ tl ≤ 2 ^ 24 := GM.pow_le' h4
  have pST : (2 : Int) ^ (sc + tl) = 2 ^ sc * 2 ^ tl := GM.pow_add' sc tl
  have p1 : (2 : Int) ^ (1 + sc + tl) = 2 ^ (sc + tl) * 2 := by rw [← GM.pow_s]; congr 1; omega
  have p4T : 4 * 2 ^ tl ≤ (2 : Int) ^ (sc + tl) := by
    rw [pST]
    exact Int.mul_le_mul_of_nonneg_right pS4 (by omega)
  have p8T : (2 : Int) ^ (sc + tl) ≤ 256 * 2 ^ tl := by
    rw [pST]
    exact Int.mul_le_mul_of_nonneg_right pS8 (by omega)
  refine ⟨_, _, rfl, rfl, .inl ⟨by decide, by decide⟩, _, rfl, sc, rfl, rfl, by omega, _, _, rfl, rfl, _, rfl, _, tl, rfl, rfl, shl_ok (n := 9) (by omega) (by omega), _, _, rfl, rfl, ?_⟩
  refine gI (show (2 * 0 + (2 ^ sc - 1) * 2 ^ tl : Int) = (2 ^ sc - 1) * 2 ^ tl from by rw [Int.mul_zero, Int.zero_add]) ?_
  obtain ⟨TP, eT, hT⟩ : ∃ TP : Int, ((2 ^ sc - 1) * 2 ^ tl : Int) = TP ∧ TP = 2 ^ (sc + tl) - 2 ^ tl := by
    refine ⟨_, rfl, ?_⟩
    rw [pST, Int.sub_mul]
    omega
  dsimp only
  rw [eT]
  have e14 : (10000000 : Int) ^ 2 = 100000000000000 := by decide
  refine ⟨_, rfl, _, rfl, b, _, _, rfl, hB, (by omega), (by rw [e14]; omega), (by omega), (by omega), (by decide), fun r1 H1 u1 v1 B1 k1 => ?_⟩
  replace B1 := bx2 B1
  refine ⟨_, rfl, b, _, _, rfl, B1, (by decide), (by decide), (by decide), (by omega), (by decide), fun r2 H2 u2 v2 B2 k2 => ?_⟩
  replace B2 := bx2 B2
  refine ⟨_, rfl, tl, rfl, rfl, by omega, _, _, rfl, rfl, _, rfl, b, _, _, rfl, B2, (by decide), (by decide), (by decide), (by omega), (by decide), fun r3 H3 u3 v3 B3 k3 => ?_⟩
  replace B3 := bx2 B3
  refine ⟨_, _, rfl, rfl, _, rfl, _, _, rfl, rfl, _, rfl, b, _, _, rfl, B3, (by decide), (by decide), (by decide), (by omega), (by decide), fun r4 H4 u4 v4 B4 k4 => ?_⟩
  replace B4 := bx2 B4
  refine ⟨_, _, rfl, rfl, (by show 4 ≤ sizeLine; decide), fun s1 n1 => ?_⟩
  have n1b : s1 ≠ b := (B4.ne n1).symm
  have B4' := B4.same (same_upd (o := .lst [.int r1, .int r2, .int (2 ^ tl - 2 + r3), .int (TP - 1 - r4)]) n1)
  refine ⟨_, rfl, _, rfl, _, rfl, _, _, rfl, rfl, _, rfl, _, rfl, tl, rfl, rfl, by omega, _, _, rfl, rfl, true, ?_, iteT ?_⟩
  · show true = ((2 ^ tl - 1 : Int) != 0)
    rw [eq_comm, bne_iff_ne]
    omega
  refine ⟨b, _, _, rfl, B4', (by omega), (by rw [e14]; omega), (by omega), (by omega), (by decide), fun r5 H5 u5 v5 B5 k5 => ?_⟩
  replace B5 := bx2 B5
  have es5 := k5 _ _ upd_same n1b
  refine ⟨_, _, rfl, rfl, _, rfl, _, rfl, sc, rfl, rfl, by omega, b, _, _, rfl, B5, (by omega), (by rw [e14]; omega), (by omega), (by omega), (by decide), fun r6 H6 u6 v6 B6 k6 => ?_⟩
  replace B6 := bx2 B6
  have es6 := k6 _ _ es5 n1b
  refine ⟨_, rfl, _, tl, rfl, rfl, shl_ok (n := 9) (by omega) (by omega), (by show 4 ≤ sizeLine; decide), fun s2 n2 => ?_⟩
  have sm2 := same_upd (o := .lst [.int TP, .int (TP + 1 + r5), .int (r6 * 2 ^ tl), .int 0]) n2
  refine ⟨s1, s2, _, _, rfl, rfl, sm2 _ _ es6, upd_same, (by show 4 + 4 ≤ sizeLine; decide), fun s3 n3 => ?_⟩
  have sm3 := same_upd (o := .lst [.int r1, .int r2, .int (2 ^ tl - 2 + r3), .int (TP - 1 - r4), .int TP, .int (TP + 1 + r5), .int (r6 * 2 ^ tl), .int 0]) n3
  have B7 := (B6.same sm2).same sm3
  have n3b : s3 ≠ b := ((B6.same sm2).ne n3).symm
  -- way
  refine ⟨(by show 12 ≤ sizeLine; decide), fun s4 n4 => ?_⟩
  have sm4 := same_upd (o := .lst [.int 0, .int 0, .int 0, .int 0, .int 1, .int 2, .int 3, .int 4, .int 5, .int 6, .int 6, .int 7]) n4
  have n4b : s4 ≠ b := (B7.ne n4).symm
  refine ⟨_, rfl, b, _, _, rfl, B7.same sm4, (by decide), (by decide), (by decide), (by omega), (by decide), fun r7 H8 u7 v7 B8 k8 => ?_⟩
  replace B8 := bx2 B8
  obtain ⟨j, hj, hj8⟩ := at12 u7 v7
  refine ⟨s4, _, _, _, rfl, rfl, SqL.of (k8 _ _ upd_same n4b), hj, ?_⟩
  have es3 := k8 _ _ (sm4 _ _ upd_same) n3b
  have h6 : r6 * 2 ^ tl < 2 ^ (sc + tl) := by
    rw [pST]
    exact Int.mul_lt_mul_of_pos_right v6 pT
  obtain ⟨wd, hw, hwl⟩ := all8 (a0 := r1) (a1 := r2) (a2 := 2 ^ tl - 2 + r3) (a3 := TP - 1 - r4) (a4 := TP) (a5 := TP + 1 + r5) (a6 := r6 * 2 ^ tl) (a7 := 0) (M := 2 ^ (sc + tl)) hj8 (by omega) (by omega) (by omega) (by omega) (by omega) (by omega) h6 (by omega)
  refine ⟨_, rfl, _, rfl, s3, _, _, _, rfl, rfl, SqL.of es3, hw, ?_⟩
  have kk : Keep b H H8 := (((((((k1.trans k2).trans k3).trans k4).trans (Keep.new n1)).trans k5).trans k6).trans (Keep.ofSame (sm2.trans (sm3.trans sm4)))).trans k8
  have wrap : ∀ (v r : Int), v < 2 ^ (sc + tl) → 0 ≤ r → r < 2 → 0 ≤ r * 2 ^ (sc + tl) + (if v > 0 then v else 0) ∧ r * 2 ^ (sc + tl) + (if v > 0 then v else 0) < 2 ^ (1 + sc + tl) := fun v r hv r0 r1 => by
    have : r = 0 ∨ r = 1 := by omega
    rw [p1]
    rcases this with z | z <;> subst z <;> split <;> omega
  refine ⟨_, rfl, rfl, _, rfl, ite2 (fun cw => ?_) (fun cw => ?_)⟩
  · refine ⟨_, rfl, b, _, _, rfl, B8, (by decide), (by decide), (by decide), (by omega), (by decide), fun r8 H9 u8 v8 B9 k9 => ?_⟩
    replace B9 := bx2 B9
    refine ⟨rfl, _, rfl, ite2 (fun cz => ?_) (fun cz => ?_)⟩
    · -- another scale
      refine ⟨_, rfl, _, _, rfl, rfl, sc - 1, rfl, congrArg V.int (by omega), by omega, _, _, rfl, rfl, _, rfl, b, _, _, rfl, B9, (by decide), (by decide), (by decide), (by omega), (by decide), fun r9 H10 u9 v9 B10 k10 => ?_⟩
      replace B10 := bx2 B10
      refine ⟨_, _, rfl, rfl, _, rfl, sc, rfl, rfl, by omega, _, _, rfl, rfl, _, _, rfl, rfl, (by show (0 : Int) < 2 ^ sc - 1; omega), ?_⟩
      dsimp only
      obtain ⟨z, ez, z0, z1⟩ : ∃ z : Int, (2 ^ (sc - 1) - 3 + r9) % (2 ^ sc - 1) = z ∧ 0 ≤ z ∧ z < 2 ^ sc - 1 := ⟨_, rfl, Int.emod_nonneg _ (by omega), Int.emod_lt_of_pos _ (by omega)⟩
      rw [ez]
      have m0 := Int.emod_nonneg wd (show (2 : Int) ^ tl ≠ 0 by omega)
      have m1 := Int.emod_lt_of_pos wd pT
      refine ⟨_, rfl, _, tl, rfl, rfl, shl_ok (n := 9) (by omega) (by omega), _, rfl, _, rfl, tl, rfl, rfl, by omega, _, _, rfl, rfl, _, tl, rfl, rfl, z, _, tl, rfl, rfl, ⟨z0, m0, m1⟩, ?_⟩
      have hz : z * 2 ^ tl + wd % 2 ^ tl < 2 ^ (sc + tl) := by
        have : z * 2 ^ tl ≤ (2 ^ sc - 2) * 2 ^ tl := Int.mul_le_mul_of_nonneg_right (by omega) (by omega)
        rw [Int.sub_mul, ← pST] at this
        omega
      refine ⟨_, rfl, b, _, _, rfl, B10, (by decide), (by decide), (by decide), (by omega), (by decide), fun r H11 u10 v10 B11 k11 => ?_⟩
      replace B11 := bx2 B11
      refine ⟨_, rfl, _, rfl, _, _, rfl, rfl, _, sc + tl, rfl, rfl, shl_ok (n := 2) (by omega) (by omega), _, rfl, _, _, rfl, _, _, rfl, rfl, ?_⟩
      have wr := wrap _ r hz u10 v10
      exact q _ _ wr.1 wr.2 (B11.mono (by omega)) (((kk.trans k9).trans k10).trans k11)
    · refine ⟨_, rfl, b, _, _, rfl, B9, (by decide), (by decide), (by decide), (by omega), (by decide), fun r H11 u10 v10 B11 k11 => ?_⟩
      replace B11 := bx2 B11
      refine ⟨_, rfl, _, rfl, _, _, rfl, rfl, _, sc + tl, rfl, rfl, shl_ok (n := 2) (by omega) (by omega), _, rfl, _, _, rfl, _, _, rfl, rfl, ?_⟩
      have wr := wrap _ r hwl u10 v10
      exact q _ _ wr.1 wr.2 (B11.mono (by omega)) ((kk.trans k9).trans k11)
  · refine iteF ?_
    refine ⟨_, rfl, b, _, _, rfl, B8, (by decide), (by decide), (by decide), (by omega), (by decide), fun r H11 u10 v10 B11 k11 => ?_⟩
    replace B11 := bx2 B11
    refine ⟨_, rfl, _, rfl, _, _, rfl, rfl, _, sc + tl, rfl, rfl, shl_ok (n := 2) (by omega) (by omega), _, rfl, _, _, rfl, _, _, rfl, rfl, ?_⟩
    have wr := wrap _ r hwl u10 v10
    exact q _ _ wr.1 wr.2 (B11.mono (by omega)) (kk.trans k11)
end
end GZ
namespace GZ
open PySem PySem.Spec PyProof.Rows L2
/-! ### {n:b} -/
def binT (n : Nat) : Str := ⟨((Nat.toDigits 2 n).map Char.toNat).toArray⟩
theorem digc2_ne : ∀ (fuel n : Nat) (ds : List Char), ds ≠ [] → Nat.toDigitsCore 2 fuel n ds ≠ []
  | 0, _, _, h => h
  | fuel + 1, n, ds, h => by
    unfold Nat.toDigitsCore
    simp only
    split
    · exact List.cons_ne_nil _ _
    · exact digc2_ne fuel _ _ (List.cons_ne_nil _ _)
theorem dig2_ne (n : Nat) : Nat.toDigits 2 n ≠ [] := by
  unfold Nat.toDigits Nat.toDigitsCore
  simp only
  split
  · exact List.cons_ne_nil _ _
  · exact digc2_ne _ _ _ (List.cons_ne_nil _ _)
theorem fmt_b {prog : Program} {w : World} {A : Around} {E : Value → Shared → Prop} {s : Shared} {n : Nat} {t : Tok} {Q : Value → Shared → Prop} (hl : (binT n).length ≤ sizeLine)
    (h : Q (.str (binT n) (s.toks + 1)) { s with toks := s.toks + 1 + 1 }) : wpAny (model prog w) A (formatField (.int (n : Int) t) "b") Q E s := by
  show wpAny _ _ (holding [.int (n : Int) t] (pyFormat (.int (n : Int) t) "b")) Q E s; refine wpAny_holding ?_; unfold pyFormat
  refine wpAny_bind (wpAny_mkStr ?_ (by decide))
  refine wpAny_bind (m := callSpecial? (.int (n : Int) t) (Str.ofString "__format__") [.str "b" s.toks]) (wpAny_callSpecial?_slot (name := Str.ofString "__format__") (typeIs_int _ (n : Int) t) slot_int_format ?_)
  refine wpAny_call (codeAny_call_builtin slot_int_format.plain entry_int_format (slot_int_format.check _ _ _ _ _ _ _ _ (typeIs_int _ (n : Int) t) (args_int_format _ _) ?_))
  unfold Builtin.«int.__format__»
  simp only [selfAndOne, noKeywords, Builtin.Int.intOfSelf, asInt?, asStr?, List.isEmpty_nil, if_true, pure_bind, bind_pure, bind_assoc, show (((Str.ofString "b").length == 0) = false) by decide, show ((((Str.ofString "b").cps.toList.drop 1).any (· ≥ 128) || ((Str.ofString "b").cps.getD 0 0 ≥ 128 && !([60, 62, 61, 94] : List Nat).contains ((Str.ofString "b").cps.getD 1 0))) = false) by decide, Bool.false_eq_true, if_false, show (Value.str "b" s.toks == Value.none) = false from rfl]
  refine wpAny_bind (wpAny_typeNameOf (T := "str") (typeIs_str _ _ _) (by decide) fun _ => wpAny_bind (wpAny_typeNameOfCut_int ?_))
  have hp : Builtin.Float.parseFormatSpec (Str.ofString "b").cps.toList "int" 62 = .ok { align := 62, type := some 98 } := by rfl
  simp only [hp, Option.getD_some]
  rw [if_pos (by decide)]
  have hne : (((Nat.toDigits 2 n).map Char.toNat).isEmpty) = false := by
    cases q : Nat.toDigits 2 n with
    | nil => exact absurd q (dig2_ne n)
    | cons _ _ => rfl
  refine (id (?_ : wpAny _ _ (bind _ _) _ _ _))
  have key : ∀ {A' : Around} {E' : Value → Shared → Prop} {Q' : Fin → Shared → Prop} {s' : Shared} (y : Str), y = binT n → Q' (.done (.ret (.str (binT n) s'.toks))) { s' with toks := s'.toks + 1 } → wpAny (model prog w) A' (mkStr y >>= fun v => ret v) Q' E' s' := fun y e q => by
    rw [e]
    exact wpAny_bind (wpAny_mkStr (wpAny_pure q) hl)
  refine key _ ?_ ?_
  · have e0 : decide (((n : Nat) : Int) < 0) = false := decide_eq_false (by omega)
    rw [e0]
    conv => lhs; arg 4; change ((Nat.toDigits 2 n).map Char.toNat)
    unfold binT
    generalize (Nat.toDigits 2 n).map Char.toNat = ds at hne ⊢
    cases ds with
    | nil => cases hne
    | cons d r =>
      conv => lhs; whnf
      simp
      omega
  · exact wpAny_bind (wpAny_isInstance (typeIs_str _ _ _) isSubtype_str_str (wpAny_pure h))
def tFmtB (te ts : TE) : TE := fun σ H Q => te σ H fun x H1 => ts σ H1 fun y H2 => ∃ n : Nat, x = .int (n : Int) ∧ y = .str "b" ∧ (binT n).length ≤ sizeLine ∧ Q (.str (binT n)) H2
theorem pe_fmtB {X : Cx} {e spec : Expr} {te ts : TE} {pos : Pos} (he : PE X e te) (hs : PE X spec ts) : PE X (.FormattedValue e (-1) (some spec) pos) (tFmtB te ts) := by
  refine ⟨fun pins s σ H Q I h => ?_⟩
  refine PySem.wpAny_FormattedValue_spec (thn (he.run pins s σ H _ I h) fun v s1 ⟨x, H1, I1, r1, q1⟩ => thn (hs.run pins s1 σ H1 _ I1 q1) fun u s2 ⟨y, H2, I2, r2, q2⟩ => ?_)
  obtain ⟨n, rfl, rfl, hl, q⟩ := q2
  obtain ⟨t, rfl⟩ := r1
  obtain ⟨t2, rfl⟩ := r2
  exact ⟨_, _, rfl, fmt_b hl ⟨.str (binT n), H2, I2.tok _, ⟨_, rfl⟩, q⟩⟩
/-! ### bits of a number as a text -/
def bitsL : Nat → Nat → List Nat
  | 0, _ => []
  | k + 1, n => bitsL k (n / 2) ++ [48 + n % 2]
def bt (k n : Nat) : Str := ⟨(bitsL k n).toArray⟩
theorem tl_bt (k n : Nat) : TL.tl (bt k n) = bitsL k n := rfl
theorem bitsL_len : ∀ k n, (bitsL k n).length = k
  | 0, _ => rfl
  | k + 1, n => by
    show (bitsL k (n / 2) ++ [48 + n % 2]).length = k + 1
    rw [List.length_append, bitsL_len k]
    rfl
theorem bitsL_01 : ∀ k n c, c ∈ bitsL k n → c = 48 ∨ c = 49
  | 0, _, _, h => nomatch h
  | k + 1, n, c, h => by
    rcases List.mem_append.mp h with h | h
    · exact bitsL_01 k _ c h
    · have := List.mem_singleton.mp h
      omega
theorem bitsL_zero : ∀ k, bitsL k 0 = List.replicate k 48
  | 0 => rfl
  | k + 1 => by
    show bitsL k 0 ++ [48] = _
    rw [bitsL_zero k, List.replicate_succ']
theorem bitsL_fold : ∀ k n a, n < 2 ^ k → (bitsL k n).foldl (fun n c => 2 * n + (c - 48)) a = a * 2 ^ k + n
  | 0, n, a, h => by
    have : n = 0 := by simpa using h
    subst this
    simp [bitsL]
  | k + 1, n, a, h => by
    show (bitsL k (n / 2) ++ [48 + n % 2]).foldl _ a = _
    rw [List.foldl_append, bitsL_fold k (n / 2) a (by rw [Nat.pow_succ] at h; omega)]
    show 2 * (a * 2 ^ k + n / 2) + (48 + n % 2 - 48) = _
    rw [Nat.pow_succ, ← Nat.mul_assoc]
    omega
/-- the bits of two parts, behind each other -/
theorem bitsL_app : ∀ j k a b, b < 2 ^ j → bitsL k a ++ bitsL j b = bitsL (k + j) (a * 2 ^ j + b)
  | 0, k, a, b, h => by
    have : b = 0 := by simpa using h
    subst this
    simp [bitsL]
  | j + 1, k, a, b, h => by
    show bitsL k a ++ (bitsL j (b / 2) ++ [48 + b % 2]) = bitsL (k + j) ((a * 2 ^ (j + 1) + b) / 2) ++ [48 + (a * 2 ^ (j + 1) + b) % 2]
    have e1 : (a * 2 ^ (j + 1) + b) / 2 = a * 2 ^ j + b / 2 := by
      rw [Nat.pow_succ, ← Nat.mul_assoc]
      omega
    have e2 : (a * 2 ^ (j + 1) + b) % 2 = b % 2 := by
      rw [Nat.pow_succ, ← Nat.mul_assoc]
      omega
    rw [e1, e2, ← List.append_assoc, bitsL_app j k a (b / 2) (by rw [Nat.pow_succ] at h; omega)]
theorem dig2_nat : ∀ d : Nat, d < 2 → (Nat.digitChar d).toNat = 48 + d := by decide
theorem tlb_lt {n : Nat} (h : n < 2) : TL.tl (binT n) = [48 + n] := by
  show (Nat.toDigits 2 n).map Char.toNat = _
  rw [Nat.toDigits_of_lt_base h]
  show [(Nat.digitChar n).toNat] = _
  rw [dig2_nat n h]
theorem tlb_step {n : Nat} (h : 2 ≤ n) : TL.tl (binT n) = TL.tl (binT (n / 2)) ++ [48 + n % 2] := by
  have hm : n % 2 < 2 := Nat.mod_lt n (by decide)
  have t : Nat.toDigits 2 (n / 2) ++ Nat.toDigits 2 (n % 2) = Nat.toDigits 2 (2 * (n / 2) + n % 2) := Nat.toDigits_append_toDigits (by decide) (by omega) hm
  rw [Nat.div_add_mod] at t
  show (Nat.toDigits 2 n).map Char.toNat = (Nat.toDigits 2 (n / 2)).map Char.toNat ++ _
  rw [← t, List.map_append, Nat.toDigits_of_lt_base hm]
  show _ ++ [(Nat.digitChar (n % 2)).toNat] = _
  rw [dig2_nat _ hm]
theorem tlb_bits : ∀ k n, n < 2 ^ (k + 1) → (TL.tl (binT n)).length ≤ k + 1 ∧ List.replicate (k + 1 - (TL.tl (binT n)).length) 48 ++ TL.tl (binT n) = bitsL (k + 1) n
  | 0, n, h => by
    have h : n < 2 := by simpa using h
    rw [tlb_lt h]
    refine ⟨Nat.le_refl _, ?_⟩
    show [48 + n] = [48 + n % 2]
    rw [Nat.mod_eq_of_lt h]
  | k + 1, n, h => by
    by_cases c : n < 2
    · rw [tlb_lt c]
      refine ⟨by show 1 ≤ _; omega, ?_⟩
      show List.replicate (k + 1) 48 ++ [48 + n] = bitsL (k + 1) (n / 2) ++ [48 + n % 2]
      rw [Nat.mod_eq_of_lt c, show n / 2 = 0 by omega, bitsL_zero]
    · have ih := tlb_bits k (n / 2) (by rw [Nat.pow_succ] at h; omega)
      rw [tlb_step (by omega), List.length_append]
      refine ⟨by show _ + 1 ≤ _; omega, ?_⟩
      show List.replicate (k + 1 + 1 - ((TL.tl (binT (n / 2))).length + 1)) 48 ++ (TL.tl (binT (n / 2)) ++ [48 + n % 2]) = bitsL (k + 1) (n / 2) ++ [48 + n % 2]
      rw [← List.append_assoc, ← ih.2, Nat.add_sub_add_right]
theorem bin_len {k n : Nat} (hk : 1 ≤ k) (h : n < 2 ^ k) : (binT n).length ≤ k := by
  obtain ⟨j, rfl⟩ : ∃ j, k = j + 1 := ⟨k - 1, by omega⟩
  rw [TL.len_tl]
  exact (tlb_bits j n h).1
theorem tl_zfilled {x : Str} {more : Nat} (h : ∀ c ∈ TL.tl x, c = 48 ∨ c = 49) : TL.tl (zfilled x more) = List.replicate more 48 ++ TL.tl x := by
  have pd : TL.tl (Builtin.Str.padded x more 0 48) = List.replicate more 48 ++ TL.tl x := by
    show ((Array.replicate more 48 ++ x.cps) ++ Array.replicate 0 48).toList = _
    rw [Array.toList_append, Array.toList_append, Array.toList_replicate, Array.toList_replicate]
    show _ ++ _ ++ [] = _
    rw [List.append_nil]
  have g : ∀ c, x.cps[0]? = some c → c = 48 ∨ c = 49 := fun c e => h c (List.mem_of_getElem? (i := 0) (by show x.cps.toList[0]? = _; rw [Array.getElem?_toList]; exact e))
  unfold zfilled
  split
  · rename_i e
    have := g _ e
    omega
  · rename_i e
    have := g _ e
    omega
  · exact pd
theorem zb_bits {k n : Nat} (hk : 1 ≤ k) (h : n < 2 ^ k) : Txt.zfill (binT n) (k : Int) = bt k n := by
  obtain ⟨j, rfl⟩ : ∃ j, k = j + 1 := ⟨k - 1, by omega⟩
  obtain ⟨h1, h2⟩ := tlb_bits j n h
  refine TL.ext_tl ?_
  rw [tl_bt, ← h2]
  unfold Txt.zfill
  split
  · rename_i c
    rw [TL.len_tl] at c
    rw [show j + 1 - (TL.tl (binT n)).length = 0 by omega]
    rfl
  · rename_i c
    rw [TL.len_tl] at c ⊢
    rw [tl_zfilled fun c hc => bitsL_01 (j + 1) n c (by rw [← h2]; exact List.mem_append_right _ hc)]
    rfl
def gN (sc tl : Nat) (v : Nat) : Nat := v / 2 ^ (sc + tl) % 2
def mN (sc tl : Nat) (v : Nat) : Nat := v / 2 ^ tl % 2 ^ sc
def tN (tl : Nat) (v : Nat) : Nat := v % 2 ^ tl
def spP (sc tl : Nat) (v : Nat) : List Str := [bt 1 (gN sc tl v), bt sc (mN sc tl v), bt tl (tN tl v)]
def spT (sc tl : Nat) (v : Nat) : Str := Str.join " " (spP sc tl v)
theorem sp_bits {sc tl v : Nat} (hv : v < 2 ^ (1 + sc + tl)) : bitsL 1 (gN sc tl v) ++ (bitsL sc (mN sc tl v) ++ bitsL tl (tN tl v)) = bitsL (1 + sc + tl) v := by
  have p1 : 0 < 2 ^ tl := Nat.pow_pos (by decide)
  have p2 : 0 < 2 ^ sc := Nat.pow_pos (by decide)
  rw [bitsL_app tl sc (mN sc tl v) (tN tl v) (Nat.mod_lt _ p1)]
  have e1 : mN sc tl v * 2 ^ tl + tN tl v = v % 2 ^ (sc + tl) := by
    unfold mN tN
    rw [Nat.pow_add, Nat.mul_comm (2 ^ sc), Nat.mod_mul, Nat.mul_comm, Nat.add_comm]
  rw [e1, bitsL_app (sc + tl) 1 (gN sc tl v) (v % 2 ^ (sc + tl)) (Nat.mod_lt _ (Nat.pow_pos (by decide))), Nat.add_assoc 1 sc tl]
  have e2 : gN sc tl v = v / 2 ^ (sc + tl) := by
    unfold gN
    refine Nat.mod_eq_of_lt (Nat.div_lt_of_lt_mul ?_)
    rw [show (2 : Nat) = 2 ^ 1 from rfl, ← Nat.pow_mul, ← Nat.pow_add]
    simpa [Nat.add_comm, Nat.add_assoc, Nat.add_left_comm] using hv
  rw [e2, Nat.div_add_mod']
theorem sp_split {sc tl v : Nat} (hv : v < 2 ^ (1 + sc + tl)) : Txt.split (spT sc tl v) " " = spP sc tl v := by
  have := TL.split_join (y := " ") (s := 32) (S := []) rfl (by decide +kernel) (parts := spP sc tl v) (by unfold spP; simp) (fun p hp => by
    have no : ∀ k n, 32 ∉ TL.tl (bt k n) := fun k n h => by
      have := bitsL_01 k n 32 h
      omega
    unfold spP at hp
    simp only [List.mem_cons, List.not_mem_nil, or_false] at hp
    rcases hp with rfl | rfl | rfl <;> exact no _ _)
  rw [TL.join_eq] at this
  exact this
theorem spP_len (sc tl v : Nat) : (spP sc tl v).map (·.length) = [1, sc, tl] := by
  have h : ∀ k n, (bt k n).length = k := fun k n => by rw [TL.len_tl, tl_bt, bitsL_len]
  unfold spP
  simp only [List.map_cons, List.map_nil, h]
theorem spJ {sc tl v : Nat} (hv : v < 2 ^ (1 + sc + tl)) : TL.tl (Txt.join "" (spP sc tl v)) = bitsL (1 + sc + tl) v := by
  rw [TL.join_eq, TL.tl_join, ← sp_bits hv]
  rfl
theorem spT_len (sc tl v : Nat) : (spT sc tl v).length = 1 + sc + tl + 2 := by
  rw [TL.len_tl]
  unfold spT
  rw [TL.tl_join]
  show (bitsL 1 _ ++ ([32] ++ (bitsL sc _ ++ ([32] ++ bitsL tl _)))).length = _
  simp only [List.length_append, bitsL_len, List.length_cons, List.length_nil]
  omega
/-! ### bits from the last one on -/
theorem bitsL_top : ∀ j w, bitsL (j + 1) w = (48 + w / 2 ^ j % 2) :: bitsL j w
  | 0, w => by
    show [] ++ [48 + w % 2] = _
    rw [Nat.pow_zero, Nat.div_one]
    rfl
  | j + 1, w => by
    show bitsL (j + 1) (w / 2) ++ [48 + w % 2] = _ :: (bitsL j (w / 2) ++ [48 + w % 2])
    rw [bitsL_top j (w / 2), Nat.div_div_eq_div_mul, show 2 * 2 ^ j = 2 ^ (j + 1) by rw [Nat.pow_succ, Nat.mul_comm]]
    rfl
theorem bitsL_mod : ∀ k x, bitsL k (x % 2 ^ k) = bitsL k x
  | 0, _ => rfl
  | k + 1, x => by
    show bitsL k (x % 2 ^ (k + 1) / 2) ++ [48 + x % 2 ^ (k + 1) % 2] = bitsL k (x / 2) ++ [48 + x % 2]
    have e1 : x % 2 ^ (k + 1) / 2 = x / 2 % 2 ^ k := by
      rw [Nat.pow_succ, Nat.mul_comm, Nat.mod_mul_right_div_self]
    have e2 : x % 2 ^ (k + 1) % 2 = x % 2 := by
      rw [Nat.pow_succ, Nat.mul_comm]
      exact Nat.mod_mul_right_mod x 2 (2 ^ k)
    rw [e1, e2, bitsL_mod k (x / 2)]
/-- the signs behind so many steps, from the last one on -/
def ltL (sc tl v : Nat) : Nat → List Nat
  | 0 => []
  | j + 1 => (48 + v / 2 ^ j % 2) :: ((if j = tl ∨ j = sc + tl then [32] else []) ++ ltL sc tl v j)
theorem ltL_low {sc tl v : Nat} : ∀ j, j ≤ tl → ltL sc tl v j = bitsL j v
  | 0, _ => rfl
  | j + 1, h => by
    show _ :: ((if j = tl ∨ j = sc + tl then [32] else []) ++ ltL sc tl v j) = _
    rw [if_neg (by omega), ltL_low j (by omega), bitsL_top]
    rfl
theorem ltL_mid {sc tl v : Nat} : ∀ i, i < sc → ltL sc tl v (tl + (i + 1)) = bitsL (i + 1) (v / 2 ^ tl) ++ 32 :: bitsL tl v
  | 0, h => by
    show (48 + v / 2 ^ tl % 2) :: ((if tl = tl ∨ tl = sc + tl then [32] else []) ++ ltL sc tl v tl) = _
    rw [if_pos (.inl rfl), ltL_low tl (Nat.le_refl _)]
    rfl
  | i + 1, h => by
    show (48 + v / 2 ^ (tl + (i + 1)) % 2) :: ((if tl + (i + 1) = tl ∨ tl + (i + 1) = sc + tl then [32] else []) ++ ltL sc tl v (tl + (i + 1))) = _
    rw [if_neg (by omega), ltL_mid i (by omega), bitsL_top (i + 1), Nat.div_div_eq_div_mul, ← Nat.pow_add]
    rfl
theorem tl_spT (sc tl v : Nat) : TL.tl (spT sc tl v) = bitsL 1 (gN sc tl v) ++ (32 :: (bitsL sc (mN sc tl v) ++ 32 :: bitsL tl (tN tl v))) := by
  unfold spT
  rw [TL.tl_join]
  rfl
theorem ltL_all {sc tl v : Nat} (h1 : 1 ≤ sc) : ltL sc tl v (1 + sc + tl) = TL.tl (spT sc tl v) := by
  obtain ⟨i, rfl⟩ : ∃ i, sc = i + 1 := ⟨sc - 1, by omega⟩
  rw [tl_spT, show 1 + (i + 1) + tl = (tl + (i + 1)) + 1 by omega]
  show (48 + v / 2 ^ (tl + (i + 1)) % 2) :: ((if tl + (i + 1) = tl ∨ tl + (i + 1) = i + 1 + tl then [32] else []) ++ ltL (i + 1) tl v (tl + (i + 1))) = _
  rw [if_pos (.inr (Nat.add_comm _ _)), ltL_mid i (by omega)]
  have e1 : bitsL (i + 1) (mN (i + 1) tl v) = bitsL (i + 1) (v / 2 ^ tl) := bitsL_mod (i + 1) (v / 2 ^ tl)
  have e2 : bitsL tl (tN tl v) = bitsL tl v := bitsL_mod tl v
  have e3 : bitsL 1 (gN (i + 1) tl v) = [48 + v / 2 ^ (tl + (i + 1)) % 2] := by
    show [] ++ [48 + gN (i + 1) tl v % 2] = _
    unfold gN
    rw [Nat.mod_mod, Nat.add_comm tl]
    rfl
  rw [e1, e2, e3]
  rfl
/-! ### words of any texts -/
def jt (z : Str) : List Nat := TL.tl (Txt.join "" (Txt.split z " "))
def fd2 (cs : List Nat) : Nat := cs.foldl (fun n c => 2 * n + (c - 48)) 0
def ok01 (cs : List Nat) : Bool := cs.all fun c => c == 48 || c == 49
def rdT (z : Str) (sc tl : Nat) : Option Nat := if (Txt.split z " ").map (·.length) = [1, sc, tl] ∧ ok01 (jt z) = true then some (fd2 (jt z)) else none
def oI : Option Nat → V
  | none => .non
  | some v => .int (v : Int)
theorem joinL_nil : ∀ xs : List (List Nat), TL.joinL [] xs = xs.flatten
  | [] => rfl
  | [p] => by
    show p = _
    simp
  | p :: q :: r => by
    have ih := joinL_nil (q :: r)
    show p ++ ([] ++ TL.joinL [] (q :: r)) = _
    rw [ih, List.nil_append]
    rfl
theorem spl_many : ∀ (l acc : List Nat), (TL.spl [32] 0 acc l).length ≤ l.length + 1
  | [], acc => by
    rw [TL.spl_nil]
    exact Nat.le_refl _
  | c :: r, acc => by
    by_cases h : c = 32
    · subst h
      rw [TL.spl_hit (by rfl)]
      exact Nat.succ_le_succ (spl_many r [])
    · rw [TL.spl_miss (by
        show TL.pre [32] (c :: r) = false
        simpa [TL.pre] using h)]
      exact Nat.le_succ_of_le (spl_many r (acc ++ [c]))
theorem spl_flat : ∀ (l acc : List Nat), (TL.spl [32] 0 acc l).flatten = acc ++ l.filter (fun c => !(c == 32))
  | [], acc => by
    rw [TL.spl_nil]
    simp
  | c :: r, acc => by
    by_cases h : c = 32
    · subst h
      rw [TL.spl_hit (by rfl)]
      show (acc :: TL.spl [32] 0 [] r).flatten = _
      rw [List.flatten_cons, spl_flat r []]
      rfl
    · rw [TL.spl_miss (by
        show TL.pre [32] (c :: r) = false
        simpa [TL.pre] using h)]
      rw [spl_flat r (acc ++ [c]), List.filter_cons_of_pos (by simpa using h), List.append_assoc]
      rfl
theorem jt_filter (z : Str) : jt z = (TL.tl z).filter (fun c => !(c == 32)) := by
  unfold jt
  have e := TL.split_spl z " " (by decide +kernel) (TL.kind_ok (by decide +kernel))
  rw [TL.join_eq, TL.tl_join]
  have f := spl_flat (TL.tl z) []
  rw [List.nil_append] at f
  rw [← f]
  have e2 : TL.spl (TL.tl " ") 0 [] (TL.tl z) = TL.spl [32] 0 [] (TL.tl z) := rfl
  rw [← e2, ← e]
  exact joinL_nil _
theorem sp_map (z : Str) : (Txt.split z " ").map TL.tl = TL.spl [32] 0 [] (TL.tl z) := TL.split_spl z " " (by decide +kernel) (TL.kind_ok (by decide +kernel))
theorem pt_many (z : Str) : (Txt.split z " ").length ≤ z.length + 1 := by
  have := congrArg List.length (sp_map z)
  rw [List.length_map] at this
  rw [this, TL.len_tl]
  exact spl_many _ _
theorem pt_sum (z : Str) : ((Txt.split z " ").map (·.length)).sum ≤ z.length := by
  have e : (Txt.split z " ").map (·.length) = ((Txt.split z " ").map TL.tl).map List.length := by
    rw [List.map_map]
    exact List.map_congr_left fun p _ => TL.len_tl p
  rw [e, ← List.length_flatten, sp_map, spl_flat, List.nil_append, TL.len_tl]
  exact List.length_filter_le _ _
theorem sum_mem : ∀ {l : List Nat} {x : Nat}, x ∈ l → x ≤ l.sum
  | a :: l, x, h => by
    rw [List.sum_cons]
    rcases List.mem_cons.mp h with rfl | h
    · omega
    · have := sum_mem h
      omega
theorem pt_len {z p : Str} (h : p ∈ Txt.split z " ") : p.length ≤ z.length := Nat.le_trans (sum_mem (List.mem_map.mpr ⟨p, h, rfl⟩)) (pt_sum z)
theorem jt_len (z : Str) : (jt z).length ≤ z.length := by
  rw [jt_filter, TL.len_tl]
  exact List.length_filter_le _ _
theorem all_rd (z : Str) : ((TL.tl z).all fun c => c == 48 || c == 49 || c == 32) = ok01 (jt z) := by
  rw [jt_filter]
  unfold ok01
  rw [List.all_filter]
  congr 1
  funext c
  by_cases h : c = 32
  · subst h
    rfl
  · simp [h, Bool.or_comm]
section
variable {P : Program} {w : World} {K : PySem.W.Frag} {mg : Str → Option Value} {base : Heap}
variable {C : Addr} {za : Nat → Addr} {zl : Nat → FuncData} {t28 : Tok} {fW : Addr} {DR : Addr} {tr : Nat → Addr} {E_BadText I_BadText E_BadRow I_BadRow : Addr}
theorem iteN81 {c : Bool} {A B : Prop} (h : c = false) (b : B) : (if c = true then A else B) := by
  rw [if_neg (by rw [h]; decide)]
  exact b
theorem iteT' {c : Bool} {a b : Prop} (h : c = true) (x : a) : if c = true then a else b := by rw [if_pos h]; exact x
theorem in_two (x a b : Str) : inV (.str x) [.str a, .str b] = decide (a = x ∨ b = x) := by
  show ((a == x) || ((b == x) || false)) = _
  rw [Bool.or_false, Bool.eq_iff_iff, Bool.or_eq_true, beq_iff_eq, beq_iff_eq, decide_eq_true_iff]
theorem eqv_len (ls : List Nat) (ms : List Nat) : (PyData.list ((ls.map fun k : Nat => (k : Int)).map PyData.int)).eqv (PyData.list ((ms.map fun k : Nat => (k : Int)).map PyData.int)) = decide (ls = ms) := by
  show PyData.eqvAll _ _ = _
  rw [PySem.W.ked_eqvAll]
  have inj : ∀ as bs : List Nat, (as.map fun k : Nat => (k : Int)) = (bs.map fun k : Nat => (k : Int)) ↔ as = bs := fun as bs => ⟨fun h => by
    have := congrArg (List.map Int.toNat) h
    simpa [List.map_map, Function.comp_def] using this, fun h => by rw [h]⟩
  by_cases e : ls = ms
  · rw [e, decide_eq_true rfl, decide_eq_true rfl]
  · rw [decide_eq_false e, decide_eq_false fun z => e ((inj _ _).mp z)]
theorem rdT_none {z : Str} {sc tl : Nat} (h : ¬ ((Txt.split z " ").map (·.length) = [1, sc, tl] ∧ ok01 (jt z) = true)) : rdT z sc tl = none := by
  unfold rdT
  rw [if_neg h]
theorem rdT_some {z : Str} {sc tl : Nat} (h : (Txt.split z " ").map (·.length) = [1, sc, tl]) (g : ok01 (jt z) = true) : rdT z sc tl = some (fd2 (jt z)) := by
  unfold rdT
  rw [if_pos ⟨h, g⟩]
theorem fd2_snoc (cs : List Nat) (c : Nat) : fd2 (cs ++ [c]) = 2 * fd2 cs + (c - 48) := by
  unfold fd2
  rw [List.foldl_append]
  rfl
/-! ### word_in of any text -/
def spWordG (C CT : Addr) : Sp := fun vs H Q E => ∃ (x : Addr) (sc tl : Nat) (z : Str), vs = [.ref x, .str z] ∧ FAt C H x sc tl ∧ z.length ≤ 400 ∧
  (∀ v, rdT z sc tl = some v → ∀ H', Same H H' → Q (.int (v : Int)) H') ∧ (rdT z sc tl = none → ∀ d H', Same H H' → H' d = none → E (.ref CT) (some d) (upd H' d (.xd [(("what" : Str), .str z)])))
theorem ok_word_inG (B : Bl mg) (L : LL K mg C za zl t28 fW DR tr w E_BadText I_BadText E_BadRow I_BadRow) : FnOk P w K mg base (L2.CX P w) 2 (za 4) (zl 4) ["form", "text"] (spWordG C E_BadText) := by
  refine L.F_word_in.okX sc_word_in (fun vs H Q E h => ?_) (fun cdv A outer s H vs Q E hr h => ?_)
  · obtain ⟨x, sc, tl, z, rfl, _⟩ := h
    rfl
  obtain ⟨x, sc, tl, z, rfl, hF, hz, q1, q2⟩ := h
  obtain ⟨dx, hx, h1, h2, h3, h4⟩ := id hF
  have tm := pt_many z
  have tp := @pt_len z
  have ts := pt_sum z
  have tj := jt_len z
  refine ⟨_, (pss_cons (ps_set (i := 2) sc_word_in.nd rfl (.inl rfl) (pe_split (pv 1) pe_str))
    (pss_cons (ps_if (pt_cmpR (op_neD hr.units) (pe_lc (own := [("part", 5)]) (by rfl) sc_word_in.nd (pi_list (pv 2)) (blkOk_by (own := [("part", 5)]) (N := ["form", "text", "parts", "word", "figure", "part"]) (sc := defScope s_word_in) (by decide +kernel)) (fun _ _ _ _ _ => pg_name (i := 5) sc_word_in.nd rfl (Or.inl rfl)) (fun _ _ _ _ _ => pts_nil) (fun _ _ _ _ _ => (pe_callB call_len_str (by rfl) B.len PySem.boot_len (pa_cons (pv 5) pa_nil)))) (pe_lst (pa_cons pe_int (pa_cons (pe_fld (pv 0) rfl) (pa_cons (pe_fld (pv 0) rfl) pa_nil)))) (nomark _)) (pss_one (ps_raise rfl (takes_of rfl rfl rfl rfl) (pmk_what L.R_BadText hr (by decide) L.g_BadText rfl (pa_cons (pv 1) pa_nil)))) pss_nil)
    (pss_cons (ps_set (i := 3) sc_word_in.nd rfl (.inl rfl) pe_int)
    (pss_cons (ps_for (passes_of rfl) rfl (pi_str (pe_bm PySem.F.plainAttrs_str PySem.F.slot_str_join PySem.F.type_str_join mt_join pe_str (pa_cons (pv 2) pa_nil))) (pg_name (i := 4) sc_word_in.nd rfl (.inl rfl)) (pss_cons (ps_if (pt_cmpR op_notIn_seq (pv 4) (pe_tup (pa_cons pe_str (pa_cons pe_str pa_nil))) (by rfl)) (pss_one (ps_raise rfl (takes_of rfl rfl rfl rfl) (pmk_what L.R_BadText hr (by decide) L.g_BadText rfl (pa_cons (pv 1) pa_nil)))) pss_nil)
    (pss_one (ps_set (i := 3) sc_word_in.nd rfl (.inl rfl) (pe_op op_add (pe_op op_mul pe_int (pv 3)) (pe_callTy call_int_str (by rfl) B.int PyProof.Rows.boot_int (pa_cons (pv 4) pa_nil)))))))
    (pss_one (ps_ret (pv 3))))))), ?_⟩
  refine ⟨_, rfl, ⟨_, rfl⟩, _, _, rfl, rfl, rfl, Nat.le_trans (show z.length + 2 ≤ 402 by omega) (by decide), fun Pp nP => ?_⟩
  have rn := @rdT_none z sc tl
  have rs := @rdT_some z sc tl
  obtain ⟨J, hJ⟩ : ∃ J, J = Txt.join "" (Txt.split z " ") := ⟨_, rfl⟩
  have ej : jt z = J.cps.toList := by rw [hJ]; rfl
  rw [ej] at rn rs tj
  obtain ⟨ps, hps⟩ : ∃ ps, ps = Txt.split z " " := ⟨_, rfl⟩
  rw [← hps] at rn rs tm tp ts hJ ⊢
  have s1 := same_upd (o := .lst (ps.map V.str)) nP
  have eP : (upd H Pp (.lst (ps.map V.str))) Pp = some (.lst (ps.map V.str)) := upd_same
  have hx1 := s1 _ _ hx
  generalize upd H Pp (.lst (ps.map V.str)) = H1 at *
  try simp only [L2.start, List.map_cons, List.map_nil, List.length_cons, List.length_nil, List.replicate_succ, List.replicate_zero, List.cons_append, List.nil_append, List.set_cons_succ, List.set_cons_zero, Nat.reduceAdd, Nat.reduceSub, Nat.zero_add]
  refine ⟨_, rfl, Pp, rfl, ⟨_, SqL.of eP⟩, fun D nD => ?_⟩
  refine lc_it (walk_list (K := K) (a := Pp) (xs := ps.map V.str)) (fun j H9 => Same H1 H9 ∧ H9 D = some (.lst ((ps.take j).map fun z => V.int (z.length : Int)))) ⟨same_upd nD, upd_same⟩ (fun j H9 _ ⟨s9, _⟩ => SqL.of (s9 _ _ eP)) ?_ ?_
  · rintro j v' Ha H9 hj ⟨s9, eD⟩ ⟨rfl, hzz⟩
    replace hzz : (ps.map V.str)[j]? = some v' := hzz
    rw [List.length_map] at hj
    have hp : ps[j]? = some ps[j] := List.getElem?_eq_getElem hj
    rw [List.getElem?_map, hp] at hzz
    cases hzz
    refine ⟨rfl, yesT ?_⟩
    try simp only [L2.start, List.map_cons, List.map_nil, List.length_cons, List.length_nil, List.replicate_succ, List.replicate_zero, List.cons_append, List.nil_append, List.set_cons_succ, List.set_cons_zero, Nat.reduceAdd, Nat.reduceSub, Nat.zero_add]
    have pl : (ps[j]).length ≤ 400 := Nat.le_trans (tp (List.getElem_mem hj)) hz
    refine ⟨_, rfl, _, rfl, Nat.le_trans pl (by decide), _, eD, ?_, fun y o e => ?_, ?_⟩
    · rw [List.length_map, List.length_take]
      exact Nat.lt_of_le_of_lt (Nat.min_le_right _ _) (small1000 (by omega))
    · rw [upd_ne (ne_of_none e nD)]
      exact s9 _ _ e
    · rw [upd_same, List.take_add_one, hp, List.map_append]
      rfl
  rintro H2 ⟨s2, eD⟩
  rw [List.length_map, List.take_of_length_le (Nat.le_refl _)] at eD
  have eD' : H2 D = some (.lst (((ps.map (·.length)).map fun k : Nat => (k : Int)).map V.int)) := by
    rw [eD, List.map_map, List.map_map]
    rfl
  have hx2 := s2 _ _ hx1
  refine ⟨_, rfl, x, C, dx, _, _, rfl, hx2, L.T.cl, L.T.ns, fl_s _ _, _, rfl, x, C, dx, _, _, rfl, hx2, L.T.cl, L.T.nt, fl_t _ _, (by show 3 ≤ sizeLine; decide), fun D2 nD2 => ?_⟩
  have s3 := same_upd (o := .lst [.int 1, .int (sc : Int), .int (tl : Int)]) nD2
  have e3 : (upd H2 D2 (.lst [.int 1, .int (sc : Int), .int (tl : Int)])) D2 = some (.lst [.int 1, .int (sc : Int), .int (tl : Int)]) := upd_same
  have eD3 := s3 _ _ eD'
  have eP3 := s3 _ _ (s2 _ _ eP)
  have s03 := (s1.trans s2).trans s3
  generalize upd H2 D2 (.lst [.int 1, .int (sc : Int), .int (tl : Int)]) = H3 at *
  refine ⟨.list (((ps.map (·.length)).map fun k : Nat => (k : Int)).map PyData.int), .list ((([1, sc, tl] : List Nat).map fun k : Nat => (k : Int)).map PyData.int), .lst (SqL.of eD3) (dp_ints _), .lst (SqL.of e3) (dp_ints [(1 : Int), (sc : Int), (tl : Int)]), PySem.W.shaped_ints _, PySem.W.shaped_ints _, ?_⟩
  rw [eqv_len]
  by_cases hl : ps.map (·.length) = [1, sc, tl]
  · rw [decide_eq_true hl]
    refine ⟨_, rfl, iteF ?_⟩
    try dsimp only [tNext]
    try simp only [L2.start, List.map_cons, List.map_nil, List.length_cons, List.length_nil, List.replicate_succ, List.replicate_zero, List.cons_append, List.nil_append, List.set_cons_succ, List.set_cons_zero, Nat.reduceAdd, Nat.reduceSub, Nat.zero_add]
    refine ⟨rfl, _, rfl, _, Pp, ps, rfl, rfl, .inl (SqL.of eP3), ?_, ?_⟩
    · show (ps.map (·.length)).sum + ps.length * 0 ≤ 16777216
      omega
    rw [← hJ]
    refine ⟨J, rfl, ?_⟩
    refine for_it (walk_str (z := J)) (fun j σ H9 => ∃ (y4 : Option V), σ = [some (.ref x), some (.str z), some (.ref Pp), some (.int ((fd2 (J.cps.toList.take j) : Nat) : Int)), y4, none] ∧ Same H3 H9 ∧ ∀ c ∈ J.cps.toList.take j, c = 48 ∨ c = 49) ⟨_, rfl, Same.refl _, fun c hc => by simp at hc⟩ (fun _ _ _ _ _ => trivial) ?_ ?_
    · rintro j v' σ H9 H10 hj ⟨y4, rfl, s9, h01⟩ ⟨rfl, c, hc, rfl⟩
      have hc' : J.cps.toList[j]? = some c := by rw [Array.getElem?_toList]; exact hc
      dsimp only [gName]
      try simp only [L2.start, List.map_cons, List.map_nil, List.length_cons, List.length_nil, List.replicate_succ, List.replicate_zero, List.cons_append, List.nil_append, List.set_cons_succ, List.set_cons_zero, Nat.reduceAdd, Nat.reduceSub, Nat.zero_add]
      refine ⟨_, rfl, (by show 2 ≤ sizeLine; decide), fun T nT => ?_⟩
      have sT := same_upd (o := .tup [.str "0", .str "1"]) nT
      refine ⟨T, _, rfl, .inr (.inl (.inl upd_same)), rfl, rfl, _, rfl, ?_⟩
      by_cases hb : c = 48 ∨ c = 49
      · refine iteN81 ?_ ?_
        · rcases hb with z | z <;> subst z <;> rfl
        try dsimp only [tNext]
        refine ⟨_, rfl, _, _, rfl, rfl, .inl ⟨by decide, by decide⟩, _, rfl, _, ((c - 48 : Nat) : Int), rfl, ?_, ?_, _, _, rfl, rfl, ?_⟩
        · rcases hb with z | z <;> subst z <;> decide +kernel
        · show (1 : Nat) ≤ 640
          decide
        refine ⟨some (.str ⟨#[c]⟩), ?_, s9.trans sT, ?_⟩
        · rw [List.take_add_one, hc', show (some c).toList = [c] from rfl, fd2_snoc]
          generalize fd2 (J.cps.toList.take j) = W
          show [_, _, _, some (V.int (2 * (W : Int) + ((c - 48 : Nat) : Int))), _, _] = [_, _, _, some (V.int ((2 * W + (c - 48) : Nat) : Int)), _, _]
          rw [Int.natCast_add, Int.natCast_mul]
          rfl
        · intro d hd
          rw [List.take_add_one, hc'] at hd
          rcases List.mem_append.mp hd with h | h
          · exact h01 d h
          · rw [List.mem_singleton.mp h]
            exact hb
      · refine iteT' ?_ ?_
        · rw [in_two]
          have ne : ∀ k : Nat, c ≠ k → ¬ (⟨#[k]⟩ : Str) = ⟨#[c]⟩ := fun k hk e => hk (by
            injection e with e
            injection e with e
            injection e with e _
            exact e.symm)
          rw [decide_eq_false]
          · rfl
          · rintro (e | e)
            · exact ne 48 (fun z => hb (.inl z)) e
            · exact ne 49 (fun z => hb (.inr z)) e
        refine ⟨_, rfl, _, rfl, fun d nd => q2 (rn fun z => hb ?_) d _ (s03.trans (s9.trans sT)) nd⟩
        have := List.all_eq_true.mp z.2 c (List.mem_of_getElem? hc')
        simpa using this
    · rintro σ H9 ⟨y4, rfl, s9, h01⟩
      rw [List.take_of_length_le (by rw [Array.length_toList]; exact Nat.le_refl _)] at h01 ⊢
      refine ⟨_, rfl, q1 _ (rs hl ?_) _ (s03.trans s9)⟩
      exact List.all_eq_true.mpr fun c hc => by simpa using h01 c hc
  · rw [decide_eq_false hl]
    refine ⟨_, rfl, iteT ?_⟩
    exact ⟨_, rfl, _, rfl, fun d nd => q2 (rn fun z => hl z.1) d _ s03 nd⟩
end
/-! ### len(set(xs)), xs a list of unlike texts -/
section
variable {prog : Program} {w : World} {A : Around} {R : Result → Shared → Prop} {I : Addr} {fp wr : List Addr} {G : Array GenState → Array GenState → Prop} {n : Nat} {P : Nat → Value → Prop} {St : Nat → Shared → Prop}
theorem ns_take {xs : List Str} (nd : xs.Nodup) {i : Nat} (hi : i < xs.length) (k' : Str) : ((xs.take i).any (· == k') || decide (k' = xs[i])) = (xs.take (i + 1)).any (· == k') ∧ (xs.take i).any (· == xs[i]) = false := by
  refine ⟨?_, ?_⟩
  · rw [List.take_add_one, List.getElem?_eq_getElem hi, List.any_append]
    congr 1
    show decide (k' = xs[i]) = ((xs[i] == k') || false)
    rw [Bool.or_false, Bool.eq_iff_iff, decide_eq_true_iff, beq_iff_eq]
    exact ⟨fun z => z.symm, fun z => z.symm⟩
  · refine List.any_eq_false.mpr fun x hx z => ?_
    rw [beq_iff_eq] at z
    obtain ⟨j, hj, ej⟩ := List.getElem_of_mem hx
    rw [List.length_take] at hj
    rw [List.getElem_take] at ej
    exact List.pairwise_iff_getElem.mp nd j i (by omega) hi (by omega) (ej.trans z)
theorem ns_loop (W : WalksS prog w A.in1 I fp wr G n P St) (S : Addr) (hSf : S ∉ fp) (xs : List Str) (nd : xs.Nodup) (hsz : xs.length = n) (hb : n < 4000) (hval : ∀ i v, P i v → ∃ t, v = .str (xs.getD i Str.empty) t) :
    ∀ (k i : Nat) (s : Shared), n - i = k → i ≤ n → St i s → s.heap.SetOf (PySem.strKind prog w) S (fun k' => (xs.take i).any (· == k')) i →
      (∀ s', Moved (S :: wr) G s s' → s'.heap.SetOf (PySem.strKind prog w) S (fun k' => xs.any (· == k')) n → R (.ok (.ret .none)) s') → codeAny (model prog w) A (.builtin "set.update.loop" ⟨[.ref S, .ref I], []⟩) R s := by
  have nw : S ∉ wr := fun h => hSf (W.sub _ h)
  have up : ∀ b ∈ wr, b ∈ S :: wr := fun b h => List.mem_cons_of_mem _ h
  have mv : ∀ {m : Nat} {s s' : Shared} {F : Str → Bool}, Moved wr G s s' → s.heap.SetOf (PySem.strKind prog w) S F m → s'.heap.SetOf (PySem.strKind prog w) S F m := fun hm ⟨o, es, ep, t, ho, r⟩ => ⟨o, es, ep, t, hm.heap S _ nw ho, r⟩
  intro k
  induction k with
  | zero =>
    intro i s hk hi st hS hR
    obtain rfl : i = n := by omega
    rw [List.take_of_length_le (by omega)] at hS
    refine codeAny_builtin PyProof.Rows.F.entry_set_update_loop ?_; rw [Around.under_plainId PyProof.Rows.F.plain_set_update_loop _]
    show wpAny _ A.in1 (pyNext (.ref I) >>= fun _ => _) _ _ s; exact wpAny_bind (W.done s _ _ st fun s' hm => wpAny_pure (hR s' (hm.mono up) (mv hm hS)))
  | succ k ih =>
    intro i s hk hi st hS hR
    have lt : i < n := by omega
    have li : i < xs.length := by omega
    refine codeAny_builtin PyProof.Rows.F.entry_set_update_loop ?_; rw [Around.under_plainId PyProof.Rows.F.plain_set_update_loop _]
    show wpAny _ A.in1 (pyNext (.ref I) >>= fun _ => _) _ _ s; refine wpAny_bind (W.item i s _ _ lt st fun v s' hP st' hm => ?_)
    obtain ⟨t, rfl⟩ := hval i v hP
    have ex : xs.getD i Str.empty = xs[i] := by simp [List.getD, List.getElem?_eq_getElem li]
    rw [ex]
    show wpAny _ A.in1 (holding [Value.str xs[i] t] (setAdd S (.str xs[i] t)) >>= fun _ => _) _ _ s'; refine wpAny_bind (wpAny_holding ?_); unfold setAdd
    refine wpAny_holding (wpAny_bind ((PySem.strKind prog w).pyHash (k := xs[i]) (strKind_is _ _ _ _) ?_))
    refine wpAny_setAddHashed_of (knd := PySem.strKind prog w) (s := { s' with toks := s'.toks + 1 }) (strKind_is _ _ _ _) rfl (mv (s' := s') hm hS) (by unfold scanBound; omega) fun h' same hS2 => ?_
    rw [(ns_take nd li xs[i]).2, if_neg Bool.false_ne_true] at hS2
    have hS3 := PyProof.Rows.SetOf_congr hS2 (fun k' => (ns_take nd li k').1) rfl
    refine wpAny_pure ⟨plainId_quiet PyProof.Rows.F.plain_set_update_loop _, ih (i + 1) _ (by omega) lt (W.frame _ s' _ _ st' (Nat.le_succ _) fun b hb o e => ?_) hS3 fun s'' hm'' hS'' => hR s'' (Moved.trans W.gtrans ((hm.mono up).then_heap (Nat.le_succ _) fun b o hb e => ?_) hm'') hS''⟩
    · exact (same.2 b (fun h : b = S => hSf (h ▸ hb))).trans e
    · exact (same.2 b (fun h : b = S => hb (by rw [h]; exact List.mem_cons_self))).trans e
end
section
variable {prog : Program} {w : World} {A : Around} {E : Value → Shared → Prop} {s : Shared}
set_option maxHeartbeats 3200000 in
theorem ns_call {l : Addr} {items : Array Value} {xs : List Str} {Q : Value → Shared → Prop} (hh : A.handled = none) (hl : s.heap.IsList l items) (hi : PyProof.Rows.StrsAre items.toList xs) (nd : xs.Nodup) (hb : xs.length < 4000)
    (h : ∀ (h' : Heap) (tk : Nat), h'.SetOf (PySem.strKind prog w) s.heap.objs.size (fun k' => xs.any (· == k')) xs.length → (∀ b o, b < s.heap.objs.size → s.heap.get? b = some o → h'.get? b = some o) → Q (.ref s.heap.objs.size) { s with heap := h', toks := tk }) :
    wpAny (model prog w) A (call (.type "set") [.ref l]) Q E s := by
  have ⟨c, tl, hmro⟩ := PySem.F.called_set.mro
  have made' := PySem.F.called_set.made; have sub' := PySem.F.called_set.sub; have nt' := PySem.F.called_set.notType; have cc' := PySem.F.called_set.canCreate; have tc' := PySem.F.typeCall_set_1 (.ref l)
  refine wpAny_call (codeAny_of_tree ?_); show wpAny _ _ (callAny (.type "set") _) _ _ _
  refine wpAny_pure ⟨Code.quiet_builtin _ (by decide +kernel), codeAny_builtin PySem.F.entry_type_call ?_⟩; rw [Around.under_plain (weight_type_call_type "set" [.ref l] []) rfl]
  repeat (any_goals (first | assumption | wp_step))
  refine codeAny_mono (PySem.code_set_new_1 (.ref l) (E := E) (Q₁ := fun obj s₁ => ∃ led : Bool, obj = .ref s.heap.objs.size ∧ s₁ = { s with heap := s.heap.push { cls := .type "set", dict := none, data := .set #[] 0 (.fresh 0 0 led) } }) fun led => ⟨led, rfl, rfl⟩) fun r s₁ hr => ?_; cases r with
  | error e => exact hr
  | ok fl =>
    cases fl with
    | ret obj =>
      obtain ⟨led, rfl, rfl⟩ := hr
      obtain ⟨hp, eh⟩ : ∃ hp, hp = s.heap.push { cls := .type "set", dict := none, data := .set #[] 0 (.fresh 0 0 led) } := ⟨_, rfl⟩
      have gS : hp.get? s.heap.objs.size = some { cls := .type "set", dict := none, data := .set #[] 0 (.fresh 0 0 led) } := by rw [eh]; exact Heap.get?_push_size _ rfl
      have zS : hp.objs.size = s.heap.objs.size + 1 := by rw [eh, Heap.size_push]
      have kS : ∀ b o, s.heap.get? b = some o → hp.get? b = some o := fun b o e => by rw [eh]; exact Heap.get?_push_of_some _ e
      rw [← eh]
      have hT : Shared.TypeIs { s with heap := hp } (.ref s.heap.objs.size) "set" := ⟨_, gS, rfl⟩
      have li' := PySem.F.called_set.init.lookup; have bi' := PySem.F.called_set.init.bind (.ref s.heap.objs.size)
      repeat (any_goals (first | assumption | wp_step))
      refine codeAny_mono (codeAny_call_builtin (R := wants (fun r s2 => r = .none ∧ ∃ h' tk, s2 = { s with heap := h', toks := tk } ∧ h'.SetOf (PySem.strKind prog w) s.heap.objs.size (fun k' => xs.any (· == k')) xs.length ∧ (∀ b o, b < s.heap.objs.size → s.heap.get? b = some o → h'.get? b = some o)) E) PySem.F.called_set.init.plain PySem.F.entry_set_init (PySem.check_set_init_1 hT ?_)) fun r2 s2 hr2 => ?_
      · obtain ⟨⟨ocls, odict, odata, oslots⟩, hol, hcl, nl, hdl⟩ := hl
        dsimp only at hcl hdl
        subst hcl hdl
        have hol2 := kS _ _ hol
        have is1 := PySem.F.sub_list_set; have is2 := PySem.F.sub_list_frozenset
        have ne1 : (Value.type "list" == Value.type "dict") = false := by decide
        have hl2 : hp.IsList l items := ⟨_, hol2, rfl, nl, rfl⟩
        have lS : l < s.heap.objs.size := Heap.lt_size hol
        unfold Builtin.«set.__init__» noKeywords Builtin.Frozenset.updateFrom; generalize ePI : pyIter = PI; wp_walk; subst ePI
        refine wpAny_pyIter_list hl2 (wpAny_bind (wpAny_runValue ?_))
        have h3 : A.in1.in1.in1.handled = none := by simp [hh]
        have nI : l ≠ hp.objs.size := by rw [zS]; exact Nat.ne_of_lt (Nat.lt_succ_of_lt lS)
        have nf : s.heap.objs.size ∉ [hp.objs.size, l] := by
          rw [zS]; simp only [List.mem_cons, List.not_mem_nil, or_false, not_or]; exact ⟨Nat.ne_of_lt (Nat.lt_succ_self _), Nat.ne_of_gt lS⟩
        have szx : xs.length = items.size := by rw [← PyProof.Rows.StrsAre.len_eq hi, Array.length_toList]
        refine ns_loop ((Walks.list h3 _ l nI items).toS) s.heap.objs.size nf xs nd szx (by omega) (fun i v hv => SS.strs_at hi i v (by rw [Array.getElem?_toList]; exact hv)) (items.size - 0) 0 _ (by omega) (Nat.zero_le _) ⟨⟨_, Heap.get?_push_size _ rfl, rfl, rfl⟩, (hl2.push _)⟩ ?_ ?_
        · exact PyProof.Rows.SetOf_congr ((PyProof.Rows.setObjOf_fresh (knd := PySem.strKind prog w) led).setOf (Heap.get?_push_of_some _ gS) (by unfold scanBound; omega)) (fun _ => rfl) rfl
        · intro s' hm hS
          obtain ⟨h', g', d', tk', os'⟩ := s'
          obtain rfl : g' = s.gens := hm.gens
          obtain rfl : d' = s.drawn := hm.drawn
          obtain rfl : os' = s.os := hm.os
          show wpAny _ _ _ _ _ _; refine wpAny_pure ?_; show wpAny _ _ (ret Value.none) _ _ _
          refine wpAny_pure ⟨rfl, h', tk', rfl, by rw [szx]; exact hS, fun b o hb e => hm.heap b o ?_ (Heap.get?_push_of_some _ (kS _ _ e))⟩
          simp only [List.mem_cons, List.not_mem_nil, or_false, not_or]; rw [zS]; exact ⟨Nat.ne_of_lt hb, Nat.ne_of_lt (Nat.lt_succ_of_lt hb)⟩
      · cases r2 with
        | error e => exact hr2
        | ok fl2 =>
          cases fl2 with
          | ret r =>
            obtain ⟨rfl, h', tk, rfl, hS', hk'⟩ := hr2
            repeat (any_goals (first | assumption | wp_step))
            exact h _ _ hS' hk'
          | _ => exact hr2.elim
    | _ => exact hr.elim
end
theorem strs_of : ∀ {ys : List Str} {us : List Value}, Vals (ys.map V.str) us → PyProof.Rows.StrsAre us ys
  | [], _, .nil => .nil
  | y :: ys, _, .cons ⟨k, e⟩ t => by subst e; exact .cons y k (strs_of t)
def tLenSetN (K : PySem.W.Frag) (ta : TE) : TE := fun σ H Q => ta σ H fun x H1 => ∃ l, ∃ xs : List Str, x = .ref l ∧ SqL K H1 l (xs.map V.str) ∧ xs.Nodup ∧ xs.length < 4000 ∧ Q (.int xs.length) H1
theorem pe_lenSetN {X : Cx} {a : Expr} {ta : TE} {p p2 q pos : Pos} (hc : X.calm = true) (hg : Gl X "len") (hm : X.mg "len" = none) (hg2 : Gl X "set") (hm2 : X.mg "set" = none) (ha : PE X a ta)
    (na : starEach [a] X.env = (false, eval a X.env) :: starEach [] X.env := by rfl) : PE X (.Call (.Name "len" p) [.Call (.Name "set" p2) [a] [] q] [] pos) (tLenSetN X.K ta) := by
  refine ⟨fun pins s σ H Q I h => Call_ (ld_blt I hg hm boot_len (PyProof.Rows.callWith_builtin1 (PyProof.Rows.args_cons (Call_ (ld_blt I hg2 hm2 boot_set ?_)) rfl) rfl rfl))⟩
  refine PyProof.Rows.callWith_type1 (PyProof.Rows.args_cons (thn (ha.run pins s σ H _ I h) fun v s1 ⟨x, H1, I1, r1, l, xs, ex, hq, nd, hb, q1⟩ => PyProof.Rows.args_nil ?_) na) na rfl
  subst ex
  cases r1
  obtain ⟨its, r, pl, hz⟩ := I1.list hq
  refine ns_call (I1.ok.hd hc) pl.isList (by simpa using strs_of r) nd hb fun h' tk hS hk => PyProof.Rows.args_nil ?_
  obtain ⟨o, es, ep, t, ho, hex, hd, _, _, _, hf, hn⟩ := hS
  have I2 : Inv X pins σ H1 { s1 with heap := h', toks := tk } := I1.kept fun b o e => hk b o (Heap.lt_size e) e
  exact call_len_set ho hex hd hf (by rw [hn]; omega) ⟨.int xs.length, H1, I2.tok _, ⟨_, by rw [hn]⟩, q1⟩
section
variable {P : Program} {w : World} {K : PySem.W.Frag} {mg : Str → Option Value} {base : Heap}
variable {C : Addr} {za : Nat → Addr} {zl : Nat → FuncData} {t28 : Tok} {fW : Addr} {DR : Addr} {tr : Nat → Addr} {E_BadText I_BadText E_BadRow I_BadRow : Addr}
/-! ### the readers -/
theorem units1 {k : Nat} {A : Around} (r : Room k A) : A.units + 1 < cLine := by have := r.un; omega
theorem units64 {k : Nat} {A : Around} (r : Room k A) : A.units + 64 < cLine := by have := r.un; omega
theorem big_lt {n : Nat} (h : n ≤ 20000) : n < sizeLine := by rw [sizeLine_eq]; omega
def isX (G : Str) (m : Nat) (z : Str) : Bool := decide (z.length = m) && z.cps.toList.all fun c => decide (c ∈ G.cps.toList)
def spIsX : Sp := fun vs H Q _ => ∃ (G z : Str) (m : Nat), vs = [.str G, .int (m : Int), .str z] ∧ z.length ≤ 900 ∧ ∀ H', Same H H' → Q (.bl (isX G m z)) H'
theorem ok_is_text_of (B : Bl mg) (L : LL K mg C za zl t28 fW DR tr w E_BadText I_BadText E_BadRow I_BadRow) : FnOk P w K mg base CX0 1 (za 3) (zl 3) ["signs", "many", "thing"] spIsX := by
  refine L.F_is_text_of.ok sc_is_text_of (fun vs H Q E h => ?_) (fun cdv A outer s H vs Q E hr h => ?_)
  · obtain ⟨G, z, m, rfl, _⟩ := h
    rfl
  obtain ⟨G, z, m, rfl, hz, q⟩ := h
  have lz : z.cps.toList.length = z.length := Array.length_toList
  refine ⟨_, (pss_one (ps_ret (pe_and (pe_callB call_isi (by rfl) B.isinstance boot_isinstance (pa_cons (pv 2) (pa_cons (pe_bltn (v := .ty "str") (by rfl) B.str PyProof.Rows.boot_str rfl) pa_nil))) (pe_and (pe_cmpR op_eq (pe_callB call_len_str (by rfl) B.len PySem.boot_len (pa_cons (pv 2) pa_nil)) (pv 1) (nomark _)) (pe_one (pe_callB (cr_all rfl) (by rfl) B.all boot_all (pa_cons (pe_lc (own := [("sign", 3)]) (by rfl) sc_is_text_of.nd (pi_str (pv 2)) (blkOk_by (own := [("sign", 3)]) (N := ["signs", "many", "thing", "sign"]) (sc := defScope s_is_text_of) (by decide +kernel)) (fun _ _ _ _ _ => pg_name (i := 3) sc_is_text_of.nd rfl (Or.inl rfl)) (fun _ _ _ _ _ => pts_nil) (fun _ _ _ _ _ => (pe_cmpR op_in_sign (pv 3) (pv 0) (by rfl)))) pa_nil))))))), ?_⟩
  refine ⟨_, rfl, _, _, _, _, _, rfl, .ty _, .base (.str _), kit_ty (by decide +kernel : kitB "str" "str" = some true), _, rfl, iteT ?_⟩
  refine ⟨_, rfl, _, rfl, (by rw [sizeLine_eq]; omega), ?_⟩
  refine ⟨_, rfl, rfl, _, rfl, ite2 (fun c => ?_) (fun c => ?_)⟩
  · have lx : z.length = m := by
      have := V.int.inj (of_decide_eq_true c)
      omega
    refine ⟨_, rfl, z, rfl, fun D nD => ?_⟩
    refine lc_it (walk_str (z := z)) (fun i H6 => Same H H6 ∧ H6 D = some (.lst (((z.cps.toList.map fun c => decide (c ∈ G.cps.toList)).take i).map V.bl))) ⟨same_upd nD, upd_same⟩ (fun _ _ _ _ => trivial) ?_ ?_
    · rintro i v H6 H7 hi ⟨s6, eD⟩ ⟨rfl, c, hc, rfl⟩
      have hc' : z.cps.toList[i]? = some c := by rw [Array.getElem?_toList]; exact hc
      refine ⟨rfl, yesT ?_⟩
      refine ⟨_, rfl, _, rfl, c, _, rfl, rfl, ?_⟩
      refine ⟨_, eD, ?_, fun y o e => ?_, ?_⟩
      · rw [List.length_map, List.length_take, List.length_map]
        exact Nat.lt_of_le_of_lt (Nat.min_le_right _ _) (big_lt (by omega))
      · rw [upd_ne (ne_of_none e nD)]
        exact s6 _ _ e
      · rw [upd_same, List.take_add_one, List.getElem?_map, hc', List.map_append]
        rfl
    · rintro H6 ⟨s6, eD⟩
      rw [List.take_of_length_le (by rw [List.length_map]; exact Nat.le_of_eq Array.length_toList)] at eD
      refine ⟨D, _, rfl, SqL.of eD, ?_⟩
      have e : (z.cps.toList.map fun c => decide (c ∈ G.cps.toList)).all id = isX G m z := by
        show _ = (decide (z.length = m) && z.cps.toList.all fun c => decide (c ∈ G.cps.toList))
        rw [decide_eq_true lx, List.all_map]
        rfl
      rw [e]
      exact q H6 s6
  · have lx : ¬ z.length = m := fun y => c (decide_eq_true (by rw [y]))
    have e : isX G m z = false := by
      show (decide (z.length = m) && z.cps.toList.all fun c => decide (c ∈ G.cps.toList)) = false
      rw [decide_eq_false lx]
      rfl
    have q := q H (Same.refl _)
    rw [e] at q
    exact q
/-- what a reader is to tell of a text -/
def sgT (c : Nat) : Str := ⟨#[48 + c]⟩
def spCellIn : Sp := fun vs H Q _ => ∃ (x : Addr) (c : Nat), vs = [.ref x, .str (sgT c)] ∧ c ≤ 7 ∧ ∀ H', Same H H' → Q (.int (c : Int)) H'
theorem ok_cell_in (B : Bl mg) (L : LL K mg C za zl t28 fW DR tr w E_BadText I_BadText E_BadRow I_BadRow) : FnOk P w K mg base CX0 2 (za 5) (zl 5) ["form", "text"] spCellIn := by
  have G_is_text_of : FnOk P w K mg base CX0 1 (za 3) (zl 3) ["signs", "many", "thing"] spIsX := (ok_is_text_of B L).mono (by decide)
  refine L.F_cell_in.ok sc_cell_in (fun vs H Q E h => ?_) (fun cdv A outer s H vs Q E hr h => ?_)
  · obtain ⟨x, c, rfl, _⟩ := h
    rfl
  obtain ⟨x, c, rfl, hc, q⟩ := h
  refine ⟨_, (pss_one (ps_ret (pe_ifExp (pt_val (pe_call G_is_text_of hr (by rfl) L.m_is_text_of L.F_is_text_of.kp L.b_is_text_of .nil pass0 (pa_cons pe_str (pa_cons pe_int (pa_cons (pv 1) pa_nil))))) (pe_callTy call_int_str (by rfl) B.int PyProof.Rows.boot_int (pa_cons (pv 1) pa_nil)) pe_non))), ?_⟩
  have ex : isX "01234567" 1 (sgT c) = true ∧ PySem.intText? (sgT c) = some (c : Int) := by
    have : c = 0 ∨ c = 1 ∨ c = 2 ∨ c = 3 ∨ c = 4 ∨ c = 5 ∨ c = 6 ∨ c = 7 := by omega
    rcases this with z | z | z | z | z | z | z | z <;> subst z <;> exact ⟨by decide +kernel, by decide +kernel⟩
  refine ⟨_, rfl, "01234567", sgT c, 1, rfl, (by show 1 ≤ 900; decide), fun H1 s1 => ?_⟩
  rw [ex.1]
  exact ⟨_, rfl, iteT ⟨_, rfl, sgT c, (c : Int), rfl, ex.2, (by show 1 ≤ 640; decide), q H1 s1⟩⟩
theorem cut_three (A B C : List Nat) {a b : Int} (ha : a = (A.length : Int)) (hb : b = ((A.length + B.length : Nat) : Int)) : cutS ⟨(A ++ (B ++ C)).toArray⟩ none (some a) = ⟨A.toArray⟩ ∧ cutS ⟨(A ++ (B ++ C)).toArray⟩ (some a) (some b) = ⟨B.toArray⟩ ∧ cutS ⟨(A ++ (B ++ C)).toArray⟩ (some b) none = ⟨C.toArray⟩ := by
  subst ha hb
  have l : (⟨(A ++ (B ++ C)).toArray⟩ : Str).length = A.length + (B.length + C.length) := by
    show (A ++ (B ++ C)).toArray.size = _
    rw [List.size_toArray, List.length_append, List.length_append]
  unfold cutS
  rw [l]
  dsimp only
  rw [HT.sIx_nat, HT.sIx_nat, HT.sIx_nat, HT.sIx_nat, HT.sIx_none, HT.sIx_none, Nat.min_eq_left (by omega), Nat.min_eq_left (by omega)]
  refine ⟨?_, ?_, ?_⟩
  · rw [Nat.sub_zero, List.drop_zero, List.take_left' rfl]
  · rw [List.drop_left' rfl, Nat.add_sub_cancel_left, List.take_left' rfl]
  · rw [← List.append_assoc, List.drop_left' (by rw [List.length_append]), List.take_of_length_le (by omega)]
theorem rdT_sp {sc tl tl' v : Nat} (hv : v < 2 ^ (1 + sc + tl)) : rdT (spT sc tl v) sc tl' = if tl' = tl then some v else none := by
  have hs := sp_split hv
  have hl := spP_len sc tl v
  have hj : jt (spT sc tl v) = bitsL (1 + sc + tl) v := by
    unfold jt
    rw [hs, spJ hv]
  by_cases e : tl' = tl
  · subst e
    rw [if_pos rfl, rdT_some (by rw [hs, hl]) (by
      rw [hj]
      exact List.all_eq_true.mpr fun c hc => by
        rcases bitsL_01 _ _ c hc with z | z <;> subst z <;> rfl), hj]
    unfold fd2
    rw [bitsL_fold _ _ _ hv, Nat.zero_mul, Nat.zero_add]
  · rw [if_neg e, rdT_none]
    rintro ⟨h, _⟩
    rw [hs, hl] at h
    injection h with _ h
    injection h with _ h
    injection h with h _
    exact e h.symm
def spBitsIn (C : Addr) : Sp := fun vs H Q _ => ∃ (x : Addr) (sc tl tl' w : Nat), vs = [.ref x, .str (bt (1 + sc + tl) w)] ∧ FAt C H x sc tl' ∧ tl ≤ 24 ∧ w < 2 ^ (1 + sc + tl) ∧ ∀ H', Same H H' → Q (if tl' = tl then .int (w : Int) else .non) H'
theorem ok_bits_in (B : Bl mg) (L : LL K mg C za zl t28 fW DR tr w E_BadText I_BadText E_BadRow I_BadRow) : FnOk P w K mg base CX0 3 (za 6) (zl 6) ["form", "text"] (spBitsIn C) := by
  refine L.F_bits_in.ok sc_bits_in (fun vs H Q E h => ?_) (fun cdv A outer s H vs Q E hr h => ?_)
  · obtain ⟨x, sc, tl, tl', w, rfl, _⟩ := h
    rfl
  obtain ⟨x, sc, tl, tl', w0, rfl, hF, h24, hw, q⟩ := h
  obtain ⟨dx, hx, h1, h2, h3, h4⟩ := id hF
  have G_U := (ok_word_inG (P := P) (w := w) (base := base) B L).mono (show 2 ≤ 2 by decide)
  refine ⟨_, (pss_cons (ps_set (i := 2) sc_bits_in.nd rfl (.inl rfl) (pe_lst (pa_cons (pe_slice sl_str (pv 1) po_none (po_some pe_int)) (pa_cons (pe_slice sl_str (pv 1) (po_some pe_int) (po_some (pe_op op_add (pe_fld (pv 0) rfl) pe_int))) (pa_cons (pe_slice sl_str (pv 1) (po_some (pe_op op_add (pe_fld (pv 0) rfl) pe_int)) po_none) pa_nil)))))
    (pss_one (ps_try_only (c := .ref E_BadText) (Wout := fun _ _ _ _ => False) rfl rfl ⟨rfl, by decide, Or.inl L.g_BadText⟩ takes00 (fun W pn xe tk _ => pss_one (ps_ret (pe_callS G_U hr rfl L.m_word_in L.F_word_in.kp L.b_word_in (E := WE W) (fun σ => passAt tk σ) (pa_cons (pv 0) (pa_cons (pe_bmKX (K := K) PySem.F.plainAttrs_str PySem.F.slot_str_join PySem.F.type_str_join (mt_joinKX (K := K)) pe_str (pa_cons (pv 2) pa_nil)) pa_nil))))) (fun a oe cls d pn hz hf => pss_one (ps_ret pe_non))))), ?_⟩
  have lb : ∀ k n, (bt k n).length = k := fun k n => by rw [TL.len_tl, tl_bt, bitsL_len]
  have hl := lb (1 + sc + tl) w0
  have hz : (bt (1 + sc + tl) w0).length ≤ sizeLine := by rw [hl, sizeLine_eq]; omega
  refine ⟨_, rfl, 1, rfl, _, rfl, hz, ?_⟩
  refine ⟨_, rfl, 1, rfl, _, rfl, x, C, dx, _, _, rfl, hx, L.T.cl, L.T.ns, fl_s _ _, _, _, rfl, rfl, _, rfl, _, rfl, hz, ?_⟩
  refine ⟨_, rfl, _, rfl, x, C, dx, _, _, rfl, hx, L.T.cl, L.T.ns, fl_s _ _, _, _, rfl, rfl, _, rfl, ?_⟩
  dsimp only [tNoPart]
  refine ⟨_, rfl, hz, ?_⟩
  refine ⟨(by show 3 ≤ sizeLine; decide), fun Pp nP => ?_⟩
  obtain ⟨e1, e2, e3⟩ := cut_three (bitsL 1 (gN sc tl w0)) (bitsL sc (mN sc tl w0)) (bitsL tl (tN tl w0)) (a := 1) (b := (sc : Int) + 1) (by rw [bitsL_len]; rfl) (by rw [bitsL_len, bitsL_len]; omega)
  rw [sp_bits hw] at e1 e2 e3
  have e1 : cutS (bt (1 + sc + tl) w0) none (some 1) = bt 1 (gN sc tl w0) := e1
  have e2 : cutS (bt (1 + sc + tl) w0) (some 1) (some ((sc : Int) + 1)) = bt sc (mN sc tl w0) := e2
  have e3 : cutS (bt (1 + sc + tl) w0) (some ((sc : Int) + 1)) none = bt tl (tN tl w0) := e3
  have eH : (upd H Pp (.lst [.str (cutS (bt (1 + sc + tl) w0) none (some 1)), .str (cutS (bt (1 + sc + tl) w0) (some 1) (some ((sc : Int) + 1))), .str (cutS (bt (1 + sc + tl) w0) (some ((sc : Int) + 1)) none)])) = upd H Pp (.lst ((spP sc tl w0).map V.str)) := by
    rw [e1, e2, e3]
    rfl
  dsimp only [gName]
  rw [eH]
  have s1 := same_upd (o := .lst ((spP sc tl w0).map V.str)) nP
  have eP : (upd H Pp (.lst ((spP sc tl w0).map V.str))) Pp = some (.lst ((spP sc tl w0).map V.str)) := upd_same
  generalize upd H Pp (.lst ((spP sc tl w0).map V.str)) = H1 at *
  try simp only [L2.start, List.map_cons, List.map_nil, List.length_cons, List.length_nil, List.replicate_succ, List.replicate_zero, List.cons_append, List.nil_append, List.set_cons_succ, List.set_cons_zero, Nat.reduceAdd, Nat.reduceSub, Nat.zero_add]
  refine ⟨_, rfl, rfl, _, rfl, _, Pp, spP sc tl w0, rfl, rfl, .inl (SqL.of eP), ?_, ?_⟩
  · show ((spP sc tl w0).map (·.length)).sum + 3 * 1 ≤ 16777216
    rw [spP_len]
    show 1 + (sc + (tl + 0)) + 3 * 1 ≤ 16777216
    omega
  rw [show Txt.join " " (spP sc tl w0) = spT sc tl w0 from TL.join_eq ..]
  have rd := rdT_sp (tl' := tl') hw
  refine ⟨x, sc, tl', spT sc tl w0, rfl, hF.same s1, ?_, fun v hv H' s2 => ?_, fun hn d H' s2 nd => ?_⟩
  · rw [spT_len]
    omega
  · rw [rd] at hv
    have q := q H' (s1.trans s2)
    by_cases e : tl' = tl
    · rw [if_pos e] at hv q
      cases hv
      exact q
    · rw [if_neg e] at hv
      cases hv
  · rw [rd] at hn
    by_cases e : tl' = tl
    · rw [if_pos e] at hn
      cases hn
    · have q := q (upd H' d (.xd [(("what" : Str), .str (spT sc tl w0))])) (s1.trans (s2.trans (same_upd nd)))
      rw [if_neg e] at q
      exact ⟨true, L.x_BadText, fun _ a _ => q, fun z => absurd z (by decide)⟩
def spWayIn : Sp := fun vs H Q _ => ∃ (x : Addr) (way : Str), vs = [.ref x, .str way] ∧ way ∈ WL ∧ Q (.str way) H
theorem ok_way_in (B : Bl mg) (L : LL K mg C za zl t28 fW DR tr w E_BadText I_BadText E_BadRow I_BadRow) : FnOk P w K mg base CX0 1 (za 7) (zl 7) ["form", "text"] spWayIn := by
  refine L.F_way_in.ok sc_way_in (fun vs H Q E h => ?_) (fun cdv A outer s H vs Q E hr h => ?_)
  · obtain ⟨x, way, rfl, _⟩ := h
    rfl
  obtain ⟨x, way, rfl, hw, q⟩ := h
  refine ⟨_, (pss_one (ps_ret (pe_ifExp (pt_cmpR op_in_seq (pv 1) (pe_glob (v := .ref fW) rfl L.W.mgW rfl) (by rfl)) (pv 1) pe_non))), ?_⟩
  refine ⟨_, rfl, fW, _, rfl, .inr (L.W.sq H), rfl, rfl, _, rfl, iteT' ?_ ⟨_, rfl, q⟩⟩
  simp only [WL, List.mem_cons, List.not_mem_nil, or_false] at hw
  rcases hw with rfl | rfl | rfl | rfl <;> rfl
def nT (n : Nat) : Str := Str.ofString (toString (n : Int))
theorem num_ok : ∀ n < 901, 1 ≤ n → (nT n).length ≤ 3 ∧ inV (.str (cutS (nT n) none (some 1))) [.str "", .str "0"] = false ∧ isX "0123456789" (nT n).length (nT n) = true ∧ PySem.intText? (nT n) = some (n : Int) := by decide +kernel
def spNumberIn : Sp := fun vs H Q _ => ∃ (x : Addr) (n : Nat), vs = [.ref x, .str (nT n)] ∧ 1 ≤ n ∧ n ≤ 900 ∧ ∀ H', Same H H' → Q (.int (n : Int)) H'
theorem ok_number_in (B : Bl mg) (L : LL K mg C za zl t28 fW DR tr w E_BadText I_BadText E_BadRow I_BadRow) : FnOk P w K mg base CX0 2 (za 8) (zl 8) ["form", "text"] spNumberIn := by
  have G_is_text_of : FnOk P w K mg base CX0 1 (za 3) (zl 3) ["signs", "many", "thing"] spIsX := (ok_is_text_of B L).mono (by decide)
  refine L.F_number_in.ok sc_number_in (fun vs H Q E h => ?_) (fun cdv A outer s H vs Q E hr h => ?_)
  · obtain ⟨x, n, rfl, _⟩ := h
    rfl
  obtain ⟨x, n, rfl, h1, h9, q⟩ := h
  obtain ⟨o1, o2, o3, o4⟩ := num_ok n (by omega) h1
  refine ⟨_, (pss_cons (ps_if (PW.pt (pw_or (pt_cmpR op_gt (pe_callB call_len_str (by rfl) B.len PySem.boot_len (pa_cons (pv 1) pa_nil)) (pe_callB call_len_str (by rfl) B.len PySem.boot_len (pa_cons (pe_callTy call_str_int (by rfl) B.str PyProof.Rows.boot_str (pa_cons (pe_glob (v := .int 900) rfl (L.g_MOST).choose_spec ⟨_, rfl⟩) pa_nil)) pa_nil)) (nomark _)) (pw_or (pt_cmpR op_in_seq (pe_slice sl_str (pv 1) po_none (po_some pe_int)) (pe_tup (pa_cons pe_str (pa_cons pe_str pa_nil))) (by rfl)) (pw_or1 (pt_not (pt_val (pe_call G_is_text_of hr (by rfl) L.m_is_text_of L.F_is_text_of.kp L.b_is_text_of .nil pass0 (pa_cons pe_str (pa_cons (pe_callB call_len_str (by rfl) B.len PySem.boot_len (pa_cons (pv 1) pa_nil)) (pa_cons (pv 1) pa_nil)))))))))) (pss_one (ps_ret pe_non)) pss_nil)
    (pss_one (ps_ret (pe_ifExp (pt_cmpR op_le (pe_callTy call_int_str (by rfl) B.int PyProof.Rows.boot_int (pa_cons (pv 1) pa_nil)) (pe_glob (v := .int 900) rfl (L.g_MOST).choose_spec ⟨_, rfl⟩) (nomark _)) (pe_callTy call_int_str (by rfl) B.int PyProof.Rows.boot_int (pa_cons (pv 1) pa_nil)) pe_non)))), ?_⟩
  have hz : (nT n).length ≤ sizeLine := by rw [sizeLine_eq]; omega
  refine ⟨_, rfl, _, rfl, hz, ?_⟩
  have l3 : (Str.ofString (toString (900 : Int))).length = 3 := by decide +kernel
  refine ⟨900, rfl, (by decide), _, rfl, (by decide +kernel), _, _, rfl, rfl, _, rfl, ite2 (fun c => absurd (of_decide_eq_true c) (by rw [l3]; omega)) (fun c => ?_)⟩
  refine ⟨_, rfl, 1, rfl, _, rfl, hz, (by show 2 ≤ sizeLine; decide), fun T nt => ?_⟩
  have sT := same_upd (o := .tup [.str "", .str "0"]) nt
  refine ⟨T, _, rfl, .inr (SqT.of upd_same), rfl, rfl, _, rfl, iteN81 o2 ?_⟩
  refine ⟨_, rfl, _, rfl, (by rw [sizeLine_eq]; omega), _, rfl, "0123456789", nT n, (nT n).length, rfl, (by omega), fun H1 s1 => ?_⟩
  rw [o3]
  refine ⟨_, rfl, iteF ?_⟩
  try simp only [L2.start, List.map_cons, List.map_nil, List.length_cons, List.length_nil, List.replicate_succ, List.replicate_zero, List.cons_append, List.nil_append, List.set_cons_succ, List.set_cons_zero, Nat.reduceAdd, Nat.reduceSub, Nat.zero_add]
  refine ⟨_, rfl, _, _, rfl, o4, (by omega), _, _, rfl, rfl, _, rfl, iteT' (decide_eq_true (by omega)) ⟨_, rfl, _, _, rfl, o4, (by omega), q _ (sT.trans s1)⟩⟩
end
section
variable {P : Program} {w : World} {K : PySem.W.Frag} {mg : Str → Option Value} {base : Heap}
variable {C : Addr} {za : Nat → Addr} {zl : Nat → FuncData} {t28 : Tok} {fW : Addr} {DR : Addr} {tr : Nat → Addr} {E_BadText I_BadText E_BadRow I_BadRow : Addr}
/-! ### a row read -/
theorem sq_same {K : PySem.W.Frag} {H H' : Hp} {a : Addr} {xs : List V} (e : Same H H') (h : SqL K H a xs) : SqL K H' a xs := by
  rcases h with (h | ⟨o, h⟩) | h
  · exact .inl (.inl (e _ _ h))
  · exact .inl (.inr ⟨o, e _ _ h⟩)
  · exact .inr h
inductive Rd (c b w n : Addr) (sc tl tl' : Nat) : V → Str → V → Prop
  | cell {d : Nat} (h : d ≤ 7) : Rd c b w n sc tl tl' (.ref c) (sgT d) (.int (d : Int))
  | bits {v : Nat} (h : v < 2 ^ (1 + sc + tl)) : Rd c b w n sc tl tl' (.ref b) (bt (1 + sc + tl) v) (if tl' = tl then .int (v : Int) else .non)
  | way {x : Str} (h : x ∈ WL) : Rd c b w n sc tl tl' (.ref w) x (.str x)
  | num {m : Nat} (h : 1 ≤ m) (h' : m ≤ 900) : Rd c b w n sc tl tl' (.ref n) (nT m) (.int (m : Int))
inductive RdAll (c b w n : Addr) (sc tl tl' : Nat) : List V → List Str → List V → Prop
  | nil : RdAll c b w n sc tl tl' [] [] []
  | cons {f : V} {x : Str} {v : V} {fs : List V} {xs : List Str} {vs : List V} : Rd c b w n sc tl tl' f x v → RdAll c b w n sc tl tl' fs xs vs → RdAll c b w n sc tl tl' (f :: fs) (x :: xs) (v :: vs)
theorem RdAll.len {c b w n : Addr} {sc tl tl' : Nat} : ∀ {fs : List V} {xs : List Str} {vs : List V}, RdAll c b w n sc tl tl' fs xs vs → fs.length = xs.length ∧ vs.length = xs.length
  | _, _, _, .nil => ⟨rfl, rfl⟩
  | _, _, _, .cons _ h => ⟨by rw [List.length_cons, List.length_cons, h.len.1], by rw [List.length_cons, List.length_cons, h.len.2]⟩
theorem RdAll.get {c b w n : Addr} {sc tl tl' : Nat} : ∀ {fs : List V} {xs : List Str} {vs : List V} {i : Nat} {f : V} {x : Str}, RdAll c b w n sc tl tl' fs xs vs → fs[i]? = some f → xs[i]? = some x → ∃ v, vs[i]? = some v ∧ Rd c b w n sc tl tl' f x v
  | _, _, _, 0, _, _, .cons h _, e1, e2 => by
    cases e1
    cases e2
    exact ⟨_, rfl, h⟩
  | _, _, _, i + 1, _, _, .cons _ h, e1, e2 => h.get (i := i) e1 e2
def SRd (C c b w n : Addr) : Addr → Sp → Prop := fun f sp => (f = c ∧ sp = spCellIn) ∨ (f = b ∧ sp = spBitsIn C) ∨ (f = w ∧ sp = spWayIn) ∨ (f = n ∧ sp = spNumberIn)
theorem held_rd (B : Bl mg) (L : LL K mg C za zl t28 fW DR tr w E_BadText I_BadText E_BadRow I_BadRow) {f : Addr} {sp : Sp} (h : SRd C (za 5) (za 6) (za 7) (za 8) f sp) : Held P w K mg base 4 f sp := by
  rcases h with ⟨rfl, rfl⟩ | ⟨rfl, rfl⟩ | ⟨rfl, rfl⟩ | ⟨rfl, rfl⟩
  · exact ⟨_, _, (ok_cell_in B L).mono (by decide), L.F_cell_in.kp, L.b_cell_in⟩
  · exact ⟨_, _, (ok_bits_in B L).mono (by decide), L.F_bits_in.kp, L.b_bits_in⟩
  · exact ⟨_, _, (ok_way_in B L).mono (by decide), L.F_way_in.kp, L.b_way_in⟩
  · exact ⟨_, _, (ok_number_in B L).mono (by decide), L.F_number_in.kp, L.b_number_in⟩
def spWordsIn (K : PySem.W.Frag) (C : Addr) (za tr : Nat → Addr) : Sp := fun vs H Q _ => ∃ (x l : Addr) (sc tl tl' i : Nat) (name : Str) (ws : List Str) (us : List V), vs = [.ref x, .str name, .ref l] ∧ FAt C H x sc tl' ∧ tl ≤ 24 ∧ SqL K H l (ws.map V.str) ∧ ws.length ≤ 10 ∧ kdV (rdKV tr) name = some (.ref (tr i)) ∧ i < 13 ∧ RdAll (za 5) (za 6) (za 7) (za 8) sc tl tl' (rdV za i) ws us ∧
  ∀ p H', Same H H' → H' p = some (.lst us) → Q (.ref p) H'
theorem ok_words_in (B : Bl mg) (L : LL K mg C za zl t28 fW DR tr w E_BadText I_BadText E_BadRow I_BadRow) : FnOk P w K mg base CX0 5 (za 10) (zl 10) ["form", "name", "words"] (spWordsIn K C za tr) := by
  refine L.F_words_in.ok sc_words_in (fun vs H Q E h => ?_) (fun cdv A outer s H vs Q E hr h => ?_)
  · obtain ⟨x, l, sc, tl, tl', i, name, ws, us, rfl, _⟩ := h
    rfl
  obtain ⟨x, l, sc, tl, tl', i, name, ws, us, rfl, hF, h24, hl, hw10, hk, h13, hR, q⟩ := h
  obtain ⟨lf, lu⟩ := hR.len
  refine ⟨_, (pss_cons (ps_if (PW.pt (pw_or (pt_cmpR (op_notIn_kd (KDcts.dict L.d_READERS).choose_spec.choose_spec) (pv 1) (pe_glob (v := .ref DR) rfl L.g_READERS rfl) (by rfl)) (pw_or1 (pt_cmpR op_ne (pe_callB call_len_seq (by rfl) B.len PySem.boot_len (pa_cons (pv 2) pa_nil)) (pe_callB call_len_seq (by rfl) B.len PySem.boot_len (pa_cons (pe_ix (ix_kdict) (pe_glob (v := .ref DR) rfl L.g_READERS rfl) (pv 1) (fun _ _ => rfl)) pa_nil)) (nomark _))))) (pss_one (ps_ret (pe_lst (pa_cons pe_non pa_nil)))) pss_nil)
    (pss_cons (ps_set (i := 3) sc_words_in.nd rfl (.inl rfl) (pe_lst pa_nil))
    (pss_cons (ps_for PassesOwn.never rfl (pi_zb (by rfl) B.zip (pa_cons (pe_ix (ix_kdict) (pe_glob (v := .ref DR) rfl L.g_READERS rfl) (pv 1) (fun _ _ => rfl)) (pa_cons (pv 2) pa_nil))) (pg_tup (by rfl) (pgs_cons (pg_name (i := 4) sc_words_in.nd rfl (.inl rfl)) (pgs_cons (pg_name (i := 5) sc_words_in.nd rfl (.inl rfl)) pgs_nil))) (pss_one (ps_expr (pe_bm PySem.F.plainAttrs_list PySem.F.slot_list_append PySem.F.type_list_append mt_append (pv 3) (pa_cons (pe_callP (k := 4) (i := 4) (S := SRd C (za 5) (za 6) (za 7) (za 8)) (fun f sp h => held_rd B L h) hr rfl (Or.inl rfl) (pa_cons (pv 0) (pa_cons (pv 5) pa_nil))) pa_nil)))))
    (pss_one (ps_ret (pv 3)))))), ?_⟩
  obtain ⟨r, hr', rr⟩ := L.d_READERS.ns name
  rw [hk] at rr
  obtain ⟨u, rfl⟩ : ∃ u, r = some u := by
    cases r with
    | none => exact absurd rr (fun z => z)
    | some u => exact ⟨u, rfl⟩
  have kd := KDcts.kd L.d_READERS hk
  have sR := fun H => L.s_R H i h13
  refine ⟨_, rfl, name, _, rfl, rfl, hr', _, rfl, iteF ?_⟩
  have ll : ((ws.map V.str).length : Int) = ((rdV za i).length : Int) := by rw [lf, List.length_map]
  refine ⟨_, rfl, l, _, rfl, .inl hl, _, rfl, DR, name, .ref (tr i), rfl, rfl, kd, tr i, _, rfl, .inr (sR H), rfl, _, rfl, ite2 (fun c => absurd c (by rw [ll, decide_eq_true rfl]; decide)) (fun _ => ?_)⟩
  try simp only [L2.start, List.map_cons, List.map_nil, List.length_cons, List.length_nil, List.replicate_succ, List.replicate_zero, List.cons_append, List.nil_append, List.set_cons_succ, List.set_cons_zero, Nat.reduceAdd, Nat.reduceSub, Nat.zero_add]
  refine ⟨(by show 0 ≤ sizeLine; decide), fun T nT => ?_⟩
  have sT := same_upd (o := .lst []) nT
  have eT : (upd H T (.lst [])) T = some (.lst []) := upd_same
  generalize upd H T (.lst []) = HT at *
  dsimp only [gName]
  try simp only [L2.start, List.map_cons, List.map_nil, List.length_cons, List.length_nil, List.replicate_succ, List.replicate_zero, List.cons_append, List.nil_append, List.set_cons_succ, List.set_cons_zero, Nat.reduceAdd, Nat.reduceSub, Nat.zero_add]
  refine ⟨_, rfl, DR, name, .ref (tr i), rfl, rfl, kd, _, rfl, true, false, tr i, l, rdV za i, ws.map V.str, rfl, sR HT, sq_same sT hl, ?_⟩
  refine for_it (walk_zb (K := K) (t1 := true) (t2 := false) (a := tr i) (b := l) (xs := rdV za i) (ys := ws.map V.str) (n := ws.length) lf (List.length_map ..)) (fun j σ H9 => ∃ y4 y5 : Option V, σ = [some (.ref x), some (.str name), some (.ref l), some (.ref T), y4, y5] ∧ Same H H9 ∧ H9 T = some (.lst (us.take j))) ⟨none, none, rfl, sT, eT⟩ (fun j σ H9 _ ⟨_, _, _, s9, _⟩ => ⟨sR H9, sq_same s9 hl⟩) ?_ ?_
  · rintro j v σ H9 H10 hj ⟨y4, y5, rfl, s9, e9⟩ ⟨Tp, f, y, rfl, nTp, rfl, hf, hy⟩
    have hy2 : (ws.map V.str)[j]? = some y := hy
    rw [List.getElem?_map] at hy2
    obtain ⟨w', hw', ey⟩ := Option.map_eq_some_iff.mp hy2
    subst ey
    obtain ⟨v, hv, hRd⟩ := hR.get hf hw'
    have sTp := same_upd (o := .tup [f, .str w']) nTp
    have eTp : (upd H9 Tp (.tup [f, .str w'])) Tp = some (.tup [f, .str w']) := upd_same
    have e10 := sTp _ _ e9
    have s10 := s9.trans sTp
    generalize upd H9 Tp (.tup [f, .str w']) = H10 at *
    have F10 := hF.same s10
    refine ⟨Tp, _, rfl, .inl (.inl eTp), rfl, _, _, rfl, _, _, rfl, rfl, ?_⟩
    try simp only [L2.start, List.map_cons, List.map_nil, List.length_cons, List.length_nil, List.replicate_succ, List.replicate_zero, List.cons_append, List.nil_append, List.set_cons_succ, List.set_cons_zero, Nat.reduceAdd, Nat.reduceSub, Nat.zero_add]
    have fin : ∀ H11 : Hp, Same H10 H11 → H11 T = some (.lst (us.take j)) ∧ (us.take j).length < sizeLine ∧ Same H (upd H11 T (.lst (us.take j ++ [v]))) ∧ (upd H11 T (.lst (us.take j ++ [v]))) T = some (.lst (us.take (j + 1))) := fun H11 s11 => by
      refine ⟨s11 _ _ e10, ?_, fun y o e => ?_, ?_⟩
      · rw [List.length_take]
        exact big_lt (by omega)
      · rw [upd_ne (ne_of_none e nT)]
        exact s11 _ _ (s10 _ _ e)
      · rw [upd_same, List.take_add_one, hv]
        rfl
    cases hRd with
    | cell h =>
      refine ⟨_, rfl, .inl ⟨rfl, _, SqL.of e10⟩, _, _, rfl, .inl ⟨rfl, rfl⟩, _, rfl, _, rfl, x, _, rfl, h, fun H11 s11 => ?_⟩
      obtain ⟨f1, f2, f3, f4⟩ := fin H11 s11
      exact ⟨T, _, _, rfl, rfl, f1, f2, _, _, rfl, f3, f4⟩
    | bits h =>
      refine ⟨_, rfl, .inl ⟨rfl, _, SqL.of e10⟩, _, _, rfl, .inr (.inl ⟨rfl, rfl⟩), _, rfl, _, rfl, x, sc, tl, tl', _, rfl, F10, h24, h, fun H11 s11 => ?_⟩
      obtain ⟨f1, f2, f3, f4⟩ := fin H11 s11
      exact ⟨T, _, _, rfl, rfl, f1, f2, _, _, rfl, f3, f4⟩
    | way h =>
      refine ⟨_, rfl, .inl ⟨rfl, _, SqL.of e10⟩, _, _, rfl, .inr (.inr (.inl ⟨rfl, rfl⟩)), _, rfl, _, rfl, x, _, rfl, h, ?_⟩
      obtain ⟨f1, f2, f3, f4⟩ := fin H10 (Same.refl _)
      exact ⟨T, _, _, rfl, rfl, f1, f2, _, _, rfl, f3, f4⟩
    | num h h' =>
      refine ⟨_, rfl, .inl ⟨rfl, _, SqL.of e10⟩, _, _, rfl, .inr (.inr (.inr ⟨rfl, rfl⟩)), _, rfl, _, rfl, x, _, rfl, h, h', fun H11 s11 => ?_⟩
      obtain ⟨f1, f2, f3, f4⟩ := fin H11 s11
      exact ⟨T, _, _, rfl, rfl, f1, f2, _, _, rfl, f3, f4⟩
  · rintro σ H9 ⟨y4, y5, rfl, s9, e9⟩
    rw [← lu, List.take_length] at e9
    exact ⟨_, rfl, q T H9 s9 e9⟩
def spStages (K : PySem.W.Frag) : Sp := fun vs H Q _ => ∃ (l : Addr) (hs : List Str), vs = [.ref l] ∧ SqL K H l (hs.map V.str) ∧ hs.Nodup ∧ (∀ h ∈ hs, h ∈ STL) ∧ hs.length ≤ 4 ∧ ∀ t H', Same H H' → H' t = some (.tup (hs.map V.str)) → Q (.ref t) H'
theorem ok_stages_in (B : Bl mg) (L : LL K mg C za zl t28 fW DR tr w E_BadText I_BadText E_BadRow I_BadRow) : FnOk P w K mg base CX0 1 (za 12) (zl 12) ["words"] (spStages K) := by
  refine L.F_stages_in.ok sc_stages_in (fun vs H Q E h => ?_) (fun cdv A outer s H vs Q E hr h => ?_)
  · obtain ⟨l, hs, rfl, _⟩ := h
    rfl
  obtain ⟨l, hs, rfl, hl, hn, hm, h4, q⟩ := h
  refine ⟨_, (pss_cons (ps_if (PW.pt (pw_or (pt_cmpR op_ne (pe_lenSetN rfl (by rfl) B.len (by rfl) L.z_set (pv 0)) (pe_callB call_len_seq (by rfl) B.len PySem.boot_len (pa_cons (pv 0) pa_nil)) (nomark _)) (pw_or1 (pt_not (pt_val (pe_callB (cr_all rfl) (by rfl) B.all boot_all (pa_cons (pe_lc (own := [("word", 1)]) (by rfl) sc_stages_in.nd (pi_list (pv 0)) (blkOk_by (own := [("word", 1)]) (N := ["words", "word"]) (sc := defScope s_stages_in) (by decide +kernel)) (fun _ _ _ _ _ => pg_name (i := 1) sc_stages_in.nd rfl (Or.inl rfl)) (fun _ _ _ _ _ => pts_nil) (fun _ _ _ _ _ => (pe_cmpR (op_in_seqK (K := K)) (pv 1) (pe_glob (v := .ref (L.g_STAGES).choose) rfl (L.g_STAGES).choose_spec.1 rfl) (by rfl)))) pa_nil))))))) (pss_one (ps_ret pe_non)) pss_nil)
    (pss_one (ps_ret (pe_callTy call_tuple_of (by rfl) B.tuple PyProof.Rows.boot_tuple (pa_cons (pv 0) pa_nil))))), ?_⟩
  obtain ⟨fS, gS, sS⟩ : ∃ a, mg "STAGES" = some (.ref a) ∧ ∀ H, SqT K H a (STL.map V.str) := L.g_STAGES
  have sS := L.g_STAGES.choose_spec.2
  refine ⟨_, rfl, l, hs, rfl, hl, hn, by omega, _, rfl, l, _, rfl, .inl hl, rfl, _, rfl, ite2 (fun c => absurd c (by rw [List.length_map, decide_eq_true rfl]; decide)) (fun _ => ?_)⟩
  refine ⟨_, rfl, l, rfl, ⟨_, hl⟩, fun D nD => ?_⟩
  refine lc_list (K := K) (a := l) (xs := hs.map V.str) (fun i H6 => Same H H6 ∧ H6 D = some (.lst (List.replicate i (.bl true)))) ⟨same_upd nD, upd_same⟩ (fun i H6 _ ⟨s6, _⟩ => sq_same s6 hl) ?_ ?_
  · rintro j z H6 hj ⟨s6, eD⟩
    rw [List.getElem?_map] at hj
    obtain ⟨h, hh, rfl⟩ := Option.map_eq_some_iff.mp hj
    refine ⟨rfl, yesT ?_⟩
    have hmem := hm h (List.mem_of_getElem? hh)
    refine ⟨_, rfl, _, _, rfl, .inr (sS H6), rfl, rfl, ?_⟩
    have jl : j < hs.length := (List.getElem?_eq_some_iff.mp hh).1
    have ein : inV (.str h) (STL.map V.str) = true := by
      simp only [STL, List.mem_cons, List.not_mem_nil, or_false] at hmem
      rcases hmem with rfl | rfl | rfl | rfl <;> rfl
    refine ⟨_, eD, ?_, fun y o e => ?_, ?_⟩
    · rw [List.length_replicate]
      exact big_lt (by omega)
    · rw [upd_ne (ne_of_none e nD)]
      exact s6 _ _ e
    · rw [upd_same, show (if (false : Bool) = true then !inV (.str h) (STL.map V.str) else inV (.str h) (STL.map V.str)) = true from ein]
      exact congrArg (fun z => some (HO.lst z)) (List.replicate_succ' ..).symm
  · rintro H6 ⟨s6, eD⟩
    refine ⟨D, List.replicate (hs.map V.str).length true, rfl, .inl (.inl (by rw [List.map_replicate]; exact eD)), ?_⟩
    rw [all_repl]
    refine ⟨_, rfl, iteF ?_⟩
    try simp only [L2.start, List.map_cons, List.map_nil, List.length_cons, List.length_nil, List.replicate_succ, List.replicate_zero, List.cons_append, List.nil_append, List.set_cons_succ, List.set_cons_zero, Nat.reduceAdd, Nat.reduceSub, Nat.zero_add]
    exact ⟨_, rfl, l, _, rfl, .inl ⟨sq_same s6 hl, fun t nt => q t _ (s6.trans (same_upd nt)) upd_same⟩⟩
theorem plain_strs : ∀ ys : List Str, PyData.plainAll (ys.map PyData.str) = true ∧ PyData.depthAll (ys.map PyData.str) = 0
  | [] => ⟨rfl, rfl⟩
  | y :: ys => ⟨(plain_strs ys).1, by show max 0 (PyData.depthAll (ys.map PyData.str)) = 0; rw [(plain_strs ys).2]; rfl⟩
theorem cutV_tail (v : V) (xs : List V) : cutV (v :: xs) (some 1) none = xs := by
  unfold cutV
  rw [HT.sIx_none, show HT.sIx (v :: xs).length 0 (some 1) = 1 from (HT.sIx_nat _ _ 1).trans (by rw [List.length_cons]; omega)]
  exact List.take_of_length_le (by rw [List.length_cons, Nat.add_sub_cancel]; exact Nat.le_refl _)
def spTick (K : PySem.W.Frag) : Sp := fun vs H Q _ => ∃ (x l : Addr) (n : Nat) (hs : List Str), vs = [.ref x, .ref l] ∧ H l = some (.lst ((nT n :: hs).map V.str)) ∧ 1 ≤ n ∧ n ≤ 900 ∧ hs.Nodup ∧ (∀ h ∈ hs, h ∈ STL) ∧ hs.length ≤ 4 ∧
  ∀ t p H', Same H H' → H' t = some (.tup (hs.map V.str)) → H' p = some (.lst [.int (n : Int), .ref t]) → Q (.ref p) H'
theorem ok_tick_in (B : Bl mg) (L : LL K mg C za zl t28 fW DR tr w E_BadText I_BadText E_BadRow I_BadRow) : FnOk P w K mg base CX0 3 (za 11) (zl 11) ["form", "words"] (spTick K) := by
  have G_number_in : FnOk P w K mg base CX0 2 (za 8) (zl 8) ["form", "text"] spNumberIn := (ok_number_in B L).mono (by decide)
  have G_stages_in : FnOk P w K mg base CX0 2 (za 12) (zl 12) ["words"] (spStages K) := (ok_stages_in B L).mono (by decide)
  refine L.F_tick_in.ok sc_tick_in (fun vs H Q E h => ?_) (fun cdv A outer s H vs Q E hr h => ?_)
  · obtain ⟨x, l, n, hs, rfl, _⟩ := h
    rfl
  obtain ⟨x, l, n, hs, rfl, hl, h1, h9, hn, hm, h4, q⟩ := h
  have dps : ∀ (H : Hp) (ys : List Str), DpAll K H (ys.map V.str) (ys.map PyData.str) := fun H ys => by
    induction ys with
    | nil => exact .nil
    | cons y ys ih => exact .cons (.str _) ih
  refine ⟨_, (pss_cons (ps_if (pt_cmpR (op_eqPl (units64 hr)) (pv 1) (pe_lst pa_nil) (nomark _)) (pss_one (ps_ret (pe_lst (pa_cons pe_non pa_nil)))) pss_nil)
    (pss_one (ps_ret (pe_lst (pa_cons (pe_call G_number_in hr (by rfl) L.m_number_in L.F_number_in.kp L.b_number_in .nil pass0 (pa_cons (pv 0) (pa_cons (pe_ix ix_list (pv 1) pe_int (fun _ _ => rfl)) pa_nil))) (pa_cons (pe_call G_stages_in hr (by rfl) L.m_stages_in L.F_stages_in.kp L.b_stages_in .nil pass0 (pa_cons (pe_slice sl_list (pv 1) (po_some pe_int) po_none) pa_nil)) pa_nil)))))), ?_⟩
  refine ⟨_, rfl, (by show 0 ≤ sizeLine; decide), fun D nD => ?_⟩
  have sD := same_upd (o := .lst []) nD
  have eD : (upd H D (.lst [])) D = some (.lst []) := upd_same
  generalize upd H D (.lst []) = H1 at *
  have e1 := sD _ _ hl
  refine ⟨.list ((nT n :: hs).map PyData.str), .list [], .lst (SqL.of e1) (dps _ _), .lst (SqL.of eD) .nil, ?_, rfl, ?_, _, rfl, ?_⟩
  · exact (plain_strs _).1
  · show PyData.depthAll ((nT n :: hs).map PyData.str) + 1 ≤ 64
    rw [(plain_strs _).2]
    decide
  refine iteN81 rfl ?_
  try simp only [L2.start, List.map_cons, List.map_nil, List.length_cons, List.length_nil, List.replicate_succ, List.replicate_zero, List.cons_append, List.nil_append, List.set_cons_succ, List.set_cons_zero, Nat.reduceAdd, Nat.reduceSub, Nat.zero_add]
  refine ⟨_, rfl, _, rfl, l, _, _, _, rfl, rfl, SqL.of e1, atI_nat (j := 0) rfl, x, n, rfl, h1, h9, fun H2 s2 => ?_⟩
  have e2 := s2 _ _ e1
  refine ⟨_, rfl, 1, rfl, ?_⟩
  dsimp only [tNoPart]
  refine ⟨l, _, rfl, SqL.of e2, fun l2 n2 => ?_⟩
  rw [show cutV ((nT n :: hs).map V.str) (some 1) none = hs.map V.str from cutV_tail _ _]
  have s3 := same_upd (o := .lst (hs.map V.str)) n2
  have e3 : (upd H2 l2 (.lst (hs.map V.str))) l2 = some (.lst (hs.map V.str)) := upd_same
  generalize upd H2 l2 (.lst (hs.map V.str)) = H3 at *
  refine ⟨l2, hs, rfl, SqL.of e3, hn, hm, h4, fun t H4 s4 et => ?_⟩
  refine ⟨(by show 2 ≤ sizeLine; decide), fun p np => ?_⟩
  have s5 := same_upd (o := .lst [.int (n : Int), .ref t]) np
  exact q t p _ (sD.trans (s2.trans (s3.trans (s4.trans s5)))) (s5 _ _ et) upd_same
end
section
variable {P : Program} {w : World} {K : PySem.W.Frag} {mg : Str → Option Value} {base : Heap}
variable {C : Addr} {za : Nat → Addr} {zl : Nat → FuncData} {t28 : Tok} {fW : Addr} {DR : Addr} {tr : Nat → Addr} {E_BadText I_BadText E_BadRow I_BadRow : Addr}
/-! ### row_in -/
def dV : V → PyData
  | .int i => .int i
  | .str x => .str x
  | _ => .none
def isNonV : V → Bool
  | .non => true
  | _ => false
theorem rd_data {K : PySem.W.Frag} {H : Hp} {c b w n : Addr} {sc tl tl' : Nat} : ∀ {fs : List V} {xs : List Str} {vs : List V}, RdAll c b w n sc tl tl' fs xs vs →
    DpAll K H vs (vs.map dV) ∧ PyData.plainAll (vs.map dV) = true ∧ PyData.depthAll (vs.map dV) = 0 ∧ (vs.map dV).any (fun z => PyData.eqv z .none) = vs.any isNonV
  | _, _, _, .nil => ⟨.nil, rfl, rfl, rfl⟩
  | _, _, _, .cons (v := v) (vs := vs) h r => by
    obtain ⟨a1, a2, a3, a4⟩ := rd_data (K := K) (H := H) r
    have one : Dp K H v (dV v) ∧ (dV v).plain = true ∧ (dV v).depth = 0 ∧ PyData.eqv (dV v) .none = isNonV v := by
      cases h with
      | cell h => exact ⟨.int _, rfl, rfl, rfl⟩
      | bits h =>
        split
        · exact ⟨.int _, rfl, rfl, rfl⟩
        · exact ⟨.non, rfl, rfl, rfl⟩
      | way h => exact ⟨.str _, rfl, rfl, rfl⟩
      | num h h' => exact ⟨.int _, rfl, rfl, rfl⟩
    refine ⟨.cons one.1 a1, ?_, ?_, ?_⟩
    · show ((dV v).plain && PyData.plainAll (vs.map dV)) = true
      rw [one.2.1, a2]
      rfl
    · show max (dV v).depth (PyData.depthAll (vs.map dV)) = 0
      rw [one.2.2.1, a3]
      rfl
    · show (PyData.eqv (dV v) .none || (vs.map dV).any fun z => PyData.eqv z .none) = (isNonV v || vs.any isNonV)
      rw [one.2.2.2, a4]
def spRow (K : PySem.W.Frag) (C BR : Addr) (za tr : Nat → Addr) : Sp := fun vs H Q E => ∃ (x : Addr) (sc tl tl' : Nat) (z name : Str) (ws : List Str), vs = [.ref x, .str z] ∧ FAt C H x sc tl' ∧ tl ≤ 24 ∧ z.length ≤ 400 ∧ Txt.split z " " = name :: ws ∧
  ((∃ (us : List V) (i : Nat), name ≠ "tick" ∧ ws.length ≤ 10 ∧ kdV (rdKV tr) name = some (.ref (tr i)) ∧ i < 13 ∧ RdAll (za 5) (za 6) (za 7) (za 8) sc tl tl' (rdV za i) ws us ∧
      (us.any isNonV = true → ∀ d H', Same H H' → H' d = none → E (.ref BR) (some d) (upd H' d (.xd [(("what" : Str), .str z)]))) ∧
      (us.any isNonV = false → ∀ t H', Same H H' → H' t = some (.tup (.str name :: us)) → Q (.ref t) H')) ∨
    (∃ (n : Nat) (hs : List Str), name = "tick" ∧ ws = nT n :: hs ∧ 1 ≤ n ∧ n ≤ 900 ∧ hs.Nodup ∧ (∀ h ∈ hs, h ∈ STL) ∧ hs.length ≤ 4 ∧
      ∀ t u H', Same H H' → H' u = some (.tup (hs.map V.str)) → H' t = some (.tup [.str "tick", .int (n : Int), .ref u]) → Q (.ref t) H'))
theorem ok_row_in (B : Bl mg) (L : LL K mg C za zl t28 fW DR tr w E_BadText I_BadText E_BadRow I_BadRow) : FnOk P w K mg base (L2.CX P w) 7 (za 9) (zl 9) ["form", "text"] (spRow K C E_BadRow za tr) := by
  have G_words_in : FnOk P w K mg base CX0 6 (za 10) (zl 10) ["form", "name", "words"] (spWordsIn K C za tr) := (ok_words_in B L).mono (by decide)
  have G_tick_in : FnOk P w K mg base CX0 6 (za 11) (zl 11) ["form", "words"] (spTick K) := (ok_tick_in B L).mono (by decide)
  refine L.F_row_in.okX sc_row_in (fun vs H Q E h => ?_) (fun cdv A outer s H vs Q E hr h => ?_)
  · obtain ⟨x, sc, tl, tl', z, name, ws, rfl, _⟩ := h
    rfl
  obtain ⟨x, sc, tl, tl', z, name, ws, rfl, hF, h24, hz, hsp, hrow⟩ := h
  have tm := pt_many z
  have tp := @pt_len z
  refine ⟨_, (pss_cons (ps_asg (pe_split (pv 1) pe_str) (pg_starE rfl (pgs_cons (pg_name (i := 2) sc_row_in.nd rfl (.inl rfl)) (pgs_star (pg_name (i := 3) sc_row_in.nd rfl (.inl rfl)) pgs_nil))))
    (pss_cons (ps_set (i := 4) sc_row_in.nd rfl (.inl rfl) (pe_ifExp (pt_cmpR op_eq (pv 2) pe_str (nomark _)) (pe_call G_tick_in hr (by rfl) L.m_tick_in L.F_tick_in.kp L.b_tick_in .nil pass0 (pa_cons (pv 0) (pa_cons (pv 3) pa_nil))) (pe_call G_words_in hr (by rfl) L.m_words_in L.F_words_in.kp L.b_words_in .nil pass0 (pa_cons (pv 0) (pa_cons (pv 2) (pa_cons (pv 3) pa_nil))))))
    (pss_cons (ps_if (pt_cmpR (op_inDL (units65 hr)) pe_non (pv 4) (by rfl)) (pss_one (ps_raise rfl (takes_of rfl rfl rfl rfl) (pmk_what L.R_BadRow hr (by decide) L.g_BadRow rfl (pa_cons (pv 1) pa_nil)))) pss_nil)
    (pss_one (ps_ret (pe_tup (pa_cons (pv 2) (StX.pa_star (pv 4) pa_nil)))))))), ?_⟩
  refine ⟨_, rfl, ⟨_, rfl⟩, _, _, rfl, rfl, rfl, Nat.le_trans (show z.length + 2 ≤ 402 by omega) (by decide), fun Pp nP => ?_⟩
  rw [hsp] at tm ⊢
  have sP := same_upd (o := .lst ((name :: ws).map V.str)) nP
  have eP : (upd H Pp (.lst ((name :: ws).map V.str))) Pp = some (.lst (.str name :: ws.map V.str)) := upd_same
  generalize upd H Pp (.lst ((name :: ws).map V.str)) = H1 at *
  have lw : ws.length ≤ 402 := by rw [List.length_cons] at tm; omega
  refine ⟨Pp, .str name, ws.map V.str, rfl, SqL.of eP, by rw [List.length_map]; omega, fun W nW => ?_⟩
  refine ⟨_, _, rfl, _, _, rfl, ?_⟩
  refine ⟨rfl, ?_⟩
  have sW := same_upd (o := .lst (ws.map V.str)) nW
  have eW : (upd H1 W (.lst (ws.map V.str))) W = some (.lst (ws.map V.str)) := upd_same
  generalize upd H1 W (.lst (ws.map V.str)) = H2 at *
  have s02 := sP.trans sW
  try simp only [L2.start, List.map_cons, List.map_nil, List.length_cons, List.length_nil, List.replicate_succ, List.replicate_zero, List.cons_append, List.nil_append, List.set_cons_succ, List.set_cons_zero, Nat.reduceAdd, Nat.reduceSub, Nat.zero_add]
  rcases hrow with ⟨us, i, hnt, hw10, hk, h13, hR, q1, q2⟩ | ⟨n, hs, rfl, rfl, hn1, hn9, hnd, hin, h4, q⟩
  · refine ⟨_, rfl, rfl, _, rfl, ite2 (fun c => absurd (V.str.inj (of_decide_eq_true c)) hnt) (fun _ => ?_)⟩
    refine ⟨_, rfl, _, rfl, _, rfl, x, W, sc, tl, tl', i, name, ws, us, rfl, hF.same s02, h24, SqL.of eW, hw10, hk, h13, hR, fun p H3 s3 e3 => ?_⟩
    dsimp only [gName]
    try simp only [L2.start, List.map_cons, List.map_nil, List.length_cons, List.length_nil, List.replicate_succ, List.replicate_zero, List.cons_append, List.nil_append, List.set_cons_succ, List.set_cons_zero, Nat.reduceAdd, Nat.reduceSub, Nat.zero_add]
    obtain ⟨d1, d2, d3, d4⟩ := rd_data (K := K) (H := H3) hR
    refine ⟨_, rfl, .none, us.map dV, .non, .lst (SqL.of e3) d1, rfl, d2, by rw [d3]; decide, _, rfl, ?_⟩
    rw [d4]
    have s03 := s02.trans s3
    cases cn : us.any isNonV with
    | true =>
      refine iteT ?_
      refine ⟨_, rfl, _, rfl, fun d nd => ?_⟩
      exact q1 cn d H3 s03 nd
    | false =>
      refine iteF ?_
      try simp only [L2.start, List.map_cons, List.map_nil, List.length_cons, List.length_nil, List.replicate_succ, List.replicate_zero, List.cons_append, List.nil_append, List.set_cons_succ, List.set_cons_zero, Nat.reduceAdd, Nat.reduceSub, Nat.zero_add]
      refine ⟨_, rfl, _, rfl, p, us, rfl, .inr (SqL.of e3), ?_⟩
      show (V.str name :: (us ++ [])).length ≤ sizeLine ∧ ∀ t, H3 t = none → Q (.ref t) (upd H3 t (.tup (V.str name :: (us ++ []))))
      rw [List.append_nil]
      refine ⟨?_, fun t nt => q2 cn t _ (s03.trans (same_upd nt)) upd_same⟩
      have := hR.len.2
      rw [List.length_cons, sizeLine_eq]
      omega
  · refine ⟨_, rfl, rfl, _, rfl, iteT ?_⟩
    refine ⟨_, rfl, _, rfl, x, W, n, hs, rfl, eW, hn1, hn9, hnd, hin, h4, fun t p H3 s3 et ep => ?_⟩
    dsimp only [gName]
    try simp only [L2.start, List.map_cons, List.map_nil, List.length_cons, List.length_nil, List.replicate_succ, List.replicate_zero, List.cons_append, List.nil_append, List.set_cons_succ, List.set_cons_zero, Nat.reduceAdd, Nat.reduceSub, Nat.zero_add]
    have dps : DpAll K H3 (hs.map V.str) (hs.map PyData.str) := by
      generalize hs = ys
      induction ys with
      | nil => exact .nil
      | cons y ys ih => exact .cons (.str _) ih
    have s03 := s02.trans s3
    refine ⟨_, rfl, .none, [.int (n : Int), .tuple (hs.map PyData.str)], .non, .lst (SqL.of ep) (.cons (.int _) (.cons (.tup (SqT.of et) dps) .nil)), rfl, ?_, ?_, _, rfl, iteN81 rfl ?_⟩
    · show (true && (PyData.plainAll (hs.map PyData.str) && true)) = true
      rw [(plain_strs hs).1]
      rfl
    · show max 0 (max (PyData.depthAll (hs.map PyData.str) + 1) 0) ≤ 60
      rw [(plain_strs hs).2]
      decide
    try simp only [L2.start, List.map_cons, List.map_nil, List.length_cons, List.length_nil, List.replicate_succ, List.replicate_zero, List.cons_append, List.nil_append, List.set_cons_succ, List.set_cons_zero, Nat.reduceAdd, Nat.reduceSub, Nat.zero_add]
    refine ⟨_, rfl, _, rfl, p, [.int (n : Int), .ref t], rfl, .inr (SqL.of ep), ?_⟩
    refine ⟨(by show 3 ≤ sizeLine; decide), fun tt ntt => ?_⟩
    have s4 := same_upd (o := .tup [.str "tick", .int (n : Int), .ref t]) ntt
    exact q tt t _ (s03.trans s4) (s4 _ _ et) upd_same
end
section
variable {P : Program} {w : World} {K : PySem.W.Frag} {mg : Str → Option Value} {base : Heap}
variable {C : Addr} {za : Nat → Addr} {zl : Nat → FuncData} {t28 : Tok} {fW : Addr} {DR : Addr} {tr : Nat → Addr} {E_BadText I_BadText E_BadRow I_BadRow : Addr}
/-! ### bits, stages held -/
theorem cons_str (c : Nat) (l : List Nat) : (⟨#[c]⟩ : Str) ++ ⟨l.toArray⟩ = ⟨(c :: l).toArray⟩ := by
  show (⟨#[c] ++ l.toArray⟩ : Str) = _
  congr 1
  apply Array.ext'
  simp
def spBits73 : Sp := fun vs H Q _ => ∃ (w n : Nat), vs = [.int (w : Int), .int (n : Int)] ∧ n ≤ 40 ∧ w < 2 ^ 40 ∧ ∀ H', Same H H' → Q (.str (bt n w)) H'
theorem ok__law_bits (B : Bl mg) (L : LL K mg C za zl t28 fW DR tr w E_BadText I_BadText E_BadRow I_BadRow) : FnOk P w K mg base CX0 1 (za 19) (zl 19) ["_law_word_here", "_law_many"] spBits73 := by
  refine L.F__law_bits.ok sc__law_bits (fun vs H Q E h => ?_) (fun cdv A outer s H vs Q E hr h => ?_)
  · obtain ⟨w, n, rfl, _⟩ := h
    rfl
  obtain ⟨w0, n, rfl, hn, hw, q⟩ := h
  have lb : ∀ k n, (bt k n).length = k := fun k n => by rw [TL.len_tl, tl_bt, bitsL_len]
  refine ⟨_, (pss_cons (ps_set (i := 2) sc__law_bits.nd rfl (.inl rfl) pe_str)
    (pss_cons (ps_for PassesOwn.never rfl (pi_range1 (by rfl) B.range (pa_cons (pv 1) pa_nil)) (pg_name (i := 3) sc__law_bits.nd rfl (.inl rfl)) (pss_cons (ps_set (i := 2) sc__law_bits.nd rfl (.inl rfl) (pe_op op_add_str (pe_ix ix_str pe_str (pe_op op_mod (pv 0) pe_int) (fun _ _ => rfl)) (pv 2)))
    (pss_one (ps_set (i := 0) sc__law_bits.nd rfl (.inl rfl) (pe_op op_fdiv (pv 0) pe_int)))))
    (pss_one (ps_ret (pv 2))))), ?_⟩
  try simp only [L2.start, List.map_cons, List.map_nil, List.length_cons, List.length_nil, List.replicate_succ, List.replicate_zero, List.cons_append, List.nil_append, List.set_cons_succ, List.set_cons_zero, Nat.reduceAdd, Nat.reduceSub, Nat.zero_add]
  refine ⟨_, rfl, _, rfl, by omega, by omega, ?_⟩
  rw [Int.toNat_natCast]
  refine for_range (n := n) (fun j σ H9 => ∃ y3 : Option V, σ = [some (.int ((w0 / 2 ^ j : Nat) : Int)), some (.int (n : Int)), some (.str (bt j w0)), y3] ∧ Same H H9) ⟨none, ?_, Same.refl _⟩ ?_ ?_
  · rw [Nat.pow_zero, Nat.div_one]
    rfl
  · rintro j σ H9 hj ⟨y3, rfl, s9⟩
    dsimp only [gName]
    try simp only [L2.start, List.map_cons, List.map_nil, List.length_cons, List.length_nil, List.replicate_succ, List.replicate_zero, List.cons_append, List.nil_append, List.set_cons_succ, List.set_cons_zero, Nat.reduceAdd, Nat.reduceSub, Nat.zero_add]
    obtain ⟨r, er, hr2⟩ : ∃ r : Nat, w0 / 2 ^ j % 2 = r ∧ r < 2 := ⟨_, rfl, Nat.mod_lt _ (by decide)⟩
    have em : ((w0 / 2 ^ j : Nat) : Int) % 2 = (r : Int) := by rw [← er]; rfl
    have ix : atI ("01" : Str).cps.toList (r : Int) = some (48 + r) := by
      have : r = 0 ∨ r = 1 := by omega
      rcases this with z | z <;> subst z <;> rfl
    refine ⟨_, rfl, _, _, rfl, rfl, (by show (0 : Int) < 2; decide), ?_⟩
    dsimp only
    rw [em]
    refine ⟨"01", _, 48 + r, rfl, rfl, (by decide), ix, _, rfl, _, _, rfl, rfl, ?_, ?_⟩
    · rw [lb j w0, sizeLine_eq]
      show 1 + j ≤ _
      omega
    try simp only [L2.start, List.map_cons, List.map_nil, List.length_cons, List.length_nil, List.replicate_succ, List.replicate_zero, List.cons_append, List.nil_append, List.set_cons_succ, List.set_cons_zero, Nat.reduceAdd, Nat.reduceSub, Nat.zero_add]
    refine ⟨_, rfl, _, _, rfl, rfl, ⟨by decide, by decide⟩, some (.int (0 + (j : Int))), ?_, s9⟩
    have e1 : ((w0 / 2 ^ j : Nat) : Int) / 2 = ((w0 / 2 ^ (j + 1) : Nat) : Int) := by
      rw [Nat.pow_succ, ← Nat.div_div_eq_div_mul]
      rfl
    have e2 : (⟨#[48 + r]⟩ : Str) ++ bt j w0 = bt (j + 1) w0 := by
      show _ = (⟨(bitsL (j + 1) w0).toArray⟩ : Str)
      rw [bitsL_top, er]
      exact cons_str _ _
    rw [← e1, ← e2]
    rfl
  · rintro σ H9 ⟨y3, rfl, s9⟩
    exact ⟨_, rfl, q H9 s9⟩
theorem map_erase (f : Str → V) : ∀ (l : List Str) (k : Nat), (l.map f).eraseIdx k = (l.eraseIdx k).map f
  | [], _ => rfl
  | _ :: _, 0 => rfl
  | a :: l, k + 1 => congrArg (f a :: ·) (map_erase f l k)
theorem erase_perm : ∀ (l : List Str) (k : Nat) (h : Str), l[k]? = some h → (h :: l.eraseIdx k).Perm l
  | a :: l, 0, h, e => by
    cases e
    exact List.Perm.refl _
  | a :: l, k + 1, h, e => (List.Perm.swap a h (l.eraseIdx k)).trans (List.Perm.cons a (erase_perm l k h e))
/-- some stages, each once -/
def spHeld : Sp := fun vs H Q _ => ∃ (b : Addr) (c : Int), vs = [.ref b] ∧ BoxAt c H b ∧ c ≤ 800000000 ∧
  ∀ (D : Addr) (hs : List Str) (H' : Hp), H' D = some (.lst (hs.map V.str)) → D ≠ b → hs.Nodup → (∀ h ∈ hs, h ∈ STL) → hs.length ≤ 4 → BoxAt (c + 6) H' b → Keep b H H' → Q (.ref D) H'
theorem ok__law_held (B : Bl mg) (L : LL K mg C za zl t28 fW DR tr w E_BadText I_BadText E_BadRow I_BadRow) : FnOk P w K mg base CX0 2 (za 20) (zl 20) ["_law_box_here"] spHeld := by
  have G__law_take : FnOk P w K mg base CX0 1 (za 14) (zl 14) ["_law_box_here", "_law_size"] (spTake 1) := (ok_take L.F__law_take L.b__law_take L.m__law_take B 1).mono (by decide)
  refine L.F__law_held.ok sc__law_held (fun vs H Q E h => ?_) (fun cdv A outer s H vs Q E hr h => ?_)
  · obtain ⟨b, c, rfl, _⟩ := h
    rfl
  obtain ⟨b, c, rfl, hB, hc, q⟩ := h
  refine ⟨_, (pss_cons (ps_par (by rfl) sc__law_held.nd (i := 1) (j := 2) rfl rfl (by decide) rfl rfl (pa_cons (pe_lst (pa_cons pe_str (pa_cons pe_str (pa_cons pe_str (pa_cons pe_str pa_nil))))) (pa_cons (pe_lst pa_nil) pa_nil)) (by rfl))
    (pss_cons (ps_for PassesOwn.never rfl (pi_range1 (by rfl) B.range (pa_cons (pe_ix ix_list (pe_lst (pa_cons pe_int (pa_cons pe_int (pa_cons pe_int (pa_cons (pe_op op_add pe_int (pe_call G__law_take hr (by rfl) L.m__law_take L.F__law_take.kp L.b__law_take .nil pass0 (pa_cons (pv 0) (pa_cons pe_int pa_nil)))) pa_nil))))) (pe_call G__law_take hr (by rfl) L.m__law_take L.F__law_take.kp L.b__law_take .nil pass0 (pa_cons (pv 0) (pa_cons pe_int pa_nil))) (fun _ _ => rfl)) pa_nil)) (pg_name (i := 3) sc__law_held.nd rfl (.inl rfl)) (pss_one (ps_expr (pe_bm PySem.F.plainAttrs_list PySem.F.slot_list_append PySem.F.type_list_append mt_append (pv 2) (pa_cons (pe_bm PySem.F.plainAttrs_list PySem.F.slot_list_pop PySem.F.type_list_pop mt_popAt (pv 1) (pa_cons (pe_call G__law_take hr (by rfl) L.m__law_take L.F__law_take.kp L.b__law_take .nil pass0 (pa_cons (pv 0) (pa_cons (pe_callB call_len_seq (by rfl) B.len PySem.boot_len (pa_cons (pv 1) pa_nil)) pa_nil))) pa_nil)) pa_nil)))))
    (pss_one (ps_ret (pv 2))))), ?_⟩
  refine ⟨(by show 4 ≤ sizeLine; decide), fun L1 nL => ?_⟩
  have bL : L1 ≠ b := (hB.ne nL).symm
  have sL := same_upd (o := .lst (STL.map V.str)) nL
  have eL : (upd H L1 (.lst (STL.map V.str))) L1 = some (.lst (STL.map V.str)) := upd_same
  rw [show upd H L1 (.lst [.str "read", .str "first", .str "second", .str "last"]) = upd H L1 (.lst (STL.map V.str)) from rfl]
  generalize upd H L1 (.lst (STL.map V.str)) = H1 at *
  have B1 := hB.same sL
  refine ⟨(by show 0 ≤ sizeLine; decide), fun F nF => ?_⟩
  have bF : F ≠ b := (B1.ne nF).symm
  have nLF : L1 ≠ F := ne_of_none eL nF
  have sF := same_upd (o := .lst []) nF
  have eF : (upd H1 F (.lst [])) F = some (.lst []) := upd_same
  have eL2 := sF _ _ eL
  generalize upd H1 F (.lst []) = H2 at *
  have B2 := B1.same sF
  refine ⟨_, _, rfl, ?_⟩
  try simp only [L2.start, List.map_cons, List.map_nil, List.length_cons, List.length_nil, List.replicate_succ, List.replicate_zero, List.cons_append, List.nil_append, List.set_cons_succ, List.set_cons_zero, Nat.reduceAdd, Nat.reduceSub, Nat.zero_add]
  refine ⟨_, rfl, b, _, _, rfl, B2, (by decide), (by decide), (by decide), (by omega), (by decide), fun r1 H3 u0 u1 B3 k3 => ?_⟩
  replace B3 := bx1 B3
  refine ⟨_, _, rfl, rfl, (by show 4 ≤ sizeLine; decide), fun N nN => ?_⟩
  have bN : N ≠ b := (B3.ne nN).symm
  have B4 := B3.same (same_upd (o := .lst [.int 0, .int 0, .int 1, .int (1 + r1)]) nN)
  refine ⟨_, rfl, b, _, _, rfl, B4, (by decide), (by decide), (by decide), (by omega), (by decide), fun r2 H5 v0 v1 B5 k5 => ?_⟩
  replace B5 := bx1 B5
  obtain ⟨m, hm, hm4⟩ : ∃ m : Nat, atI ([.int 0, .int 0, .int 1, .int (1 + r1)] : List V) r2 = some (.int (m : Int)) ∧ m ≤ 4 := by
    have c4 : r2 = 0 ∨ r2 = 1 ∨ r2 = 2 ∨ r2 = 3 := by omega
    rcases c4 with z | z | z | z <;> subst z
    · exact ⟨0, rfl, by decide⟩
    · exact ⟨0, rfl, by decide⟩
    · exact ⟨1, rfl, by decide⟩
    · refine ⟨(1 + r1).toNat, ?_, by omega⟩
      rw [Int.toNat_of_nonneg (by omega)]
      rfl
  refine ⟨N, _, _, _, rfl, rfl, SqL.of (k5 _ _ upd_same bN), hm, ?_⟩
  refine ⟨_, rfl, by omega, by omega, ?_⟩
  rw [Int.toNat_natCast]
  have kH : Keep b H H5 := (Keep.ofSame (sL.trans sF)).trans (k3.trans ((Keep.new nN).trans k5))
  have eL5 := k5 _ _ ((same_upd nN) _ _ (k3 _ _ eL2 bL)) bL
  have eF5 := k5 _ _ ((same_upd nN) _ _ (k3 _ _ eF bF)) bF
  refine for_range (n := m) (fun j σ H9 => ∃ (y3 : Option V) (ls fs : List Str), σ = [some (.ref b), some (.ref L1), some (.ref F), y3] ∧ H9 L1 = some (.lst (ls.map V.str)) ∧ H9 F = some (.lst (fs.map V.str)) ∧ (fs ++ ls).Perm STL ∧ fs.length = j ∧ BoxAt (c + 2 + j) H9 b ∧ Keep b H H9) ⟨none, STL, [], rfl, eL5, eF5, List.Perm.refl _, rfl, B5.mono (by omega), kH⟩ ?_ ?_
  · rintro j σ H9 hj ⟨y3, ls, fs, rfl, e1, e2, pm, lf, B9, k9⟩
    dsimp only [gName]
    try simp only [L2.start, List.map_cons, List.map_nil, List.length_cons, List.length_nil, List.replicate_succ, List.replicate_zero, List.cons_append, List.nil_append, List.set_cons_succ, List.set_cons_zero, Nat.reduceAdd, Nat.reduceSub, Nat.zero_add]
    have ll := pm.length_eq
    rw [List.length_append, show STL.length = 4 from rfl] at ll
    have e7 : (10000000 : Int) ^ 1 = 10000000 := by decide
    refine ⟨_, rfl, .inl ⟨rfl, _, SqL.of e2⟩, _, rfl, .inl ⟨rfl, _, SqL.of e1⟩, _, rfl, _, rfl, L1, _, rfl, .inl (SqL.of e1), ?_⟩
    rw [show ((ls.map V.str).length : Int) = (ls.length : Int) by rw [List.length_map]]
    refine ⟨b, _, _, rfl, B9, (by omega), (by rw [e7]; omega), (by omega), (by omega), (by decide), fun r H10 w0 w1 B10 k10 => ?_⟩
    replace B10 := bx1 B10
    have e1' := k10 _ _ e1 bL
    have e2' := k10 _ _ e2 bF
    obtain ⟨hd, hh⟩ : ∃ hd, ls[r.toNat]? = some hd := ⟨_, List.getElem?_eq_getElem (by omega)⟩
    have ha : atI (ls.map V.str) r = some (.str hd) := by
      have := atI_nat (xs := ls.map V.str) (j := r.toNat) (v := V.str hd) (by rw [List.getElem?_map, hh]; rfl)
      rwa [Int.toNat_of_nonneg w0] at this
    obtain ⟨k, hk, hx, kl, _, _⟩ := atI_get ha
    rw [List.length_map] at kl
    refine ⟨L1, _, r, k, _, rfl, rfl, e1', by omega, by omega, hk, hx, ?_⟩
    have eF' : (upd H10 L1 (.lst ((ls.map V.str).eraseIdx k))) F = some (.lst (fs.map V.str)) := by
      rw [upd_ne nLF.symm]
      exact e2'
    refine ⟨F, _, _, rfl, rfl, eF', by rw [List.length_map]; exact big_lt (by omega), ?_⟩
    have hkk : ls[k]? = some hd := by
      rw [List.getElem?_map] at hx
      obtain ⟨h', e', ee⟩ := Option.map_eq_some_iff.mp hx
      rw [V.str.inj ee] at e'
      exact e'
    refine ⟨some (.int (0 + (j : Int))), ls.eraseIdx k, fs ++ [hd], rfl, ?_, ?_, ?_, ?_, ?_, ?_⟩
    · rw [upd_ne nLF, upd_same, map_erase]
    · rw [upd_same, List.map_append]
      rfl
    · have p1 := erase_perm ls k hd hkk
      rw [List.append_assoc]
      exact (List.Perm.append_left fs p1).trans pm
    · rw [List.length_append, lf]
      rfl
    · exact (((B10.at (upd_ne bL.symm)).at (upd_ne bF.symm))).mono (by omega)
    · intro p o e n
      have e3 := k10 _ _ (k9 p o e n) n
      rw [upd_ne (ne_of_none (sL _ _ e) nF), upd_ne (ne_of_none e nL)]
      exact e3
  · rintro σ H9 ⟨y3, ls, fs, rfl, e1, e2, pm, lf, B9, k9⟩
    have nd : (fs ++ ls).Nodup := pm.nodup_iff.mpr (by decide)
    have ll := pm.length_eq
    rw [List.length_append, show STL.length = 4 from rfl] at ll
    exact ⟨_, rfl, q F fs H9 e2 bF (List.nodup_append.mp nd).1 (fun h hh => pm.mem_iff.mp (List.mem_append_left _ hh)) (by omega) (B9.mono (by omega)) k9⟩
end
section
variable {P : Program} {w : World} {K : PySem.W.Frag} {mg : Str → Option Value} {base : Heap}
variable {C : Addr} {za : Nat → Addr} {zl : Nat → FuncData} {t28 : Tok} {fW : Addr} {DR : Addr} {tr : Nat → Addr} {E_BadText I_BadText E_BadRow I_BadRow : Addr}
/-! ### rows drawn -/
/-- the heap without what stands at b -/
def off (b : Addr) (H : Hp) : Hp := fun a => if a = b then none else H a
theorem off_same (b : Addr) (H : Hp) : Same (off b H) H := fun a o e => by
  unfold off at e
  split at e
  · cases e
  · exact e
theorem off_keep {b : Addr} {H H' : Hp} (k : Keep b H H') : Same (off b H) (off b H') := fun a o e => by
  unfold off at e ⊢
  by_cases c : a = b
  · rw [if_pos c] at e
    cases e
  · rw [if_neg c] at e ⊢
    exact k _ _ e c
theorem off_ne {b a : Addr} {H : Hp} (n : a ≠ b) : off b H a = H a := if_neg n
theorem app_assoc (a b c : Str) : (a ++ b) ++ c = a ++ (b ++ c) := by
  show (⟨a.cps ++ b.cps ++ c.cps⟩ : Str) = ⟨a.cps ++ (b.cps ++ c.cps)⟩
  rw [Array.append_assoc]
theorem sp_join {parts : List Str} (hne : parts ≠ []) (h : ∀ p ∈ parts, 32 ∉ TL.tl p) : Txt.split (Txt.join " " parts) " " = parts := TL.split_join (y := " ") (s := 32) (S := []) rfl (by decide +kernel) hne h
theorem join_len : ∀ parts : List Str, (Txt.join " " parts).length ≤ (parts.map fun p => p.length + 1).sum
  | [] => by rw [TL.join_eq]; exact Nat.le_refl _
  | [x] => by rw [TL.join_eq]; show x.length ≤ x.length + 1 + 0; omega
  | x :: y :: r => by
    have ih := join_len (y :: r)
    rw [TL.join_eq] at ih ⊢
    show (x ++ " " ++ Str.join " " (y :: r)).length ≤ (x.length + 1) + ((y :: r).map fun p => p.length + 1).sum
    rw [strLen_append, strLen_append, show ((" " : String) : Str).length = 1 from rfl]
    omega
theorem join_two (a b : Str) : Txt.join " " [a, b] = a ++ " " ++ b := TL.join_eq ..
theorem join_three (a b c : Str) : Txt.join " " [a, b, c] = a ++ " " ++ (b ++ " " ++ c) := TL.join_eq ..
theorem log_ok {c : Nat} (h : c ≤ 1000) : ((c : Nat) : Int).natAbs.log2 < 1920 := by
  rw [Int.natAbs_natCast]
  by_cases z : c = 0
  · rw [z]
    decide
  · exact (Nat.log2_lt z).mpr (Nat.lt_of_le_of_lt h (by decide +kernel))
theorem off_ofSame {b : Addr} {H H' : Hp} (s : Same H H') : Same (off b H) (off b H') := off_keep (Keep.ofSame s)
theorem BoxAt.some {c : Int} {H : Hp} {b : Addr} (h : BoxAt c H b) : H b ≠ none := by
  obtain ⟨x0, x1, x2, e, r⟩ := h
  rw [e]
  exact fun z => by cases z
theorem off_at {b p : Addr} {H : Hp} {o : HO} (hb : H b ≠ none) (np : H p = none) : off b (upd H p o) p = some o := by
  have n : p ≠ b := fun z => hb (by rw [← z]; exact np)
  rw [off_ne n]
  exact upd_same
theorem inV_str (x : Str) : ∀ ys : List Str, inV (.str x) (ys.map V.str) = decide (x ∈ ys)
  | [] => rfl
  | y :: ys => by
    show ((y == x) || inV (.str x) (ys.map V.str)) = _
    rw [inV_str x ys, Bool.eq_iff_iff, Bool.or_eq_true, beq_iff_eq, decide_eq_true_iff, decide_eq_true_iff, List.mem_cons]
    exact or_congr_left eq_comm
def W14 : List Str := ["put", "add", "take", "times", "over", "join", "tick", "empty", "cell", "whole", "flags", "inside", "ticks", "again"]
theorem sum_one : ∀ l : List Str, (l.map (·.length)).sum + l.length * 1 = (l.map fun p => p.length + 1).sum
  | [] => rfl
  | x :: l => by
    have := sum_one l
    rw [List.map_cons, List.map_cons, List.sum_cons, List.sum_cons, List.length_cons]
    omega
theorem sum_sg : ∀ cs : List Nat, ((cs.map sgT).map fun p => p.length + 1).sum = 2 * cs.length
  | [] => rfl
  | c :: cs => by
    rw [List.map_cons, List.map_cons, List.sum_cons, sum_sg cs, List.length_cons]
    show 1 + 1 + 2 * cs.length = _
    omega
theorem way_len {x : Str} (h : x ∈ WL) : x.length ≤ 4 := by
  simp only [WL, List.mem_cons, List.not_mem_nil, or_false] at h
  rcases h with rfl | rfl | rfl | rfl <;> decide
theorem name_len {x : Str} (h : x ∈ W14) : x.length ≤ 6 ∧ 32 ∉ TL.tl x := by
  simp only [W14, List.mem_cons, List.not_mem_nil, or_false] at h
  rcases h with rfl | rfl | rfl | rfl | rfl | rfl | rfl | rfl | rfl | rfl | rfl | rfl | rfl | rfl <;> exact ⟨by decide, by decide⟩
theorem way_no {x : Str} (h : x ∈ WL) : 32 ∉ TL.tl x := by
  simp only [WL, List.mem_cons, List.not_mem_nil, or_false] at h
  rcases h with rfl | rfl | rfl | rfl <;> decide
theorem sum_le : ∀ l : List Str, (∀ x ∈ l, x.length ≤ 6) → (l.map fun p => p.length + 1).sum ≤ 7 * l.length
  | [], _ => Nat.le_refl _
  | x :: l, h => by
    have a := sum_le l fun y hy => h y (List.mem_cons_of_mem _ hy)
    have b := h x List.mem_cons_self
    rw [List.map_cons, List.sum_cons, List.length_cons]
    omega
theorem stage_len {x : Str} (h : x ∈ STL) : x.length ≤ 6 ∧ 32 ∉ TL.tl x := by
  simp only [STL, List.mem_cons, List.not_mem_nil, or_false] at h
  rcases h with rfl | rfl | rfl | rfl <;> exact ⟨by decide, by decide⟩
theorem nT_len {n : Nat} (h1 : 1 ≤ n) (h9 : n ≤ 900) : (nT n).length ≤ 3 := (num_ok n (by omega) h1).1
theorem join_one (a : Str) : Txt.join " " [a] = a := TL.join_eq ..
theorem sg_text : ∀ c < 8, Str.ofString (toString ((c : Nat) : Int)) = sgT c := by decide +kernel
theorem sg_no (c : Nat) (h : c ≤ 7) : 32 ∉ TL.tl (sgT c) := fun z => by
  have : 32 = 48 + c := List.mem_singleton.mp z
  omega
theorem nT_no (n : Nat) : 32 ∉ TL.tl (nT n) := (PyProof.Rows.intText_free_32 (n : Int)).mp
theorem bt_no (k n : Nat) : 32 ∉ TL.tl (bt k n) := fun h => by
  have := bitsL_01 k n 32 h
  omega
inductive CaseOk (K : PySem.W.Frag) (za tr : Nat → Addr) (sc tl : Nat) (H : Hp) : Str → Addr → Prop
  | put {t : Addr} {c w : Nat} (hc : c ≤ 7) (hw : w < 2 ^ (1 + sc + tl)) (e : H t = some (.tup [.str "put", .int (c : Int), .int (w : Int)])) : CaseOk K za tr sc tl H (Txt.join " " ["put", sgT c, bt (1 + sc + tl) w]) t
  | oth {t : Addr} {name : Str} {ws : List Str} {us : List V} {i : Nat} (n1 : name ≠ "tick") (n2 : name ≠ "put") (hl : ws.length ≤ 10) (hk : kdV (rdKV tr) name = some (.ref (tr i))) (h13 : i < 13) (hR : ∀ tl', RdAll (za 5) (za 6) (za 7) (za 8) sc tl tl' (rdV za i) ws us) (hn : us.any isNonV = false)
      (no : ∀ p ∈ name :: ws, 32 ∉ TL.tl p) (len : ((name :: ws).map fun p => p.length + 1).sum ≤ 400) (e : H t = some (.tup (.str name :: us))) : CaseOk K za tr sc tl H (Txt.join " " (name :: ws)) t
  | tick {t u : Addr} {n : Nat} {hs : List Str} (h1 : 1 ≤ n) (h9 : n ≤ 900) (hn : hs.Nodup) (hm : ∀ h ∈ hs, h ∈ STL) (h4 : hs.length ≤ 4) (e : H t = some (.tup [.str "tick", .int (n : Int), .ref u])) (eu : H u = some (.tup (hs.map V.str))) : CaseOk K za tr sc tl H (Txt.join " " ("tick" :: nT n :: hs)) t
def ni (us : List Nat) : List V := us.map fun u : Nat => V.int (u : Int)
theorem at_str (xs : List Str) {r : Int} (h0 : 0 ≤ r) (h1 : r < xs.length) : ∃ x, atI (xs.map V.str) r = some (.str x) ∧ x ∈ xs := by
  obtain ⟨x, hx⟩ : ∃ x, xs[r.toNat]? = some x := ⟨_, List.getElem?_eq_getElem (by omega)⟩
  refine ⟨x, ?_, List.mem_of_getElem? hx⟩
  have := atI_nat (xs := xs.map V.str) (j := r.toNat) (v := V.str x) (by rw [List.getElem?_map, hx]; rfl)
  rwa [Int.toNat_of_nonneg h0] at this
def spCase (K : PySem.W.Frag) (za tr : Nat → Addr) : Sp := fun vs H Q _ => ∃ (b : Addr) (sc tl : Nat) (c : Int), vs = [.ref b, .int (sc : Int), .int (tl : Int)] ∧ 2 ≤ sc ∧ sc ≤ 8 ∧ 1 ≤ tl ∧ tl ≤ 24 ∧ BoxAt c H b ∧ c ≤ 700000000 ∧
  ∀ (p t : Addr) (z : Str) (H' : Hp), CaseOk K za tr sc tl (off b H') z t → H' p = some (.tup [.str z, .ref t]) → p ≠ b → BoxAt (c + 50) H' b → Keep b H H' → Q (.ref p) H'
theorem ok__law_case (B : Bl mg) (L : LL K mg C za zl t28 fW DR tr w E_BadText I_BadText E_BadRow I_BadRow) : FnOk P w K mg base CX0 4 (za 21) (zl 21) ["_law_box_here", "_law_scale", "_law_tail"] (spCase K za tr) := by
  have G__law_take : FnOk P w K mg base CX0 3 (za 14) (zl 14) ["_law_box_here", "_law_size"] (spTake 1) := (ok_take L.F__law_take L.b__law_take L.m__law_take B 1).mono (by decide)
  have G__law_word : FnOk P w K mg base CX0 3 (za 18) (zl 18) ["_law_box_here", "_law_scale", "_law_tail"] spWord := (ok__law_word B L).mono (by decide)
  have G__law_held : FnOk P w K mg base CX0 3 (za 20) (zl 20) ["_law_box_here"] spHeld := (ok__law_held B L).mono (by decide)
  have G__law_bits : FnOk P w K mg base CX0 3 (za 19) (zl 19) ["_law_word_here", "_law_many"] spBits73 := (ok__law_bits B L).mono (by decide)
  refine L.F__law_case.ok sc__law_case (fun vs H Q E h => ?_) (fun cdv A outer s H vs Q E hr h => ?_)
  · obtain ⟨b, sc, tl, c, rfl, _⟩ := h
    rfl
  obtain ⟨b, sc, tl, c, rfl, h1, h2, h3, h4, hB, hc, q⟩ := h
  refine ⟨_, (pss_cons (ps_setLc (i := 3) (own := [("_law_turn", 11)]) (by rfl) sc__law_case.nd rfl rfl (sw_true rfl rfl rfl (by decide +kernel)) (pi_range1 (by rfl) B.range (pa_cons pe_int pa_nil)) (blkOk_by (own := [("_law_turn", 11)]) (N := ["_law_box_here", "_law_scale", "_law_tail", "_law_cells", "_law_way", "_law_word_here", "_law_what", "_law_first", "_law_count", "_law_held_here", "_law_some", "_law_turn", "_law_cell"]) (sc := defScope s__law_case) (by decide +kernel)) (fun _ _ _ _ _ => pg_name (i := 11) sc__law_case.nd rfl (Or.inl rfl)) (fun _ _ _ _ _ => pts_nil) (fun _ _ _ _ _ => (pe_call G__law_take hr (by rfl) L.m__law_take L.F__law_take.kp L.b__law_take .nil pass0 (pa_cons (pv 0) (pa_cons pe_int pa_nil)))))
    (pss_cons (ps_par (by rfl) sc__law_case.nd (i := 4) (j := 5) rfl rfl (by decide) rfl rfl (pa_cons (pe_ix ix_list (pe_lst (pa_cons pe_str (pa_cons pe_str (pa_cons pe_str (pa_cons pe_str pa_nil))))) (pe_call G__law_take hr (by rfl) L.m__law_take L.F__law_take.kp L.b__law_take .nil pass0 (pa_cons (pv 0) (pa_cons pe_int pa_nil))) (fun _ _ => rfl)) (pa_cons (pe_call G__law_word hr (by rfl) L.m__law_word L.F__law_word.kp L.b__law_word .nil pass0 (pa_cons (pv 0) (pa_cons (pv 1) (pa_cons (pv 2) pa_nil)))) pa_nil)) (by rfl))
    (pss_cons (ps_set (i := 6) sc__law_case.nd rfl (.inl rfl) (pe_lst (pa_cons pe_str (pa_cons pe_str (pa_cons pe_str (pa_cons pe_str (pa_cons pe_str (pa_cons pe_str (pa_cons pe_str (pa_cons pe_str (pa_cons pe_str (pa_cons pe_str (pa_cons pe_str (pa_cons pe_str pa_nil))))))))))))))
    (pss_cons (ps_set (i := 7) sc__law_case.nd rfl (.inl rfl) (pe_ix ix_list (pe_op op_cat (pv 6) (pe_lst (pa_cons pe_str (pa_cons pe_str pa_nil)))) (pe_call G__law_take hr (by rfl) L.m__law_take L.F__law_take.kp L.b__law_take .nil pass0 (pa_cons (pv 0) (pa_cons pe_int pa_nil))) (fun _ _ => rfl)))
    (pss_cons (ps_par (by rfl) sc__law_case.nd (i := 8) (j := 9) rfl rfl (by decide) rfl rfl (pa_cons (pe_ix ix_list (pe_lst (pa_cons (pe_op op_add pe_int (pe_call G__law_take hr (by rfl) L.m__law_take L.F__law_take.kp L.b__law_take .nil pass0 (pa_cons (pv 0) (pa_cons pe_int pa_nil)))) (pa_cons (pe_op op_add pe_int (pe_call G__law_take hr (by rfl) L.m__law_take L.F__law_take.kp L.b__law_take .nil pass0 (pa_cons (pv 0) (pa_cons pe_int pa_nil)))) (pa_cons pe_int pa_nil)))) (pe_call G__law_take hr (by rfl) L.m__law_take L.F__law_take.kp L.b__law_take .nil pass0 (pa_cons (pv 0) (pa_cons pe_int pa_nil))) (fun _ _ => rfl)) (pa_cons (pe_call G__law_held hr (by rfl) L.m__law_held L.F__law_held.kp L.b__law_held .nil pass0 (pa_cons (pv 0) pa_nil)) pa_nil)) (by rfl))
    (pss_cons (ps_if (pt_cmpR op_eq (pv 7) pe_str (nomark _)) (pss_one (ps_ret (pe_tup (pa_cons (pe_op op_add_str (pe_op op_add_str (pe_op op_add_str pe_str (pe_callTy call_str_int (by rfl) B.str PyProof.Rows.boot_str (pa_cons (pe_ix ix_list (pv 3) pe_int (fun _ _ => rfl)) pa_nil))) pe_str) (pe_call G__law_bits hr (by rfl) L.m__law_bits L.F__law_bits.kp L.b__law_bits .nil pass0 (pa_cons (pv 5) (pa_cons (pe_op op_add (pe_op op_add pe_int (pv 1)) (pv 2)) pa_nil)))) (pa_cons (pe_tup (pa_cons pe_str (pa_cons (pe_ix ix_list (pv 3) pe_int (fun _ _ => rfl)) (pa_cons (pv 5) pa_nil)))) pa_nil))))) pss_nil)
    (pss_cons (ps_if (pt_cmpR op_in_seq (pv 7) (pe_tup (pa_cons pe_str (pa_cons pe_str (pa_cons pe_str (pa_cons pe_str (pa_cons pe_str pa_nil)))))) (by rfl)) (pss_cons (ps_set (i := 10) sc__law_case.nd rfl (.inl rfl) (pe_slice sl_list (pv 3) po_none (po_some (pe_ifExp (pt_cmpR op_eq (pv 7) pe_str (nomark _)) pe_int pe_int))))
    (pss_one (ps_ret (pe_tup (pa_cons (pe_bm PySem.F.plainAttrs_str PySem.F.slot_str_join PySem.F.type_str_join mt_join pe_str (pa_cons (pe_op op_cat (pe_op op_cat (pe_lst (pa_cons (pv 7) pa_nil)) (pe_lc (own := [("_law_cell", 12)]) (by rfl) sc__law_case.nd (pi_list (pv 10)) (blkOk_by (own := [("_law_cell", 12)]) (N := ["_law_box_here", "_law_scale", "_law_tail", "_law_cells", "_law_way", "_law_word_here", "_law_what", "_law_first", "_law_count", "_law_held_here", "_law_some", "_law_turn", "_law_cell"]) (sc := defScope s__law_case) (by decide +kernel)) (fun _ _ _ _ _ => pg_name (i := 12) sc__law_case.nd rfl (Or.inl rfl)) (fun _ _ _ _ _ => pts_nil) (fun _ _ _ _ _ => (pe_callTy call_str_int (by rfl) B.str PyProof.Rows.boot_str (pa_cons (pv 12) pa_nil))))) (pe_lst (pa_cons (pv 4) pa_nil))) pa_nil)) (pa_cons (pe_op op_catA (pe_op op_catA (pe_tup (pa_cons (pv 7) pa_nil)) (pe_callTy call_tuple_of (by rfl) B.tuple PyProof.Rows.boot_tuple (pa_cons (pv 10) pa_nil))) (pe_tup (pa_cons (pv 4) pa_nil))) pa_nil)))))) pss_nil)
    (pss_cons (ps_if (pt_cmpR op_eq (pv 7) pe_str (nomark _)) (pss_one (ps_ret (pe_tup (pa_cons (pe_bm PySem.F.plainAttrs_str PySem.F.slot_str_join PySem.F.type_str_join mt_join pe_str (pa_cons (pe_op op_cat (pe_lst (pa_cons (pv 7) (pa_cons (pe_callTy call_str_int (by rfl) B.str PyProof.Rows.boot_str (pa_cons (pv 8) pa_nil)) pa_nil))) (pv 9)) pa_nil)) (pa_cons (pe_tup (pa_cons (pv 7) (pa_cons (pv 8) (pa_cons (pe_callTy call_tuple_of (by rfl) B.tuple PyProof.Rows.boot_tuple (pa_cons (pv 9) pa_nil)) pa_nil)))) pa_nil))))) pss_nil)
    (pss_cons (ps_if (pt_cmpR op_in_seq (pv 7) (pe_tup (pa_cons pe_str (pa_cons pe_str pa_nil))) (by rfl)) (pss_one (ps_ret (pe_tup (pa_cons (pe_op op_add_str (pe_op op_add_str (pv 7) pe_str) (pe_callTy call_str_int (by rfl) B.str PyProof.Rows.boot_str (pa_cons (pv 8) pa_nil))) (pa_cons (pe_tup (pa_cons (pv 7) (pa_cons (pv 8) pa_nil))) pa_nil))))) pss_nil)
    (pss_one (ps_ret (pe_ifExp (pt_cmpR op_in_seq (pv 7) (pe_tup (pa_cons pe_str (pa_cons pe_str pa_nil))) (by rfl)) (pe_tup (pa_cons (pe_op op_add_str (pe_op op_add_str (pv 7) pe_str) (pe_callTy call_str_int (by rfl) B.str PyProof.Rows.boot_str (pa_cons (pe_ix ix_list (pv 3) pe_int (fun _ _ => rfl)) pa_nil))) (pa_cons (pe_tup (pa_cons (pv 7) (pa_cons (pe_ix ix_list (pv 3) pe_int (fun _ _ => rfl)) pa_nil))) pa_nil))) (pe_tup (pa_cons (pv 7) (pa_cons (pe_tup (pa_cons (pv 7) pa_nil)) pa_nil))))))))))))))), ?_⟩
  refine ⟨_, rfl, by decide, by decide, fun V1 nV => ?_⟩
  have bV : V1 ≠ b := (hB.ne nV).symm
  refine lc_range (n := 4) (fun i H9 => ∃ us : List Nat, us.length = i ∧ (∀ u ∈ us, u ≤ 7) ∧ Keep b H H9 ∧ BoxAt (c + i) H9 b ∧ H9 V1 = some (.lst (ni us))) ⟨[], rfl, (fun _ z => nomatch z), Keep.new nV, (hB.same (same_upd nV)).mono (by omega), upd_same⟩ ?_ ?_
  · rintro i H9 hi ⟨us, lu, hu, k9, B9, e9⟩
    dsimp only [gName]
    refine ⟨rfl, yesT ?_⟩
    try simp only [L2.start, List.map_cons, List.map_nil, List.length_cons, List.length_nil, List.replicate_succ, List.replicate_zero, List.cons_append, List.nil_append, List.set_cons_succ, List.set_cons_zero, Nat.reduceAdd, Nat.reduceSub, Nat.zero_add]
    refine ⟨_, rfl, b, _, _, rfl, B9, (by decide), (by decide), (by decide), (by omega), (by decide), fun r H3 x0 x1 B3 k3 => ?_⟩
    refine ⟨_, k3 _ _ e9 bV, by unfold ni; rw [List.length_map, lu]; exact big_lt (by omega), us ++ [r.toNat], by rw [List.length_append, lu]; rfl, fun u hu' => ?_, fun y u e n => ?_, ?_, ?_⟩
    · rcases List.mem_append.mp hu' with z | z
      · exact hu u z
      · rw [List.mem_singleton.mp z]
        omega
    · rw [upd_ne (ne_of_none e nV)]
      exact k3 _ _ (k9 _ _ e n) n
    · exact ((bx1 B3).at (upd_ne bV.symm)).mono (by omega)
    · rw [upd_same]
      unfold ni
      rw [List.map_append, show [r.toNat].map (fun u : Nat => V.int (u : Int)) = [V.int r] by rw [List.map_singleton, Int.toNat_of_nonneg x0]]
  rintro H1 ⟨us, lu, hu, k1, B1, eV⟩
  dsimp only [gName]
  try simp only [L2.start, List.map_cons, List.map_nil, List.length_cons, List.length_nil, List.replicate_succ, List.replicate_zero, List.cons_append, List.nil_append, List.set_cons_succ, List.set_cons_zero, Nat.reduceAdd, Nat.reduceSub, Nat.zero_add]
  refine ⟨(by show 4 ≤ sizeLine; decide), fun lm nm => ?_⟩
  have nmb : lm ≠ b := (B1.ne nm).symm
  refine ⟨_, rfl, b, _, _, rfl, B1.same (same_upd nm), (by decide), (by decide), (by decide), (by omega), (by decide), fun r2 H2 v0 v1 B2 k2 => ?_⟩
  replace B2 := bx1 B2
  obtain ⟨way, hway, hwW⟩ := at_str WL v0 v1
  refine ⟨lm, _, _, _, rfl, rfl, SqL.of (k2 _ _ upd_same nmb), hway, ?_⟩
  refine ⟨_, rfl, _, rfl, _, rfl, b, sc, tl, _, rfl, h1, h2, h3, h4, B2, by omega, fun wd H3 w0 w1 B3 k3 => ?_⟩
  refine ⟨_, _, rfl, ?_⟩
  try simp only [L2.start, List.map_cons, List.map_nil, List.length_cons, List.length_nil, List.replicate_succ, List.replicate_zero, List.cons_append, List.nil_append, List.set_cons_succ, List.set_cons_zero, Nat.reduceAdd, Nat.reduceSub, Nat.zero_add]
  have kk3 : Keep b H1 H3 := ((Keep.new nm).trans k2).trans k3
  have eV3 := kk3 _ _ eV bV
  refine ⟨(by show 12 ≤ sizeLine; decide), fun lw nlw => ?_⟩
  have blw : lw ≠ b := (B3.ne nlw).symm
  have s4 := same_upd (o := .lst ((W14.take 12).map V.str)) nlw
  have e4 : (upd H3 lw (.lst ((W14.take 12).map V.str))) lw = some (.lst ((W14.take 12).map V.str)) := upd_same
  rw [show upd H3 lw (.lst [.str "put", .str "add", .str "take", .str "times", .str "over", .str "join", .str "tick", .str "empty", .str "cell", .str "whole", .str "flags", .str "inside"]) = upd H3 lw (.lst ((W14.take 12).map V.str)) from rfl]
  generalize upd H3 lw (.lst ((W14.take 12).map V.str)) = H4 at *
  have B4 := B3.same s4
  dsimp only [gName]
  try simp only [L2.start, List.map_cons, List.map_nil, List.length_cons, List.length_nil, List.replicate_succ, List.replicate_zero, List.cons_append, List.nil_append, List.set_cons_succ, List.set_cons_zero, Nat.reduceAdd, Nat.reduceSub, Nat.zero_add]
  refine ⟨_, rfl, (by show 2 ≤ sizeLine; decide), fun l5 nl5 => ?_⟩
  have s5 := same_upd (o := .lst [.str "ticks", .str "again"]) nl5
  have e5 : (upd H4 l5 (.lst [.str "ticks", .str "again"])) l5 = some (.lst [.str "ticks", .str "again"]) := upd_same
  have e45 := s5 _ _ e4
  generalize upd H4 l5 (.lst [.str "ticks", .str "again"]) = H5 at *
  have B5 := B4.same s5
  refine ⟨lw, l5, _, _, rfl, rfl, e45, e5, (by show 12 + 2 ≤ sizeLine; decide), fun l6 nl6 => ?_⟩
  have b6 : l6 ≠ b := (B5.ne nl6).symm
  have s6 := same_upd (o := .lst (W14.map V.str)) nl6
  have e6 : (upd H5 l6 (.lst (W14.map V.str))) l6 = some (.lst (W14.map V.str)) := upd_same
  rw [show upd H5 l6 (.lst ((W14.take 12).map V.str ++ [.str "ticks", .str "again"])) = upd H5 l6 (.lst (W14.map V.str)) from rfl]
  generalize upd H5 l6 (.lst (W14.map V.str)) = H6 at *
  have B6 := B5.same s6
  refine ⟨_, rfl, b, _, _, rfl, B6, (by decide), (by decide), (by decide), (by omega), (by decide), fun r7 H7 x0 x1 B7 k7 => ?_⟩
  replace B7 := bx1 B7
  obtain ⟨fst, hfst, hfW⟩ := at_str W14 x0 x1
  refine ⟨l6, _, _, _, rfl, rfl, SqL.of (k7 _ _ e6 b6), hfst, ?_⟩
  dsimp only [gName]
  try simp only [L2.start, List.map_cons, List.map_nil, List.length_cons, List.length_nil, List.replicate_succ, List.replicate_zero, List.cons_append, List.nil_append, List.set_cons_succ, List.set_cons_zero, Nat.reduceAdd, Nat.reduceSub, Nat.zero_add]
  have kk7 : Keep b H1 H7 := kk3.trans ((Keep.ofSame (s4.trans (s5.trans s6))).trans k7)
  obtain ⟨wn, rfl⟩ : ∃ wn : Nat, wd = (wn : Int) := ⟨wd.toNat, by omega⟩
  have hw : wn < 2 ^ (1 + sc + tl) := by
    have : ((2 ^ (1 + sc + tl) : Nat) : Int) = 2 ^ (1 + sc + tl) := by rw [Int.natCast_pow]; rfl
    omega
  clear hfst hway
  refine ⟨_, rfl, b, _, _, rfl, B7, (by decide), (by decide), (by decide), (by omega), (by decide), fun r8 H8 y0 y1 B8 k8 => ?_⟩
  replace B8 := bx1 B8
  refine ⟨_, _, rfl, rfl, _, rfl, b, _, _, rfl, B8, (by decide), (by decide), (by decide), (by omega), (by decide), fun r9 H9 y2 y3 B9 k9 => ?_⟩
  replace B9 := bx1 B9
  refine ⟨_, _, rfl, rfl, (by show 3 ≤ sizeLine; decide), fun lc nlc => ?_⟩
  have blc : lc ≠ b := (B9.ne nlc).symm
  refine ⟨_, rfl, b, _, _, rfl, B9.same (same_upd nlc), (by decide), (by decide), (by decide), (by omega), (by decide), fun r10 H11 y4 y5 B11 k11 => ?_⟩
  replace B11 := bx1 B11
  obtain ⟨n, hn, n1, n9⟩ : ∃ n : Nat, atI ([.int (1 + r8), .int (1 + r9), .int 900] : List V) r10 = some (.int (n : Int)) ∧ 1 ≤ n ∧ n ≤ 900 := by
    have c3 : r10 = 0 ∨ r10 = 1 ∨ r10 = 2 := by omega
    rcases c3 with z | z | z <;> subst z
    · refine ⟨(1 + r8).toNat, ?_, by omega, by omega⟩
      rw [Int.toNat_of_nonneg (by omega)]
      rfl
    · refine ⟨(1 + r9).toNat, ?_, by omega, by omega⟩
      rw [Int.toNat_of_nonneg (by omega)]
      rfl
    · exact ⟨900, rfl, by decide, by decide⟩
  refine ⟨lc, _, _, _, rfl, rfl, SqL.of (k11 _ _ upd_same blc), hn, ?_⟩
  refine ⟨_, rfl, b, _, rfl, B11, by omega, fun DH hs HX eD bD hnd hm hs4 BX kX => ?_⟩
  refine ⟨_, _, rfl, ?_⟩
  try simp only [L2.start, List.map_cons, List.map_nil, List.length_cons, List.length_nil, List.replicate_succ, List.replicate_zero, List.cons_append, List.nil_append, List.set_cons_succ, List.set_cons_zero, Nat.reduceAdd, Nat.reduceSub, Nat.zero_add]
  have kk : Keep b H1 HX := kk7.trans (((k8.trans k9).trans ((Keep.new nlc).trans k11)).trans kX)
  have kA : Keep b H HX := k1.trans kk
  have eVX := kk _ _ eV bV
  obtain ⟨u0, u1, u2, u3, rfl⟩ : ∃ u0 u1 u2 u3, us = [u0, u1, u2, u3] := by
    match us, lu with
    | [u0, u1, u2, u3], _ => exact ⟨u0, u1, u2, u3, rfl⟩
  have hu7 := hu
  have g0 := hu u0 (by simp)
  have g1 := hu u1 (by simp)
  have g2 := hu u2 (by simp)
  have g3 := hu u3 (by simp)
  have BX' : BoxAt (c + 45) HX b := BX.mono (by omega)
  clear BX B1 B2 B3 B4 B5 B6 B7 B8 B9 B11 k2 k3 kk3 k7 kk7 k8 k9 k11 kX s4 s5 s6 e4 e5 e45 e6 hn hu lu eV eV3
  have lbt : ∀ k n, (bt k n).length = k := fun k n => by rw [TL.len_tl, tl_bt, bitsL_len]
  refine ⟨_, rfl, rfl, _, rfl, ite2 (fun c1 => ?_) (fun c1 => ?_)⟩
  · have cp : fst = "put" := V.str.inj (of_decide_eq_true c1)
    have sl0 : (sgT u0).length = 1 := rfl
    refine ⟨_, rfl, V1, _, _, _, rfl, rfl, SqL.of eVX, (rfl : atI (ni [u0, u1, u2, u3]) 0 = some (.int (u0 : Int))), (u0 : Int), rfl, log_ok (by omega), ?_⟩
    rw [sg_text u0 (by omega)]
    refine ⟨_, _, rfl, rfl, by rw [sl0]; decide, _, _, rfl, rfl, by rw [strLen_append, sl0]; decide, ?_⟩
    have p40 : (2 : Nat) ^ (1 + sc + tl) ≤ 2 ^ 40 := Nat.pow_le_pow_right (by decide) (by omega)
    refine ⟨_, rfl, _, rfl, _, _, rfl, rfl, _, rfl, _, _, rfl, rfl, wn, 1 + sc + tl, congrArg (fun z => [V.int (wn : Int), V.int z]) (by omega), by omega, by omega, fun H2 s2 => ?_⟩
    refine ⟨_, _, rfl, rfl, ?_, ?_⟩
    · rw [strLen_append, strLen_append, sl0, lbt, sizeLine_eq, show ((" " : String) : Str).length = 1 from rfl, show (("put " : String) : Str).length = 4 from rfl]
      omega
    refine ⟨_, rfl, V1, _, _, _, rfl, rfl, SqL.of (s2 _ _ eVX), (rfl : atI (ni [u0, u1, u2, u3]) 0 = some (.int (u0 : Int))), ?_⟩
    refine ⟨_, rfl, (by show 3 ≤ sizeLine; decide), fun t nt => ?_⟩
    have B2 := BX'.same s2
    have s3 := same_upd (o := .tup [.str "put", .int (u0 : Int), .int (wn : Int)]) nt
    have o3 := off_at (o := .tup [.str "put", .int (u0 : Int), .int (wn : Int)]) B2.some nt
    generalize upd H2 t (.tup [.str "put", .int (u0 : Int), .int (wn : Int)]) = H3 at *
    have B3 := B2.same s3
    have ez : ("put " : Str) ++ sgT u0 ++ " " ++ bt (1 + sc + tl) wn = Txt.join " " ["put", sgT u0, bt (1 + sc + tl) wn] := by
      rw [join_three, show ("put " : Str) = "put" ++ " " from rfl]
      simp only [app_assoc]
    refine ⟨(by show 2 ≤ sizeLine; decide), fun p np => ?_⟩
    rw [ez]
    have s4 := same_upd (o := .tup [.str (Txt.join " " ["put", sgT u0, bt (1 + sc + tl) wn]), .ref t]) np
    exact q p t _ _ (.put g0 hw (off_ofSame s4 _ _ o3)) upd_same (B3.ne np).symm ((B3.same s4).mono (by omega)) (kA.trans (Keep.ofSame (s2.trans (s3.trans s4))))
  · have np : fst ≠ "put" := fun z => c1 (decide_eq_true (congrArg V.str z))
    try simp only [L2.start, List.map_cons, List.map_nil, List.length_cons, List.length_nil, List.replicate_succ, List.replicate_zero, List.cons_append, List.nil_append, List.set_cons_succ, List.set_cons_zero, Nat.reduceAdd, Nat.reduceSub, Nat.zero_add]
    refine ⟨_, rfl, (by show 5 ≤ sizeLine; decide), fun T nTT => ?_⟩
    have sT := same_upd (o := .tup [.str "add", .str "take", .str "times", .str "over", .str "join"]) nTT
    have eT : (upd HX T (.tup [.str "add", .str "take", .str "times", .str "over", .str "join"])) T = some (.tup ((["add", "take", "times", "over", "join"] : List Str).map V.str)) := upd_same
    have eVT := sT _ _ eVX
    have BT := BX'.same sT
    have kT := kA.trans (Keep.ofSame sT)
    have eDT := sT _ _ eD
    generalize upd HX T (.tup [.str "add", .str "take", .str "times", .str "over", .str "join"]) = HT at *
    refine ⟨T, _, rfl, .inr (SqT.of eT), rfl, rfl, _, rfl, ?_⟩
    rw [inV_str]
    refine ite2 (fun c2 => ?_) (fun c2 => ?_)
    · have c2 : fst ∈ (["add", "take", "times", "over", "join"] : List Str) := of_decide_eq_true c2
      obtain ⟨i, cs, hc7, hc0, hc4, hcut, hki, hi13, hRd⟩ : ∃ (i : Nat) (cs : List Nat), (∀ c ∈ cs, c ≤ 7) ∧ 1 ≤ cs.length ∧ cs.length ≤ 4 ∧ cutV (ni [u0, u1, u2, u3]) none (some (if fst = "join" then 4 else 3)) = ni cs ∧ kdV (rdKV tr) fst = some (.ref (tr i)) ∧ i < 13 ∧ (∀ tl', RdAll (za 5) (za 6) (za 7) (za 8) sc tl tl' (rdV za i) (cs.map sgT ++ [way]) (ni cs ++ [.str way])) := by
        simp only [List.mem_cons, List.not_mem_nil, or_false] at c2
        have three : ∀ c ∈ [u0, u1, u2], c ≤ 7 := fun c h => hu7 c (by simp only [List.mem_cons, List.not_mem_nil, or_false] at h ⊢; omega)
        rcases c2 with rfl | rfl | rfl | rfl | rfl
        · exact ⟨1, [u0, u1, u2], three, (by decide : 1 ≤ 3), (by decide : 3 ≤ 4), rfl, rfl, by decide, fun tl' => .cons (.cell g0) (.cons (.cell g1) (.cons (.cell g2) (.cons (.way hwW) .nil)))⟩
        · exact ⟨2, [u0, u1, u2], three, (by decide : 1 ≤ 3), (by decide : 3 ≤ 4), rfl, rfl, by decide, fun tl' => .cons (.cell g0) (.cons (.cell g1) (.cons (.cell g2) (.cons (.way hwW) .nil)))⟩
        · exact ⟨3, [u0, u1, u2], three, (by decide : 1 ≤ 3), (by decide : 3 ≤ 4), rfl, rfl, by decide, fun tl' => .cons (.cell g0) (.cons (.cell g1) (.cons (.cell g2) (.cons (.way hwW) .nil)))⟩
        · exact ⟨4, [u0, u1, u2], three, (by decide : 1 ≤ 3), (by decide : 3 ≤ 4), rfl, rfl, by decide, fun tl' => .cons (.cell g0) (.cons (.cell g1) (.cons (.cell g2) (.cons (.way hwW) .nil)))⟩
        · exact ⟨5, [u0, u1, u2, u3], hu7, (by decide : 1 ≤ 4), (by decide : 4 ≤ 4), rfl, rfl, by decide, fun tl' => .cons (.cell g0) (.cons (.cell g1) (.cons (.cell g2) (.cons (.cell g3) (.cons (.way hwW) .nil))))⟩
      have hlen : ((fst :: (cs.map sgT ++ [way])).map fun p => p.length + 1).sum ≤ 60 := by
        rw [List.map_cons, List.map_append, List.sum_cons, List.sum_append, sum_sg]
        have := (name_len hfW).1
        have := way_len hwW
        show fst.length + 1 + (2 * cs.length + (way.length + 1 + 0)) ≤ 60
        omega
      refine ⟨_, rfl, ?_⟩
      refine if_ev (fun z H' => HT = H' ∧ z = .int (if fst = "join" then 4 else 3)) (fun Q k => ⟨_, rfl, rfl, _, rfl, ite2 (fun c => k _ _ ⟨rfl, by rw [if_pos (V.str.inj (of_decide_eq_true c))]⟩) (fun c => k _ _ ⟨rfl, by rw [if_neg (fun z => c (decide_eq_true (congrArg V.str z)))]⟩)⟩) ?_
      rintro z _ ⟨rfl, rfl⟩
      refine ⟨_, rfl, V1, _, rfl, SqL.of eVT, fun S nS => ?_⟩
      rw [hcut]
      have bS : S ≠ b := (BT.ne nS).symm
      have sS := same_upd (o := .lst (ni cs)) nS
      have eS : (upd HT S (.lst (ni cs))) S = some (.lst (ni cs)) := upd_same
      generalize upd HT S (.lst (ni cs)) = HS at *
      have BS := BT.same sS
      dsimp only [gName]
      try simp only [L2.start, List.map_cons, List.map_nil, List.length_cons, List.length_nil, List.replicate_succ, List.replicate_zero, List.cons_append, List.nil_append, List.set_cons_succ, List.set_cons_zero, Nat.reduceAdd, Nat.reduceSub, Nat.zero_add]
      refine ⟨rfl, _, rfl, (by show 1 ≤ sizeLine; decide), fun a1 m1 => ?_⟩
      have s1 := same_upd (o := .lst [.str fst]) m1
      have e1 : (upd HS a1 (.lst [.str fst])) a1 = some (.lst [.str fst]) := upd_same
      have eS1 := s1 _ _ eS
      generalize upd HS a1 (.lst [.str fst]) = J1 at *
      refine ⟨_, rfl, S, rfl, ⟨_, SqL.of eS1⟩, fun D2 nD2 => ?_⟩
      refine lc_list (K := K) (a := S) (xs := ni cs) (fun i H6 => Same J1 H6 ∧ H6 D2 = some (.lst (((cs.take i).map sgT).map V.str))) ⟨same_upd nD2, upd_same⟩ (fun i H6 _ ⟨s6, _⟩ => SqL.of (s6 _ _ eS1)) ?_ ?_
      · rintro j z H6 hj ⟨s6, e6⟩
        unfold ni at hj
        rw [List.getElem?_map] at hj
        obtain ⟨cc, hcc, rfl⟩ := Option.map_eq_some_iff.mp hj
        have c7 := hc7 cc (List.mem_of_getElem? hcc)
        refine ⟨rfl, yesT ?_⟩
        try simp only [L2.start, List.map_cons, List.map_nil, List.length_cons, List.length_nil, List.replicate_succ, List.replicate_zero, List.cons_append, List.nil_append, List.set_cons_succ, List.set_cons_zero, Nat.reduceAdd, Nat.reduceSub, Nat.zero_add]
        refine ⟨_, rfl, (cc : Int), rfl, log_ok (by omega), ?_⟩
        rw [sg_text cc (by omega)]
        refine ⟨_, e6, ?_, fun y o e => ?_, ?_⟩
        · rw [List.length_map, List.length_map, List.length_take]
          exact big_lt (by omega)
        · rw [upd_ne (ne_of_none e nD2)]
          exact s6 _ _ e
        · rw [upd_same, List.take_add_one, hcc, List.map_append, List.map_append]
          rfl
      rintro J2 ⟨s2, e2⟩
      have eln : (ni cs).length = cs.length := List.length_map ..
      rw [eln, List.take_length] at e2
      refine ⟨a1, D2, _, _, rfl, rfl, s2 _ _ e1, e2, ?_, fun a3 m3 => ?_⟩
      · rw [List.length_map, List.length_map, sizeLine_eq]
        show 1 + cs.length ≤ _
        omega
      have s3 := same_upd (o := .lst ([.str fst] ++ (cs.map sgT).map V.str)) m3
      have e3 : (upd J2 a3 (.lst ([.str fst] ++ (cs.map sgT).map V.str))) a3 = some (.lst ([.str fst] ++ (cs.map sgT).map V.str)) := upd_same
      generalize upd J2 a3 (.lst ([.str fst] ++ (cs.map sgT).map V.str)) = J3 at *
      refine ⟨_, rfl, (by show 1 ≤ sizeLine; decide), fun a4 m4 => ?_⟩
      have s4 := same_upd (o := .lst [.str way]) m4
      have e4 : (upd J3 a4 (.lst [.str way])) a4 = some (.lst [.str way]) := upd_same
      have e34 := s4 _ _ e3
      generalize upd J3 a4 (.lst [.str way]) = J4 at *
      refine ⟨a3, a4, _, _, rfl, rfl, e34, e4, ?_, fun a5 m5 => ?_⟩
      · rw [List.length_append, List.length_map, List.length_map, sizeLine_eq]
        show 1 + cs.length + 1 ≤ _
        omega
      have el5 : [V.str fst] ++ (cs.map sgT).map V.str ++ [V.str way] = (fst :: (cs.map sgT ++ [way])).map V.str := by
        rw [List.map_cons, List.map_append]
        rfl
      rw [el5]
      have s5 := same_upd (o := .lst ((fst :: (cs.map sgT ++ [way])).map V.str)) m5
      have e5 : (upd J4 a5 (.lst ((fst :: (cs.map sgT ++ [way])).map V.str))) a5 = some (.lst ((fst :: (cs.map sgT ++ [way])).map V.str)) := upd_same
      generalize upd J4 a5 (.lst ((fst :: (cs.map sgT ++ [way])).map V.str)) = J5 at *
      refine ⟨_, a5, fst :: (cs.map sgT ++ [way]), rfl, rfl, .inl (SqL.of e5), ?_, ?_⟩
      · have := sum_one (fst :: (cs.map sgT ++ [way]))
        rw [show ((" " : String) : Str).length = 1 from rfl]
        omega
      have s15 : Same HS J5 := s1.trans (s2.trans (s3.trans (s4.trans s5)))
      have B15 := BS.same s15
      refine ⟨_, rfl, (by show 1 ≤ sizeLine; decide), fun t1 m6 => ?_⟩
      have s6 := same_upd (o := .tup [.str fst]) m6
      have e6 : (upd J5 t1 (.tup [.str fst])) t1 = some (.tup [.str fst]) := upd_same
      generalize upd J5 t1 (.tup [.str fst]) = J6 at *
      refine ⟨_, rfl, S, _, rfl, .inl ⟨SqL.of (s6 _ _ (s15 _ _ eS)), fun t2 m7 => ?_⟩⟩
      have s7 := same_upd (o := .tup (ni cs)) m7
      have e7 : (upd J6 t2 (.tup (ni cs))) t2 = some (.tup (ni cs)) := upd_same
      have e67 := s7 _ _ e6
      generalize upd J6 t2 (.tup (ni cs)) = J7 at *
      have nn : ni cs ≠ [] := fun z => by rw [← List.length_eq_zero_iff, eln] at z; omega
      refine ⟨t1, t2, _, _, rfl, rfl, SqT.of e67, SqT.of e7, by rw [eln, sizeLine_eq]; show 1 + cs.length ≤ _; omega, fun z => absurd z (by simp), fun _ z => absurd z nn, fun _ _ t3 m8 => ?_⟩
      have s8 := same_upd (o := .tup ([.str fst] ++ ni cs)) m8
      have e8 : (upd J7 t3 (.tup ([.str fst] ++ ni cs))) t3 = some (.tup ([.str fst] ++ ni cs)) := upd_same
      generalize upd J7 t3 (.tup ([.str fst] ++ ni cs)) = J8 at *
      refine ⟨_, rfl, (by show 1 ≤ sizeLine; decide), fun t4 m9 => ?_⟩
      have s9 := same_upd (o := .tup [.str way]) m9
      have e9 : (upd J8 t4 (.tup [.str way])) t4 = some (.tup [.str way]) := upd_same
      have e89 := s9 _ _ e8
      generalize upd J8 t4 (.tup [.str way]) = J9 at *
      refine ⟨t3, t4, _, _, rfl, rfl, SqT.of e89, SqT.of e9, by rw [List.length_append, eln, sizeLine_eq]; show 1 + cs.length + 1 ≤ _; omega, fun z => absurd z (by simp), fun _ z => absurd z (by simp), fun _ _ t5 m10 => ?_⟩
      have s59 : Same J5 J9 := s6.trans (s7.trans (s8.trans s9))
      have B9' := B15.same s59
      have s10 := same_upd (o := .tup ([.str fst] ++ ni cs ++ [.str way])) m10
      have o10 := off_at (o := .tup ([.str fst] ++ ni cs ++ [.str way])) B9'.some m10
      generalize upd J9 t5 (.tup ([.str fst] ++ ni cs ++ [.str way])) = J10 at *
      refine ⟨(by show 2 ≤ sizeLine; decide), fun p mp => ?_⟩
      have B10' := B9'.same s10
      have s11 := same_upd (o := .tup [.str (Txt.join " " (fst :: (cs.map sgT ++ [way]))), .ref t5]) mp
      have hfl := name_len hfW
      refine q p t5 _ _ (.oth ?_ np ?_ hki hi13 hRd ?_ ?_ ?_ (off_ofSame s11 _ _ o10)) upd_same (B10'.ne mp).symm ((B10'.same s11).mono (by omega)) (kT.trans (Keep.ofSame (sS.trans (s15.trans (s59.trans (s10.trans s11))))))
      · rintro rfl
        exact absurd c2 (by decide)
      · rw [List.length_append, List.length_map, List.length_singleton]
        omega
      · rw [List.any_append, show (ni cs).any isNonV = false from List.any_eq_false.mpr (fun v hv => by
          obtain ⟨c, _, rfl⟩ := List.mem_map.mp hv
          exact Bool.false_ne_true)]
        rfl
      · intro p hp
        rcases List.mem_cons.mp hp with rfl | hp
        · exact hfl.2
        rcases List.mem_append.mp hp with hp | hp
        · obtain ⟨c, hc', rfl⟩ := List.mem_map.mp hp
          exact sg_no c (hc7 c hc')
        · rw [List.mem_singleton.mp hp]
          exact way_no hwW
      · exact Nat.le_trans hlen (by decide)
    · have no5 : fst ∉ (["add", "take", "times", "over", "join"] : List Str) := of_decide_eq_false (Bool.eq_false_iff.mpr c2)
      have hfl := name_len hfW
      have ln := nT_len n1 n9
      have lnz : (nT n).length ≤ sizeLine := by rw [sizeLine_eq]; omega
      try simp only [L2.start, List.map_cons, List.map_nil, List.length_cons, List.length_nil, List.replicate_succ, List.replicate_zero, List.cons_append, List.nil_append, List.set_cons_succ, List.set_cons_zero, Nat.reduceAdd, Nat.reduceSub, Nat.zero_add]
      refine ⟨_, rfl, rfl, _, rfl, ite2 (fun c3 => ?_) (fun c3 => ?_)⟩
      · have ct : fst = "tick" := V.str.inj (of_decide_eq_true c3)
        subst ct
        refine ⟨rfl, _, rfl, _, rfl, (n : Int), rfl, log_ok (by omega), (by show 2 ≤ sizeLine; decide), fun a1 m1 => ?_⟩
        rw [show Str.ofString (toString (n : Int)) = nT n from rfl]
        have s1 := same_upd (o := .lst [.str "tick", .str (nT n)]) m1
        have e1 : (upd HT a1 (.lst [.str "tick", .str (nT n)])) a1 = some (.lst [.str "tick", .str (nT n)]) := upd_same
        generalize upd HT a1 (.lst [.str "tick", .str (nT n)]) = J1 at *
        refine ⟨_, rfl, a1, DH, _, _, rfl, rfl, e1, s1 _ _ eDT, by rw [List.length_map, sizeLine_eq]; show 2 + hs.length ≤ _; omega, fun a2 m2 => ?_⟩
        rw [show [V.str "tick", V.str (nT n)] ++ hs.map V.str = (("tick" : Str) :: nT n :: hs).map V.str from rfl]
        have s2 := same_upd (o := .lst ((("tick" : Str) :: nT n :: hs).map V.str)) m2
        have e2 : (upd J1 a2 (.lst ((("tick" : Str) :: nT n :: hs).map V.str))) a2 = some (.lst ((("tick" : Str) :: nT n :: hs).map V.str)) := upd_same
        generalize upd J1 a2 (.lst ((("tick" : Str) :: nT n :: hs).map V.str)) = J2 at *
        refine ⟨_, a2, ("tick" : Str) :: nT n :: hs, rfl, rfl, .inl (SqL.of e2), ?_, ?_⟩
        · have a := sum_one (("tick" : Str) :: nT n :: hs)
          have c := sum_le hs fun x hx => (stage_len (hm x hx)).1
          rw [List.map_cons (f := fun p : Str => p.length + 1), List.map_cons (f := fun p : Str => p.length + 1), List.sum_cons, List.sum_cons, show (("tick" : String) : Str).length = 4 from rfl] at a
          rw [show ((" " : String) : Str).length = 1 from rfl]
          omega
        have s12 := s1.trans s2
        have BJ2 := BT.same s12
        refine ⟨_, rfl, _, rfl, _, rfl, DH, _, rfl, .inl ⟨SqL.of (s12 _ _ eDT), fun u m3 => ?_⟩⟩
        have s3 := same_upd (o := .tup (hs.map V.str)) m3
        have o3 := off_at (o := .tup (hs.map V.str)) BJ2.some m3
        generalize upd J2 u (.tup (hs.map V.str)) = J3 at *
        have BJ3 := BJ2.same s3
        refine ⟨(by show 3 ≤ sizeLine; decide), fun t m4 => ?_⟩
        have s4 := same_upd (o := .tup [.str "tick", .int (n : Int), .ref u]) m4
        have o4 := off_at (o := .tup [.str "tick", .int (n : Int), .ref u]) BJ3.some m4
        generalize upd J3 t (.tup [.str "tick", .int (n : Int), .ref u]) = J4 at *
        have BJ4 := BJ3.same s4
        refine ⟨(by show 2 ≤ sizeLine; decide), fun p mp => ?_⟩
        have s5 := same_upd (o := .tup [.str (Txt.join " " (("tick" : Str) :: nT n :: hs)), .ref t]) mp
        exact q p t _ _ (.tick n1 n9 hnd hm hs4 (off_ofSame s5 _ _ o4) (off_ofSame (s4.trans s5) _ _ o3)) upd_same (BJ4.ne mp).symm ((BJ4.same s5).mono (by omega)) (kT.trans (Keep.ofSame (s12.trans (s3.trans (s4.trans s5)))))
      · have ntk : fst ≠ "tick" := fun z => c3 (decide_eq_true (congrArg V.str z))
        try simp only [L2.start, List.map_cons, List.map_nil, List.length_cons, List.length_nil, List.replicate_succ, List.replicate_zero, List.cons_append, List.nil_append, List.set_cons_succ, List.set_cons_zero, Nat.reduceAdd, Nat.reduceSub, Nat.zero_add]
        refine ⟨_, rfl, (by show 2 ≤ sizeLine; decide), fun T2 m2 => ?_⟩
        have sT2 := same_upd (o := .tup [.str "empty", .str "again"]) m2
        have eT2 : (upd HT T2 (.tup [.str "empty", .str "again"])) T2 = some (.tup ((["empty", "again"] : List Str).map V.str)) := upd_same
        have eVT2 := sT2 _ _ eVT
        have BT2 := BT.same sT2
        have kT2 := kT.trans (Keep.ofSame sT2)
        generalize upd HT T2 (.tup [.str "empty", .str "again"]) = J2 at *
        refine ⟨T2, _, rfl, .inr (SqT.of eT2), rfl, rfl, _, rfl, ?_⟩
        rw [inV_str]
        refine ite2 (fun c4 => ?_) (fun c4 => ?_)
        · have c4 : fst ∈ (["empty", "again"] : List Str) := of_decide_eq_true c4
          refine ⟨_, rfl, _, _, rfl, rfl, by rw [show ((" " : String) : Str).length = 1 from rfl, sizeLine_eq]; omega, _, rfl, (n : Int), rfl, log_ok (by omega), _, _, rfl, rfl, ?_, ?_⟩
          · rw [show Str.ofString (toString (n : Int)) = nT n from rfl, strLen_append, show ((" " : String) : Str).length = 1 from rfl, sizeLine_eq]
            omega
          rw [show Str.ofString (toString (n : Int)) = nT n from rfl]
          refine ⟨_, rfl, _, rfl, (by show 2 ≤ sizeLine; decide), fun t m3 => ?_⟩
          have BE := BT2
          have sE := same_upd (o := .tup (.str fst :: [.int (n : Int)])) m3
          have oE := off_at (o := .tup (.str fst :: [.int (n : Int)])) BE.some m3
          generalize upd J2 t (.tup (.str fst :: [.int (n : Int)])) = JE at *
          have BE2 := BE.same sE
          refine ⟨(by show 2 ≤ sizeLine; decide), fun p mp => ?_⟩
          rw [show fst ++ " " ++ nT n = Txt.join " " [fst, nT n] from (join_two _ _).symm]
          have sE2 := same_upd (o := .tup [.str (Txt.join " " (fst :: [nT n])), .ref t]) mp
          obtain ⟨i, hki, hi13, hRd⟩ : ∃ i, kdV (rdKV tr) fst = some (.ref (tr i)) ∧ i < 13 ∧ (∀ tl', RdAll (za 5) (za 6) (za 7) (za 8) sc tl tl' (rdV za i) [nT n] [.int (n : Int)]) := by
            simp only [List.mem_cons, List.not_mem_nil, or_false] at c4
            rcases c4 with rfl | rfl
            · exact ⟨6, rfl, by decide, fun _ => .cons (.num n1 n9) .nil⟩
            · exact ⟨12, rfl, by decide, fun _ => .cons (.num n1 n9) .nil⟩
          refine q p t _ _ (.oth ntk np (by show 1 ≤ 10; decide) hki hi13 hRd rfl ?_ ?_ (off_ofSame sE2 _ _ oE)) upd_same (BE2.ne mp).symm ((BE2.same sE2).mono (by omega)) (kT2.trans (Keep.ofSame (sE.trans sE2)))
          · intro p hp
            rcases List.mem_cons.mp hp with rfl | hp
            · exact hfl.2
            · rw [List.mem_singleton.mp hp]
              exact nT_no n
          · show fst.length + 1 + ((nT n).length + 1 + 0) ≤ 400
            omega
        · have c4 : fst ∉ (["empty", "again"] : List Str) := of_decide_eq_false (Bool.eq_false_iff.mpr c4)
          try simp only [L2.start, List.map_cons, List.map_nil, List.length_cons, List.length_nil, List.replicate_succ, List.replicate_zero, List.cons_append, List.nil_append, List.set_cons_succ, List.set_cons_zero, Nat.reduceAdd, Nat.reduceSub, Nat.zero_add]
          refine ⟨_, rfl, (by show 2 ≤ sizeLine; decide), fun T3 m4 => ?_⟩
          have sT3 := same_upd (o := .tup [.str "cell", .str "whole"]) m4
          have eT3 : (upd J2 T3 (.tup [.str "cell", .str "whole"])) T3 = some (.tup ((["cell", "whole"] : List Str).map V.str)) := upd_same
          have eVT3 := sT3 _ _ eVT2
          have BT3 := BT2.same sT3
          have kT3 := kT2.trans (Keep.ofSame sT3)
          generalize upd J2 T3 (.tup [.str "cell", .str "whole"]) = J3 at *
          refine ⟨T3, _, rfl, .inr (SqT.of eT3), rfl, rfl, _, rfl, ?_⟩
          rw [inV_str]
          refine ite2 (fun c5 => ?_) (fun c5 => ?_)
          · have c5 : fst ∈ (["cell", "whole"] : List Str) := of_decide_eq_true c5
            refine ⟨_, rfl, _, _, rfl, rfl, by rw [show ((" " : String) : Str).length = 1 from rfl, sizeLine_eq]; omega, _, rfl, V1, _, _, _, rfl, rfl, SqL.of eVT3, (rfl : atI (ni [u0, u1, u2, u3]) 0 = some (.int (u0 : Int))), (u0 : Int), rfl, log_ok (by omega), _, _, rfl, rfl, ?_, ?_⟩
            · rw [sg_text u0 (by omega), strLen_append, show ((" " : String) : Str).length = 1 from rfl, sizeLine_eq, show (sgT u0).length = 1 from rfl]
              omega
            rw [sg_text u0 (by omega)]
            refine ⟨_, rfl, _, rfl, V1, _, _, _, rfl, rfl, SqL.of eVT3, (rfl : atI (ni [u0, u1, u2, u3]) 0 = some (.int (u0 : Int))), (by show 2 ≤ sizeLine; decide), fun t m3 => ?_⟩
            have BE := BT3
            have sE := same_upd (o := .tup (.str fst :: [.int (u0 : Int)])) m3
            have oE := off_at (o := .tup (.str fst :: [.int (u0 : Int)])) BE.some m3
            generalize upd J3 t (.tup (.str fst :: [.int (u0 : Int)])) = JE at *
            have BE2 := BE.same sE
            refine ⟨(by show 2 ≤ sizeLine; decide), fun p mp => ?_⟩
            rw [show fst ++ " " ++ sgT u0 = Txt.join " " [fst, sgT u0] from (join_two _ _).symm]
            have sE2 := same_upd (o := .tup [.str (Txt.join " " (fst :: [sgT u0])), .ref t]) mp
            obtain ⟨i, hki, hi13, hRd⟩ : ∃ i, kdV (rdKV tr) fst = some (.ref (tr i)) ∧ i < 13 ∧ (∀ tl', RdAll (za 5) (za 6) (za 7) (za 8) sc tl tl' (rdV za i) [sgT u0] [.int (u0 : Int)]) := by
              simp only [List.mem_cons, List.not_mem_nil, or_false] at c5
              rcases c5 with rfl | rfl
              · exact ⟨7, rfl, by decide, fun _ => .cons (.cell g0) .nil⟩
              · exact ⟨8, rfl, by decide, fun _ => .cons (.cell g0) .nil⟩
            refine q p t _ _ (.oth ntk np (by show 1 ≤ 10; decide) hki hi13 hRd rfl ?_ ?_ (off_ofSame sE2 _ _ oE)) upd_same (BE2.ne mp).symm ((BE2.same sE2).mono (by omega)) (kT3.trans (Keep.ofSame (sE.trans sE2)))
            · intro p hp
              rcases List.mem_cons.mp hp with rfl | hp
              · exact hfl.2
              · rw [List.mem_singleton.mp hp]
                exact sg_no u0 g0
            · show fst.length + 1 + (1 + 1 + 0) ≤ 400
              omega
          · have c5 : fst ∉ (["cell", "whole"] : List Str) := of_decide_eq_false (Bool.eq_false_iff.mpr c5)
            refine ⟨_, rfl, _, rfl, (by show 1 ≤ sizeLine; decide), fun t m3 => ?_⟩
            have BE := BT3
            have sE := same_upd (o := .tup (.str fst :: [])) m3
            have oE := off_at (o := .tup (.str fst :: [])) BE.some m3
            generalize upd J3 t (.tup (.str fst :: [])) = JE at *
            have BE2 := BE.same sE
            refine ⟨(by show 2 ≤ sizeLine; decide), fun p mp => ?_⟩
            have eo := join_one fst
            rw [show HO.tup [V.str fst, V.ref t] = HO.tup [V.str (Txt.join " " [fst]), V.ref t] by rw [eo]]
            have sE2 := same_upd (o := .tup [.str (Txt.join " " (fst :: [])), .ref t]) mp
            obtain ⟨i, hki, hi13, hRd⟩ : ∃ i, kdV (rdKV tr) fst = some (.ref (tr i)) ∧ i < 13 ∧ (∀ tl', RdAll (za 5) (za 6) (za 7) (za 8) sc tl tl' (rdV za i) [] []) := by
              have rest : fst = "flags" ∨ fst = "inside" ∨ fst = "ticks" := by
                simp only [W14, List.mem_cons, List.not_mem_nil, or_false] at hfW
                simp only [List.mem_cons, List.not_mem_nil, or_false, not_or] at no5 c4 c5
                rcases hfW with h | h | h | h | h | h | h | h | h | h | h | h | h | h
                · exact absurd h np
                · exact absurd h no5.1
                · exact absurd h no5.2.1
                · exact absurd h no5.2.2.1
                · exact absurd h no5.2.2.2.1
                · exact absurd h no5.2.2.2.2
                · exact absurd h ntk
                · exact absurd h c4.1
                · exact absurd h c5.1
                · exact absurd h c5.2
                · exact .inl h
                · exact .inr (.inl h)
                · exact .inr (.inr h)
                · exact absurd h c4.2
              rcases rest with rfl | rfl | rfl
              · exact ⟨9, rfl, by decide, fun _ => .nil⟩
              · exact ⟨10, rfl, by decide, fun _ => .nil⟩
              · exact ⟨11, rfl, by decide, fun _ => .nil⟩
            refine q p t _ _ (.oth ntk np (by show 0 ≤ 10; decide) hki hi13 hRd rfl ?_ ?_ (off_ofSame sE2 _ _ oE)) upd_same (BE2.ne mp).symm ((BE2.same sE2).mono (by omega)) (kT3.trans (Keep.ofSame (sE.trans sE2)))
            · intro p hp
              rcases List.mem_cons.mp hp with rfl | hp
              · exact hfl.2
              · exact nomatch hp
            · show fst.length + 1 + 0 ≤ 400
              omega
end
section
variable {P : Program} {w : World} {K : PySem.W.Frag} {mg : Str → Option Value} {base : Heap}
variable {C : Addr} {za : Nat → Addr} {zl : Nat → FuncData} {t28 : Tok} {fW : Addr} {DR : Addr} {tr : Nat → Addr} {E_BadText I_BadText E_BadRow I_BadRow : Addr}
/-! ### rows refused -/
def putW (sc tl c w : Nat) : List Str := ["put", sgT c, bt (1 + sc + tl) w]
theorem put_split {sc tl c w : Nat} (hc : c ≤ 7) : Txt.split (Txt.join " " (putW sc tl c w)) " " = putW sc tl c w := sp_join (by unfold putW; simp) fun p hp => by
  unfold putW at hp
  simp only [List.mem_cons, List.not_mem_nil, or_false] at hp
  rcases hp with rfl | rfl | rfl
  · decide
  · exact sg_no c hc
  · exact bt_no _ _
theorem put_len {sc tl c w : Nat} (h1 : sc ≤ 8) (h2 : tl ≤ 24) : (Txt.join " " (putW sc tl c w)).length ≤ 400 := by
  refine Nat.le_trans (join_len _) ?_
  have lb : ∀ k n, (bt k n).length = k := fun k n => by rw [TL.len_tl, tl_bt, bitsL_len]
  show 3 + 1 + (1 + 1 + ((bt (1 + sc + tl) w).length + 1 + 0)) ≤ 400
  rw [lb]
  omega
def spRef73 (C : Addr) : Sp := fun vs H Q _ => ∃ (x : Addr) (sc tl tl' c w : Nat), vs = [.ref x, .str (Txt.join " " (putW sc tl c w))] ∧ FAt C H x sc tl' ∧ tl' ≠ tl ∧ tl ≤ 24 ∧ c ≤ 7 ∧ w < 2 ^ (1 + sc + tl) ∧ ∀ H', Same H H' → Q (.bl true) H'
theorem ok__law_refused (B : Bl mg) (L : LL K mg C za zl t28 fW DR tr w E_BadText I_BadText E_BadRow I_BadRow) : FnOk P w K mg base CX0 8 (za 22) (zl 22) ["_law_form_here", "_law_row"] (spRef73 C) := by
  have G_U : FnOk P w K mg base (L2.CX P w) 7 (za 9) (zl 9) ["form", "text"] (spRow K C E_BadRow za tr) := ok_row_in B L
  refine L.F__law_refused.ok sc__law_refused (fun vs H Q E h => ?_) (fun cdv A outer s H vs Q E hr h => ?_)
  · obtain ⟨x, sc, tl, tl', c, w, rfl, _⟩ := h
    rfl
  obtain ⟨x, sc, tl, tl', c, wn, rfl, hF, hne, h24, hc, hw, q⟩ := h
  obtain ⟨dx, hx, g1, g2, g3, g4⟩ := id hF
  refine ⟨_, (pss_cons (ps_set (i := 2) sc__law_refused.nd rfl (.inl rfl) pe_non)
    (pss_cons (ps_try_keep (i := 3) rfl rfl rfl sc__law_refused.nd rfl rfl ⟨rfl, by decide, Or.inl L.g_BadRow⟩ (fun W pn xe tk _ => pss_one (ps_expr (pe_callS G_U hr rfl L.m_row_in L.F_row_in.kp L.b_row_in (E := WE W) (fun σ => passAt tk σ) (pa_cons (pv 0) (pa_cons (pv 1) pa_nil))))) (fun a oe cls d pn hz hf => pss_one (ps_set (i := 2) sc__law_refused.nd rfl (Or.inl rfl) (pv 3))))
    (pss_one (ps_ret (pe_and (pe_cmpR op_notN (pv 2) pe_non (nomark _)) (pe_one (pe_cmpR op_eq (pe_what (pv 2)) (pv 1) (nomark _)))))))), ?_⟩
  try dsimp only [gName]
  try simp only [L2.start, List.map_cons, List.map_nil, List.length_cons, List.length_nil, List.replicate_succ, List.replicate_zero, List.cons_append, List.nil_append, List.set_cons_succ, List.set_cons_zero, Nat.reduceAdd, Nat.reduceSub, Nat.zero_add]
  have hno : ([.int (c : Int), if tl' = tl then .int (wn : Int) else .non] : List V).any isNonV = true := by
    rw [if_neg hne]
    rfl
  refine ⟨_, rfl, _, rfl, x, sc, tl, tl', _, "put", [sgT c, bt (1 + sc + tl) wn], rfl, hF, h24, put_len g2 h24, put_split hc, .inl ⟨[.int (c : Int), if tl' = tl then .int (wn : Int) else .non], 0, by decide, (by show 2 ≤ 10; decide), rfl, by decide, .cons (.cell hc) (.cons (.bits hw) .nil), fun _ d H1 s1 nd => ?_, fun h => absurd (hno.symm.trans h) (by decide)⟩⟩
  refine ⟨L.x_BadRow, fun a' na => ?_⟩
  refine ⟨_, rfl, ?_⟩
  have nad : a' ≠ d := fun z => by
    rw [z, upd_same] at na
    cases na
  have ek : EkAt (upd (upd H1 d (.xd [(("what" : Str), .str (Txt.join " " (putW sc tl c wn)))])) a' (Exk a' (.ref E_BadRow) (some d))) a' E_BadRow (.str (Txt.join " " (putW sc tl c wn))) := ⟨d, upd_same, by rw [upd_ne nad.symm, upd_same]⟩
  have s3 : Same H1 (upd (upd H1 d (.xd [(("what" : Str), .str (Txt.join " " (putW sc tl c wn)))])) a' (Exk a' (.ref E_BadRow) (some d))) := (same_upd nd).trans (same_upd na)
  dsimp only [gName]
  generalize upd (upd H1 d (HO.xd [(("what" : Str), V.str (Txt.join " " (putW sc tl c wn)))])) a' (Exk a' (.ref E_BadRow) (some d)) = H3 at *
  try simp only [L2.start, List.map_cons, List.map_nil, List.length_cons, List.length_nil, List.replicate_succ, List.replicate_zero, List.cons_append, List.nil_append, List.set_cons_succ, List.set_cons_zero, Nat.reduceAdd, Nat.reduceSub, Nat.zero_add]
  refine ⟨_, rfl, rfl, _, rfl, iteT ?_⟩
  refine ⟨_, rfl, a', E_BadRow, _, rfl, L.R_BadRow.toErrC, ek, ?_⟩
  refine ⟨_, rfl, rfl, ?_⟩
  have e : decide (V.str (Txt.join " " (putW sc tl c wn)) = V.str (Txt.join " " (putW sc tl c wn))) = true := decide_eq_true rfl
  rw [e]
  exact q _ (s1.trans s3)
end
section
variable {P : Program} {w : World} {K : PySem.W.Frag} {mg : Str → Option Value} {base : Heap}
variable {C : Addr} {za : Nat → Addr} {zl : Nat → FuncData} {t28 : Tok} {fW : Addr} {DR : Addr} {tr : Nat → Addr} {E_BadText I_BadText E_BadRow I_BadRow : Addr}
/-! ### all rows right -/
theorem lv_dV (n : Nat) (v : V) : Lv n (dV v) := by
  cases v <;> cases n <;> trivial
theorem lv_strs (n : Nat) (hs : List Str) (h : hs.length ≤ 1000) : Lv (n + 1) (.tuple (hs.map PyData.str)) := by
  refine ⟨by rw [List.length_map]; omega, fun d hd => ?_⟩
  obtain ⟨x, _, rfl⟩ := List.mem_map.mp hd
  cases n <;> trivial
theorem dp_strs73 {K : PySem.W.Frag} {H : Hp} : ∀ hs : List Str, DpAll K H (hs.map V.str) (hs.map PyData.str)
  | [] => .nil
  | _ :: hs => .cons (.str _) (dp_strs73 hs)
def spRight73 : Sp := fun vs H Q _ => ∃ (b : Addr) (c : Int), vs = [.ref b] ∧ BoxAt c H b ∧ c ≤ 100 ∧ ∀ H', Keep b H H' → Q (.bl true) H'
theorem ok__law_right (B : Bl mg) (L : LL K mg C za zl t28 fW DR tr w E_BadText I_BadText E_BadRow I_BadRow) : FnOk P w K mg base CX0 9 (za 23) (zl 23) ["_law_box_here"] spRight73 := by
  have G_U : FnOk P w K mg base (L2.CX P w) 8 (za 9) (zl 9) ["form", "text"] (spRow K C E_BadRow za tr) := (ok_row_in B L).mono (by decide)
  have G__law_form : FnOk P w K mg base CX0 8 (za 17) (zl 17) ["_law_box_here"] spForm := (ok__law_form B L).mono (by decide)
  have G__law_case : FnOk P w K mg base CX0 8 (za 21) (zl 21) ["_law_box_here", "_law_scale", "_law_tail"] (spCase K za tr) := (ok__law_case B L).mono (by decide)
  have G__law_same : FnOk P w K mg base CX0 8 (za 16) (zl 16) ["_law_found", "_law_due"] (spSame K 3) := (ok_same L.F__law_same L.b__law_same L.m__law_same B 3).mono (by decide)
  have G__law_refused : FnOk P w K mg base CX0 8 (za 22) (zl 22) ["_law_form_here", "_law_row"] (spRef73 C) := (ok__law_refused B L).mono (by decide)
  have G_Form___init__ : FnOk P w K mg base CX0 7 (za 24) (zl 24) ["self", "scale", "tail"] (spInit C) := (ok_Form___init__ B L).mono (by decide)
  refine L.F__law_right.ok sc__law_right (fun vs H Q E h => ?_) (fun cdv A outer s H vs Q E hr h => ?_)
  · obtain ⟨b, c, rfl, _⟩ := h
    rfl
  obtain ⟨b, c, rfl, hB, hc, q⟩ := h
  refine ⟨_, (pss_cons (ps_asg (pe_call G__law_form hr (by rfl) L.m__law_form L.F__law_form.kp L.b__law_form .nil pass0 (pa_cons (pv 0) pa_nil)) (pg_tup (by rfl) (pgs_cons (pg_name (i := 1) sc__law_right.nd rfl (.inl rfl)) (pgs_cons (pg_name (i := 2) sc__law_right.nd rfl (.inl rfl)) pgs_nil))))
    (pss_cons (ps_par (by rfl) sc__law_right.nd (i := 3) (j := 4) rfl rfl (by decide) rfl rfl (pa_cons (pe_make L.M G_Form___init__ hr (by rfl) L.T.mgC L.b_Form___init__ .nil pass0 (pa_cons (pv 1) (pa_cons (pv 2) pa_nil))) (pa_cons (pe_make L.M G_Form___init__ hr (by rfl) L.T.mgC L.b_Form___init__ .nil pass0 (pa_cons (pv 1) (pa_cons (pe_op op_add (pe_op op_mod (pv 2) pe_int) pe_int) pa_nil))) pa_nil)) (by rfl))
    (pss_cons (ps_for PassesOwn.never rfl (pi_range1 (by rfl) B.range (pa_cons pe_int pa_nil)) (pg_name (i := 5) sc__law_right.nd rfl (.inl rfl)) (pss_cons (ps_asg (pe_call G__law_case hr (by rfl) L.m__law_case L.F__law_case.kp L.b__law_case .nil pass0 (pa_cons (pv 0) (pa_cons (pv 1) (pa_cons (pv 2) pa_nil)))) (pg_tup (by rfl) (pgs_cons (pg_name (i := 6) sc__law_right.nd rfl (.inl rfl)) (pgs_cons (pg_name (i := 7) sc__law_right.nd rfl (.inl rfl)) pgs_nil))))
    (pss_cons (ps_if (pt_not (pt_val (pe_call G__law_same hr (by rfl) L.m__law_same L.F__law_same.kp L.b__law_same .nil pass0 (pa_cons (pe_callS G_U hr rfl L.m_row_in L.F_row_in.kp L.b_row_in (E := WE (fun _ _ _ _ => False)) (fun σ => passAt takes00 σ) (pa_cons (pv 3) (pa_cons (pv 6) pa_nil))) (pa_cons (pv 7) pa_nil))))) (pss_one (ps_ret pe_bl)) pss_nil)
    (pss_one (ps_if (pt_cmpR op_eq (pe_ix ix_tup (pv 7) pe_int (fun _ _ => rfl)) pe_str (nomark _)) (pss_one (ps_if (pt_not (pt_val (pe_call G__law_refused hr (by rfl) L.m__law_refused L.F__law_refused.kp L.b__law_refused .nil pass0 (pa_cons (pv 4) (pa_cons (pv 6) pa_nil))))) (pss_one (ps_ret pe_bl)) pss_nil)) (pss_one (ps_if (pt_not (pt_val (pe_call G__law_same hr (by rfl) L.m__law_same L.F__law_same.kp L.b__law_same .nil pass0 (pa_cons (pe_callS G_U hr rfl L.m_row_in L.F_row_in.kp L.b_row_in (E := WE (fun _ _ _ _ => False)) (fun σ => passAt takes00 σ) (pa_cons (pv 4) (pa_cons (pv 6) pa_nil))) (pa_cons (pv 7) pa_nil))))) (pss_one (ps_ret pe_bl)) pss_nil)))))))
    (pss_one (ps_ret pe_bl))))), ?_⟩
  refine ⟨_, rfl, b, _, rfl, hB, by omega, fun p0 sc tl H1 e0 h1 h2 h3 h4 B1 k1 => ?_⟩
  refine ⟨p0, _, rfl, .inl (.inl e0), rfl, _, _, rfl, _, _, rfl, rfl, ?_⟩
  try simp only [L2.start, List.map_cons, List.map_nil, List.length_cons, List.length_nil, List.replicate_succ, List.replicate_zero, List.cons_append, List.nil_append, List.set_cons_succ, List.set_cons_zero, Nat.reduceAdd, Nat.reduceSub, Nat.zero_add]
  refine ⟨_, rfl, _, rfl, fun x dx nx ndx ne => ?_⟩
  refine ⟨x, dx, sc, tl, rfl, upd_same, h1, h2, h3, h4, fun H3 F3 kp => ⟨rfl, ?_⟩⟩
  have s13 : Same H1 H3 := made nx ndx ne kp
  have B3 := B1.same s13
  have bx : x ≠ b := (B1.ne nx).symm
  refine ⟨_, rfl, _, rfl, _, _, rfl, rfl, (by show (0 : Int) < 24; decide), _, _, rfl, rfl, fun x2 dx2 nx2 ndx2 ne2 => ?_⟩
  refine ⟨x2, dx2, sc, tl % 24 + 1, congrArg (fun z => [V.ref x2, V.int (sc : Int), V.int z]) (by show (tl : Int) % 24 + 1 = ((tl % 24 + 1 : Nat) : Int); omega), upd_same, h1, h2, by omega, by omega, fun H5 F5 kp5 => ⟨rfl, ?_⟩⟩
  have s35 : Same H3 H5 := made nx2 ndx2 ne2 kp5
  have B5 := B3.same s35
  have bx2 : x2 ≠ b := (B3.ne nx2).symm
  have F3' := F3.same s35
  refine ⟨_, _, rfl, ?_⟩
  try simp only [L2.start, List.map_cons, List.map_nil, List.length_cons, List.length_nil, List.replicate_succ, List.replicate_zero, List.cons_append, List.nil_append, List.set_cons_succ, List.set_cons_zero, Nat.reduceAdd, Nat.reduceSub, Nat.zero_add]
  have kH5 : Keep b H H5 := k1.trans (Keep.ofSame (s13.trans s35))
  refine ⟨_, rfl, by decide, by decide, ?_⟩
  refine for_range (n := 12) (fun i σ H9 => ∃ (y5 y6 y7 : Option V), σ = [some (.ref b), some (.int (sc : Int)), some (.int (tl : Int)), some (.ref x), some (.ref x2), y5, y6, y7] ∧ Keep b H5 H9 ∧ BoxAt (c + 5 + 50 * i) H9 b) ⟨none, none, none, rfl, Keep.refl _ _, B5.mono (by omega)⟩ ?_ ?_
  · rintro i σ H9 hi ⟨y5, y6, y7, rfl, k9, B9⟩
    dsimp only [gName]
    try simp only [L2.start, List.map_cons, List.map_nil, List.length_cons, List.length_nil, List.replicate_succ, List.replicate_zero, List.cons_append, List.nil_append, List.set_cons_succ, List.set_cons_zero, Nat.reduceAdd, Nat.reduceSub, Nat.zero_add]
    refine ⟨_, rfl, _, rfl, _, rfl, b, sc, tl, _, rfl, h1, h2, h3, h4, B9, by omega, fun p t z H10 ok ep bp B10 k10 => ?_⟩
    refine ⟨p, _, rfl, .inl (.inl ep), rfl, _, _, rfl, _, _, rfl, rfl, ?_⟩
    try simp only [L2.start, List.map_cons, List.map_nil, List.length_cons, List.length_nil, List.replicate_succ, List.replicate_zero, List.cons_append, List.nil_append, List.set_cons_succ, List.set_cons_zero, Nat.reduceAdd, Nat.reduceSub, Nat.zero_add]
    have k10' := k9.trans k10
    have F10 := F3'.keep k10' bx
    have G10 := F5.keep k10' bx2
    cases ok with
    | @put _ cc wn hcc hww e =>
      have hno : ([.int (cc : Int), if tl = tl then .int (wn : Int) else .non] : List V).any isNonV = false := by
        rw [if_pos rfl]
        rfl
      have et := off_same b H10 _ _ e
      refine ⟨_, rfl, _, rfl, x, sc, tl, tl, _, "put", [sgT cc, bt (1 + sc + tl) wn], rfl, F10, h4, put_len h2 h4, put_split hcc, .inl ⟨[.int (cc : Int), if tl = tl then .int (wn : Int) else .non], 0, by decide, (by show 2 ≤ 10; decide), rfl, by decide, .cons (.cell hcc) (.cons (.bits hww) .nil), fun h => absurd (hno.symm.trans h) (by decide), fun _ t' H11 s11 e11 => ?_⟩⟩
      rw [if_pos rfl] at e11
      refine ⟨_, rfl, _, _, .tuple [.str "put", .int (cc : Int), .int (wn : Int)], 2, rfl, rfl, ⟨(by show 3 ≤ 1000000; decide), ?_⟩, .tup (SqT.of e11) (.cons (.str _) (.cons (.int _) (.cons (.int _) .nil))), .tup (SqT.of (s11 _ _ et)) (.cons (.str _) (.cons (.int _) (.cons (.int _) .nil))), fun H12 s12 => ?_⟩
      · intro d hd
        simp only [List.mem_cons, List.not_mem_nil, or_false] at hd
        rcases hd with rfl | rfl | rfl <;> trivial
      refine ⟨_, rfl, iteF ?_⟩
      try simp only [L2.start, List.map_cons, List.map_nil, List.length_cons, List.length_nil, List.replicate_succ, List.replicate_zero, List.cons_append, List.nil_append, List.set_cons_succ, List.set_cons_zero, Nat.reduceAdd, Nat.reduceSub, Nat.zero_add]
      have s012 := s11.trans s12
      refine ⟨_, rfl, t, _, _, _, rfl, rfl, SqT.of (s012 _ _ et), atI_nat (j := 0) rfl, rfl, _, rfl, iteT' (decide_eq_true rfl) ?_⟩
      refine ⟨_, rfl, _, rfl, x2, sc, tl, tl % 24 + 1, cc, wn, rfl, G10.same s012, by omega, h4, hcc, hww, fun H13 s13 => ?_⟩
      refine ⟨_, rfl, iteF ?_⟩
      exact ⟨_, _, _, rfl, k10'.trans (Keep.ofSame (s012.trans s13)), (B10.same (s012.trans s13)).mono (by omega)⟩
    | @oth _ name ws us ii n1 n2 hl hk h13 hR hn no len e =>
      have hsp := sp_join (parts := name :: ws) (by simp) no
      have hzl := Nat.le_trans (join_len (name :: ws)) len
      have et := off_same b H10 _ _ e
      refine ⟨_, rfl, _, rfl, x, sc, tl, tl, _, name, ws, rfl, F10, h4, hzl, hsp, .inl ⟨us, ii, n1, hl, hk, h13, hR _, fun h => absurd (hn.symm.trans h) (by decide), fun _ t' H11 s11 e11 => ?_⟩⟩
      refine ⟨_, rfl, _, _, .tuple (.str name :: us.map dV), 2, rfl, rfl, ⟨?_, ?_⟩, .tup (SqT.of e11) (.cons (.str _) (rd_data (hR tl)).1), .tup (SqT.of (s11 _ _ et)) (.cons (.str _) (rd_data (hR tl)).1), fun H12 s12 => ?_⟩
      · have := (hR tl).len.2
        rw [List.length_cons, List.length_map]
        omega
      · intro d hd
        rcases List.mem_cons.mp hd with rfl | hd
        · trivial
        · obtain ⟨v, _, rfl⟩ := List.mem_map.mp hd
          exact lv_dV _ _
      refine ⟨_, rfl, iteF ?_⟩
      try simp only [L2.start, List.map_cons, List.map_nil, List.length_cons, List.length_nil, List.replicate_succ, List.replicate_zero, List.cons_append, List.nil_append, List.set_cons_succ, List.set_cons_zero, Nat.reduceAdd, Nat.reduceSub, Nat.zero_add]
      have s012 := s11.trans s12
      refine ⟨_, rfl, t, _, _, _, rfl, rfl, SqT.of (s012 _ _ et), atI_nat (j := 0) rfl, rfl, _, rfl, iteN81 (decide_eq_false (fun z => n2 (V.str.inj z))) ?_⟩
      try simp only [L2.start, List.map_cons, List.map_nil, List.length_cons, List.length_nil, List.replicate_succ, List.replicate_zero, List.cons_append, List.nil_append, List.set_cons_succ, List.set_cons_zero, Nat.reduceAdd, Nat.reduceSub, Nat.zero_add]
      have et := s012 _ _ et
      refine ⟨_, rfl, _, rfl, x2, sc, tl, (tl % 24 + 1), _, name, ws, rfl, (G10.same s012), h4, hzl, hsp, .inl ⟨us, ii, n1, hl, hk, h13, hR _, fun h => absurd (hn.symm.trans h) (by decide), fun _ t' H21 s21 e11 => ?_⟩⟩
      refine ⟨_, rfl, _, _, .tuple (.str name :: us.map dV), 2, rfl, rfl, ⟨?_, ?_⟩, .tup (SqT.of e11) (.cons (.str _) (rd_data (hR tl)).1), .tup (SqT.of (s21 _ _ et)) (.cons (.str _) (rd_data (hR tl)).1), fun H22 s22 => ?_⟩
      · have := (hR tl).len.2
        rw [List.length_cons, List.length_map]
        omega
      · intro d hd
        rcases List.mem_cons.mp hd with rfl | hd
        · trivial
        · obtain ⟨v, _, rfl⟩ := List.mem_map.mp hd
          exact lv_dV _ _
      refine ⟨_, rfl, iteF ?_⟩
      exact ⟨_, _, _, rfl, k10'.trans (Keep.ofSame (s012.trans (s21.trans s22))), (B10.same (s012.trans (s21.trans s22))).mono (by omega)⟩
    | @tick _ u nn hs n1 n9 hnd hm hs4 e eu0 =>
      have hsp : Txt.split (Txt.join " " (("tick" : Str) :: nT nn :: hs)) " " = ("tick" : Str) :: nT nn :: hs := sp_join (by simp) fun p hp => by
        rcases List.mem_cons.mp hp with rfl | hp
        · decide
        rcases List.mem_cons.mp hp with rfl | hp
        · exact nT_no nn
        · exact (stage_len (hm p hp)).2
      have hzl : (Txt.join " " (("tick" : Str) :: nT nn :: hs)).length ≤ 400 := by
        refine Nat.le_trans (join_len _) ?_
        have a := sum_le hs fun x hx => (stage_len (hm x hx)).1
        have c := nT_len n1 n9
        show 4 + 1 + ((nT nn).length + 1 + (hs.map fun p => p.length + 1).sum) ≤ 400
        omega
      have eu := off_same b H10 _ _ eu0
      have et := off_same b H10 _ _ e
      refine ⟨_, rfl, _, rfl, x, sc, tl, tl, _, "tick", nT nn :: hs, rfl, F10, h4, hzl, hsp, .inr ⟨nn, hs, rfl, rfl, n1, n9, hnd, hm, hs4, fun t' u' H11 s11 eu' et' => ?_⟩⟩
      refine ⟨_, rfl, _, _, .tuple [.str "tick", .int (nn : Int), .tuple (hs.map PyData.str)], 2, rfl, rfl, ⟨(by show 3 ≤ 1000000; decide), ?_⟩, .tup (SqT.of et') (.cons (.str _) (.cons (.int _) (.cons (.tup (SqT.of eu') (dp_strs73 hs)) .nil))), .tup (SqT.of (s11 _ _ et)) (.cons (.str _) (.cons (.int _) (.cons (.tup (SqT.of (s11 _ _ eu)) (dp_strs73 hs)) .nil))), fun H12 s12 => ?_⟩
      · intro d hd
        simp only [List.mem_cons, List.not_mem_nil, or_false] at hd
        rcases hd with rfl | rfl | rfl
        · trivial
        · trivial
        · exact lv_strs _ _ (by omega)
      refine ⟨_, rfl, iteF ?_⟩
      try simp only [L2.start, List.map_cons, List.map_nil, List.length_cons, List.length_nil, List.replicate_succ, List.replicate_zero, List.cons_append, List.nil_append, List.set_cons_succ, List.set_cons_zero, Nat.reduceAdd, Nat.reduceSub, Nat.zero_add]
      have s012 := s11.trans s12
      refine ⟨_, rfl, t, _, _, _, rfl, rfl, SqT.of (s012 _ _ et), atI_nat (j := 0) rfl, rfl, _, rfl, iteN81 (decide_eq_false (fun z => absurd (V.str.inj z) (by decide))) ?_⟩
      try simp only [L2.start, List.map_cons, List.map_nil, List.length_cons, List.length_nil, List.replicate_succ, List.replicate_zero, List.cons_append, List.nil_append, List.set_cons_succ, List.set_cons_zero, Nat.reduceAdd, Nat.reduceSub, Nat.zero_add]
      have et := s012 _ _ et
      have eu := s012 _ _ eu
      refine ⟨_, rfl, _, rfl, x2, sc, tl, (tl % 24 + 1), _, "tick", nT nn :: hs, rfl, (G10.same s012), h4, hzl, hsp, .inr ⟨nn, hs, rfl, rfl, n1, n9, hnd, hm, hs4, fun t' u' H21 s21 eu' et' => ?_⟩⟩
      refine ⟨_, rfl, _, _, .tuple [.str "tick", .int (nn : Int), .tuple (hs.map PyData.str)], 2, rfl, rfl, ⟨(by show 3 ≤ 1000000; decide), ?_⟩, .tup (SqT.of et') (.cons (.str _) (.cons (.int _) (.cons (.tup (SqT.of eu') (dp_strs73 hs)) .nil))), .tup (SqT.of (s21 _ _ et)) (.cons (.str _) (.cons (.int _) (.cons (.tup (SqT.of (s21 _ _ eu)) (dp_strs73 hs)) .nil))), fun H22 s22 => ?_⟩
      · intro d hd
        simp only [List.mem_cons, List.not_mem_nil, or_false] at hd
        rcases hd with rfl | rfl | rfl
        · trivial
        · trivial
        · exact lv_strs _ _ (by omega)
      refine ⟨_, rfl, iteF ?_⟩
      exact ⟨_, _, _, rfl, k10'.trans (Keep.ofSame (s012.trans (s21.trans s22))), (B10.same (s012.trans (s21.trans s22))).mono (by omega)⟩
  · rintro σ H9 ⟨y5, y6, y7, rfl, k9, B9⟩
    exact q H9 (kH5.trans k9)
end
section
variable {P : Program} {w : World} {K : PySem.W.Frag} {mg : Str → Option Value} {base : Heap}
variable {C : Addr} {za : Nat → Addr} {zl : Nat → FuncData} {t28 : Tok} {fW : Addr} {DR : Addr} {tr : Nat → Addr} {E_BadText I_BadText E_BadRow I_BadRow : Addr}
def spLaw (K : PySem.W.Frag) : Sp := fun vs H Q _ => ∃ (a : Addr) (ns : List Int), vs = [.ref a] ∧ SqL K H a (ns.map V.int) ∧ ns.length ≤ 63 ∧ ∀ H', Q (.bl true) H'
theorem ok_law {f : Addr} {fd : FuncData} (F : Fun K "law" "law" s_law f fd) (B : Bl mg) (L : LL K mg C za zl t28 fW DR tr w E_BadText I_BadText E_BadRow I_BadRow) : FnOk P w K mg base CX0 10 f fd ["_law_script"] (spLaw K) := by
  have G__law_folded : FnOk P w K mg base CX0 9 (za 15) (zl 15) ["_law_script", "_law_size"] (spFolded K) := ok_folded L.F__law_folded B
  have G__law_box : FnOk P w K mg base CX0 9 (za 13) (zl 13) ["_law_script", "_law_k"] (spBox K) := ok_box L.F__law_box B
  have G__law_right : FnOk P w K mg base CX0 9 (za 23) (zl 23) ["_law_box_here"] spRight73 := (ok__law_right B L).mono (by decide)
  refine F.ok sc_law (fun vs H Q E h => ?_) (fun cdv A outer s H vs Q E hr h => ?_)
  · obtain ⟨a, ns, rfl, _⟩ := h
    rfl
  obtain ⟨a, ns, rfl, hS, h63, q⟩ := h
  refine ⟨_, (pss_cons (ps_set (i := 1) sc_law.nd rfl (.inr rfl) (pe_call G__law_folded hr (by rfl) L.m__law_folded L.F__law_folded.kp L.b__law_folded .nil pass0 (pa_cons (pv 0) (pa_cons pe_int pa_nil))))
    (pss_one (ps_ret (pe_callB (cr_all rfl) (by rfl) B.all boot_all (pa_cons (pe_lc (own := [("_law_k", 2)]) (by rfl) sc_law.nd (pi_range1 (by rfl) B.range (pa_cons (pe_callB (call_max2 rfl) (by rfl) B.max boot_max (pa_cons pe_int (pa_cons (pe_callB call_len_seq (by rfl) B.len PySem.boot_len (pa_cons (pv 1) pa_nil)) pa_nil))) pa_nil)) (blkOk_by (own := [("_law_k", 2)]) (N := ["_law_script", "_law_cells", "_law_k"]) (sc := defScope s_law) (by decide +kernel)) (fun _ _ _ _ _ => pg_name (i := 2) sc_law.nd rfl (Or.inl rfl)) (fun _ _ _ _ _ => pts_nil) (fun _ _ _ _ _ => (pe_call G__law_right hr (by rfl) L.m__law_right L.F__law_right.kp L.b__law_right .nil pass0 (pa_cons (pe_call G__law_box hr (by rfl) L.m__law_box L.F__law_box.kp L.b__law_box .nil pass0 (pa_cons (pv 1) (pa_cons (pv 2) pa_nil))) pa_nil)))) pa_nil))))), ?_⟩
  refine ⟨_, rfl, a, ns, 6, rfl, hS, h63, by decide, by decide, fun p H1 zs np s1 ep lz => ?_⟩
  have lz2 : zs.length ≤ 6 := by omega
  refine ⟨_, rfl, p, _, rfl, .inl (SqL.of ep), _, _, rfl, ?_⟩
  obtain ⟨n, en, hn⟩ : ∃ n : Nat, (if (((zs.map V.int).length : Nat) : Int) > 1 then (((zs.map V.int).length : Nat) : Int) else 1) = (n : Int) ∧ n ≤ 6 := by
    rw [List.length_map]
    split
    · exact ⟨zs.length, rfl, lz2⟩
    · exact ⟨1, rfl, by decide⟩
  rw [en]
  refine ⟨_, rfl, by omega, by omega, fun D nD => ?_⟩
  rw [Int.toNat_natCast]
  refine lc_range (n := n) (fun j H7 => Same H1 H7 ∧ H7 D = some (.lst (List.replicate j (.bl true)))) ⟨same_upd nD, upd_same⟩ ?_ ?_
  · rintro j H7 hj ⟨s7, eD⟩
    refine ⟨rfl, yesT ?_⟩
    refine ⟨_, rfl, _, rfl, p, zs, _, rfl, SqL.of (s7 _ _ ep), by omega, by omega, fun b H8 nb s8 B8 => ?_⟩
    refine ⟨b, _, rfl, B8, by omega, fun H9 k9 => ?_⟩
    have nDb : D ≠ b := ne_of_none eD nb
    refine ⟨_, k9 _ _ (s8 _ _ eD) nDb, ?_, fun x u e => ?_, ?_⟩
    · rw [List.length_replicate]
      exact small1000 (by omega)
    · rw [upd_ne (ne_of_none e nD)]
      exact k9 _ _ (s8 _ _ (s7 _ _ e)) (ne_of_none (s7 _ _ e) nb)
    · rw [upd_same, repl_snoc]
  · rintro H7 ⟨s7, eD⟩
    refine ⟨D, List.replicate n true, rfl, .inl (.inl (by rw [List.map_replicate]; exact eD)), ?_⟩
    rw [all_repl]
    exact q _
end
theorem all_mk {l : PySem.W.OpenLaw} {w : World} {K : PySem.W.Frag} {h : Heap} {mg : Str → Option Value} {fa f1 f2 f3 f4 f5 f6 f7 f8 f9 f10 f11 f12 f13 f14 f15 f16 f17 f18 f19 f20 f21 f22 f23 f24 f25 f26 f27 f28 f29 C : Addr} (X : K.In h) (G : h.Ns mainGlobals mg) (hfa : mg "law" = some (.ref fa))
    {od1 an1 od2 an2 od3 an3 od4 an4 od5 an5 od6 an6 od7 an7 od8 an8 od9 an9 od10 an10 od11 an11 od12 an12 od13 an13 od14 an14 od15 an15 od16 an16 od17 an17 od18 an18 od19 an19 od20 an20 od21 an21 od22 an22 od23 an23 od24 an24 od25 an25 od26 an26 od27 an27 od28 an28 od29 an29 : Option Addr} {sl1 sl2 sl3 sl4 sl5 sl6 sl7 sl8 sl9 sl10 sl11 sl12 sl13 sl14 sl15 sl16 sl17 sl18 sl19 sl20 sl21 sl22 sl23 sl24 sl25 sl26 sl27 sl28 sl29 : Array (Option Value)} {oc1 kV1 dc1 pm1 cd1 ct1 oc2 kV2 dc2 pm2 cd2 ct2 oc3 kV3 dc3 pm3 cd3 ct3 oc4 kV4 dc4 pm4 cd4 ct4 oc5 kV5 dc5 pm5 cd5 ct5 oc6 kV6 dc6 pm6 cd6 ct6 oc7 kV7 dc7 pm7 cd7 ct7 oc8 kV8 dc8 pm8 cd8 ct8 oc9 kV9 dc9 pm9 cd9 ct9 oc10 kV10 dc10 pm10 cd10 ct10 oc11 kV11 dc11 pm11 cd11 ct11 oc12 kV12 dc12 pm12 cd12 ct12 oc13 kV13 dc13 pm13 cd13 ct13 oc14 kV14 dc14 pm14 cd14 ct14 oc15 kV15 dc15 pm15 cd15 ct15 oc16 kV16 dc16 pm16 cd16 ct16 oc17 kV17 dc17 pm17 cd17 ct17 oc18 kV18 dc18 pm18 cd18 ct18 oc19 kV19 dc19 pm19 cd19 ct19 oc20 kV20 dc20 pm20 cd20 ct20 oc21 kV21 dc21 pm21 cd21 ct21 oc22 kV22 dc22 pm22 cd22 ct22 oc23 kV23 dc23 pm23 cd23 ct23 oc24 kV24 dc24 pm24 cd24 ct24 oc25 kV25 dc25 pm25 cd25 ct25 oc26 kV26 dc26 pm26 cd26 ct26 oc27 kV27 dc27 pm27 cd27 ct27 oc28 kV28 dc28 pm28 cd28 ct28 oc29 kV29 dc29 pm29 cd29 ct29 oT29 : Value}
    {vT29 : Tok}
    {T29 : Addr} {dT29 : Option Addr} {nT29 : Nat} {sT29 : Array (Option Value)}
     {fF fG DRI q0 q1 q2 q3 q4 q5 q6 q7 q8 q9 q10 q11 q12 : Addr} {odF odG odq0 odq1 odq2 odq3 odq4 odq5 odq6 odq7 odq8 odq9 odq10 odq11 odq12 : Option Addr} {slF slG slq0 slq1 slq2 slq3 slq4 slq5 slq6 slq7 slq8 slq9 slq10 slq11 slq12 : Array (Option Value)} {nF nG nRI nq0 nq1 nq2 nq3 nq4 nq5 nq6 nq7 nq8 nq9 nq10 nq11 nq12 : Nat} {u1 u2 u3 u4 u5 u6 u7 u8 tM j0 j1 j2 j3 j4 j5 j6 j7 j8 j9 j10 j11 j12 : Tok} {h0 h1 h2 h3 h4 h5 h6 h7 h8 h9 h10 h11 h12 : Int} {EBadText IBadText NBadText : Addr} {nmBadText qqBadText : Str} {bsBadText sbBadText : List Value} {snBadText : List Str} {abBadText : Bool} {coBadText : Option Bool} {ddBadText odIBadText anIBadText : Option Addr} {kaBadText kbBadText kcBadText kdBadText keBadText : Option Value} {ocIBadText dcIBadText pmIBadText cdIBadText ctIBadText : Value} {slIBadText : Array (Option Value)} {p1BadText p2BadText q1BadText q2BadText q3BadText q4BadText : Pos} {EBadRow IBadRow NBadRow : Addr} {nmBadRow qqBadRow : Str} {bsBadRow sbBadRow : List Value} {snBadRow : List Str} {abBadRow : Bool} {coBadRow : Option Bool} {ddBadRow odIBadRow anIBadRow : Option Addr} {kaBadRow kbBadRow kcBadRow kdBadRow keBadRow : Option Value} {ocIBadRow dcIBadRow pmIBadRow cdIBadRow ctIBadRow : Value} {slIBadRow : Array (Option Value)} {p1BadRow p2BadRow q1BadRow q2BadRow q3BadRow q4BadRow : Pos}
    (a1 : PySem.W.nsIn K mainGlobals "is_number" = some (some (.ref f1))) (l1 : K.lookup f1 = some ⟨oc1, od1, .func (PySem.W.fnOf "is_number" "is_number" (defArgs s_is_number) (defBody s_is_number) (defScope s_is_number) .none kV1 dc1 pm1 an1 cd1 ct1), sl1⟩) (c1 : PySem.W.codeIn K cd1 "is_number" = true) (k1 : PySem.W.keepIn K (.ref f1) = true)
    (a2 : PySem.W.nsIn K mainGlobals "is_number_in" = some (some (.ref f2))) (l2 : K.lookup f2 = some ⟨oc2, od2, .func (PySem.W.fnOf "is_number_in" "is_number_in" (defArgs s_is_number_in) (defBody s_is_number_in) (defScope s_is_number_in) .none kV2 dc2 pm2 an2 cd2 ct2), sl2⟩) (c2 : PySem.W.codeIn K cd2 "is_number_in" = true) (k2 : PySem.W.keepIn K (.ref f2) = true)
    (a3 : PySem.W.nsIn K mainGlobals "is_text_of" = some (some (.ref f3))) (l3 : K.lookup f3 = some ⟨oc3, od3, .func (PySem.W.fnOf "is_text_of" "is_text_of" (defArgs s_is_text_of) (defBody s_is_text_of) (defScope s_is_text_of) .none kV3 dc3 pm3 an3 cd3 ct3), sl3⟩) (c3 : PySem.W.codeIn K cd3 "is_text_of" = true) (k3 : PySem.W.keepIn K (.ref f3) = true)
    (a4 : PySem.W.nsIn K mainGlobals "word_in" = some (some (.ref f4))) (l4 : K.lookup f4 = some ⟨oc4, od4, .func (PySem.W.fnOf "word_in" "word_in" (defArgs s_word_in) (defBody s_word_in) (defScope s_word_in) .none kV4 dc4 pm4 an4 cd4 ct4), sl4⟩) (c4 : PySem.W.codeIn K cd4 "word_in" = true) (k4 : PySem.W.keepIn K (.ref f4) = true)
    (a5 : PySem.W.nsIn K mainGlobals "cell_in" = some (some (.ref f5))) (l5 : K.lookup f5 = some ⟨oc5, od5, .func (PySem.W.fnOf "cell_in" "cell_in" (defArgs s_cell_in) (defBody s_cell_in) (defScope s_cell_in) .none kV5 dc5 pm5 an5 cd5 ct5), sl5⟩) (c5 : PySem.W.codeIn K cd5 "cell_in" = true) (k5 : PySem.W.keepIn K (.ref f5) = true)
    (a6 : PySem.W.nsIn K mainGlobals "bits_in" = some (some (.ref f6))) (l6 : K.lookup f6 = some ⟨oc6, od6, .func (PySem.W.fnOf "bits_in" "bits_in" (defArgs s_bits_in) (defBody s_bits_in) (defScope s_bits_in) .none kV6 dc6 pm6 an6 cd6 ct6), sl6⟩) (c6 : PySem.W.codeIn K cd6 "bits_in" = true) (k6 : PySem.W.keepIn K (.ref f6) = true)
    (a7 : PySem.W.nsIn K mainGlobals "way_in" = some (some (.ref f7))) (l7 : K.lookup f7 = some ⟨oc7, od7, .func (PySem.W.fnOf "way_in" "way_in" (defArgs s_way_in) (defBody s_way_in) (defScope s_way_in) .none kV7 dc7 pm7 an7 cd7 ct7), sl7⟩) (c7 : PySem.W.codeIn K cd7 "way_in" = true) (k7 : PySem.W.keepIn K (.ref f7) = true)
    (a8 : PySem.W.nsIn K mainGlobals "number_in" = some (some (.ref f8))) (l8 : K.lookup f8 = some ⟨oc8, od8, .func (PySem.W.fnOf "number_in" "number_in" (defArgs s_number_in) (defBody s_number_in) (defScope s_number_in) .none kV8 dc8 pm8 an8 cd8 ct8), sl8⟩) (c8 : PySem.W.codeIn K cd8 "number_in" = true) (k8 : PySem.W.keepIn K (.ref f8) = true)
    (a9 : PySem.W.nsIn K mainGlobals "row_in" = some (some (.ref f9))) (l9 : K.lookup f9 = some ⟨oc9, od9, .func (PySem.W.fnOf "row_in" "row_in" (defArgs s_row_in) (defBody s_row_in) (defScope s_row_in) .none kV9 dc9 pm9 an9 cd9 ct9), sl9⟩) (c9 : PySem.W.codeIn K cd9 "row_in" = true) (k9 : PySem.W.keepIn K (.ref f9) = true)
    (a10 : PySem.W.nsIn K mainGlobals "words_in" = some (some (.ref f10))) (l10 : K.lookup f10 = some ⟨oc10, od10, .func (PySem.W.fnOf "words_in" "words_in" (defArgs s_words_in) (defBody s_words_in) (defScope s_words_in) .none kV10 dc10 pm10 an10 cd10 ct10), sl10⟩) (c10 : PySem.W.codeIn K cd10 "words_in" = true) (k10 : PySem.W.keepIn K (.ref f10) = true)
    (a11 : PySem.W.nsIn K mainGlobals "tick_in" = some (some (.ref f11))) (l11 : K.lookup f11 = some ⟨oc11, od11, .func (PySem.W.fnOf "tick_in" "tick_in" (defArgs s_tick_in) (defBody s_tick_in) (defScope s_tick_in) .none kV11 dc11 pm11 an11 cd11 ct11), sl11⟩) (c11 : PySem.W.codeIn K cd11 "tick_in" = true) (k11 : PySem.W.keepIn K (.ref f11) = true)
    (a12 : PySem.W.nsIn K mainGlobals "stages_in" = some (some (.ref f12))) (l12 : K.lookup f12 = some ⟨oc12, od12, .func (PySem.W.fnOf "stages_in" "stages_in" (defArgs s_stages_in) (defBody s_stages_in) (defScope s_stages_in) .none kV12 dc12 pm12 an12 cd12 ct12), sl12⟩) (c12 : PySem.W.codeIn K cd12 "stages_in" = true) (k12 : PySem.W.keepIn K (.ref f12) = true)
    (a13 : PySem.W.nsIn K mainGlobals "_law_box" = some (some (.ref f13))) (l13 : K.lookup f13 = some ⟨oc13, od13, .func (PySem.W.fnOf "_law_box" "_law_box" (defArgs sBox) (defBody sBox) (defScope sBox) .none kV13 dc13 pm13 an13 cd13 ct13), sl13⟩) (c13 : PySem.W.codeIn K cd13 "_law_box" = true) (k13 : PySem.W.keepIn K (.ref f13) = true)
    (a14 : PySem.W.nsIn K mainGlobals "_law_take" = some (some (.ref f14))) (l14 : K.lookup f14 = some ⟨oc14, od14, .func (PySem.W.fnOf "_law_take" "_law_take" (defArgs sTake) (defBody sTake) (defScope sTake) .none kV14 dc14 pm14 an14 cd14 ct14), sl14⟩) (c14 : PySem.W.codeIn K cd14 "_law_take" = true) (k14 : PySem.W.keepIn K (.ref f14) = true)
    (a15 : PySem.W.nsIn K mainGlobals "_law_folded" = some (some (.ref f15))) (l15 : K.lookup f15 = some ⟨oc15, od15, .func (PySem.W.fnOf "_law_folded" "_law_folded" (defArgs sFolded) (defBody sFolded) (defScope sFolded) .none kV15 dc15 pm15 an15 cd15 ct15), sl15⟩) (c15 : PySem.W.codeIn K cd15 "_law_folded" = true) (k15 : PySem.W.keepIn K (.ref f15) = true)
    (a16 : PySem.W.nsIn K mainGlobals "_law_same" = some (some (.ref f16))) (l16 : K.lookup f16 = some ⟨oc16, od16, .func (PySem.W.fnOf "_law_same" "_law_same" (defArgs sSame) (defBody sSame) (defScope sSame) .none kV16 dc16 pm16 an16 cd16 ct16), sl16⟩) (c16 : PySem.W.codeIn K cd16 "_law_same" = true) (k16 : PySem.W.keepIn K (.ref f16) = true)
    (a17 : PySem.W.nsIn K mainGlobals "_law_form" = some (some (.ref f17))) (l17 : K.lookup f17 = some ⟨oc17, od17, .func (PySem.W.fnOf "_law_form" "_law_form" (defArgs s__law_form) (defBody s__law_form) (defScope s__law_form) .none kV17 dc17 pm17 an17 cd17 ct17), sl17⟩) (c17 : PySem.W.codeIn K cd17 "_law_form" = true) (k17 : PySem.W.keepIn K (.ref f17) = true)
    (a18 : PySem.W.nsIn K mainGlobals "_law_word" = some (some (.ref f18))) (l18 : K.lookup f18 = some ⟨oc18, od18, .func (PySem.W.fnOf "_law_word" "_law_word" (defArgs s__law_word) (defBody s__law_word) (defScope s__law_word) .none kV18 dc18 pm18 an18 cd18 ct18), sl18⟩) (c18 : PySem.W.codeIn K cd18 "_law_word" = true) (k18 : PySem.W.keepIn K (.ref f18) = true)
    (a19 : PySem.W.nsIn K mainGlobals "_law_bits" = some (some (.ref f19))) (l19 : K.lookup f19 = some ⟨oc19, od19, .func (PySem.W.fnOf "_law_bits" "_law_bits" (defArgs s__law_bits) (defBody s__law_bits) (defScope s__law_bits) .none kV19 dc19 pm19 an19 cd19 ct19), sl19⟩) (c19 : PySem.W.codeIn K cd19 "_law_bits" = true) (k19 : PySem.W.keepIn K (.ref f19) = true)
    (a20 : PySem.W.nsIn K mainGlobals "_law_held" = some (some (.ref f20))) (l20 : K.lookup f20 = some ⟨oc20, od20, .func (PySem.W.fnOf "_law_held" "_law_held" (defArgs s__law_held) (defBody s__law_held) (defScope s__law_held) .none kV20 dc20 pm20 an20 cd20 ct20), sl20⟩) (c20 : PySem.W.codeIn K cd20 "_law_held" = true) (k20 : PySem.W.keepIn K (.ref f20) = true)
    (a21 : PySem.W.nsIn K mainGlobals "_law_case" = some (some (.ref f21))) (l21 : K.lookup f21 = some ⟨oc21, od21, .func (PySem.W.fnOf "_law_case" "_law_case" (defArgs s__law_case) (defBody s__law_case) (defScope s__law_case) .none kV21 dc21 pm21 an21 cd21 ct21), sl21⟩) (c21 : PySem.W.codeIn K cd21 "_law_case" = true) (k21 : PySem.W.keepIn K (.ref f21) = true)
    (a22 : PySem.W.nsIn K mainGlobals "_law_refused" = some (some (.ref f22))) (l22 : K.lookup f22 = some ⟨oc22, od22, .func (PySem.W.fnOf "_law_refused" "_law_refused" (defArgs s__law_refused) (defBody s__law_refused) (defScope s__law_refused) .none kV22 dc22 pm22 an22 cd22 ct22), sl22⟩) (c22 : PySem.W.codeIn K cd22 "_law_refused" = true) (k22 : PySem.W.keepIn K (.ref f22) = true)
    (a23 : PySem.W.nsIn K mainGlobals "_law_right" = some (some (.ref f23))) (l23 : K.lookup f23 = some ⟨oc23, od23, .func (PySem.W.fnOf "_law_right" "_law_right" (defArgs s__law_right) (defBody s__law_right) (defScope s__law_right) .none kV23 dc23 pm23 an23 cd23 ct23), sl23⟩) (c23 : PySem.W.codeIn K cd23 "_law_right" = true) (k23 : PySem.W.keepIn K (.ref f23) = true)
    (a24 : PySem.W.nsIn K mainGlobals "law" = some (some (.ref f24))) (l24 : K.lookup f24 = some ⟨oc24, od24, .func (PySem.W.fnOf "law" "law" (defArgs s_law) (defBody s_law) (defScope s_law) .none kV24 dc24 pm24 an24 cd24 ct24), sl24⟩) (c24 : PySem.W.codeIn K cd24 "law" = true) (k24 : PySem.W.keepIn K (.ref f24) = true)
    (aC : PySem.W.nsIn K mainGlobals "Form" = some (some (.ref C)))
    (pgC : PySem.W.plainGet K C Str.empty = true) (hdC : PySem.W.hasDictIn K C = true) (poC : PySem.W.plainOver K C = true) (saC : PySem.W.findIn K (.ref C) "__setattr__" = some (some (.builtin "object.__setattr__"))) (mkC : PySem.W.makesIn K C = true) (kcC : PySem.W.keepIn K (.ref C) = true)
    (naC0 : PySem.W.findIn K (.ref C) "scale" = some none)
    (naC1 : PySem.W.findIn K (.ref C) "tail" = some none)
    (a25 : PySem.W.findIn K (.ref C) "__init__" = some (some (.ref f25))) (i25 : PySem.W.isFn K (.ref f25) = true) (l25 : K.lookup f25 = some ⟨oc25, od25, .func (PySem.W.fnOf "__init__" "Form.__init__" (defArgs s_Form___init__) (defBody s_Form___init__) (defScope s_Form___init__) .none kV25 dc25 pm25 an25 cd25 ct25), sl25⟩) (c25 : PySem.W.codeIn K cd25 "Form.__init__" = true) (k25 : PySem.W.keepIn K (.ref f25) = true)
    (a26 : PySem.W.findIn K (.ref C) "top" = some (some (.ref f26))) (i26 : PySem.W.isFn K (.ref f26) = true) (l26 : K.lookup f26 = some ⟨oc26, od26, .func (PySem.W.fnOf "top" "Form.top" (defArgs s_Form_top) (defBody s_Form_top) (defScope s_Form_top) .none kV26 dc26 pm26 an26 cd26 ct26), sl26⟩) (c26 : PySem.W.codeIn K cd26 "Form.top" = true) (k26 : PySem.W.keepIn K (.ref f26) = true)
    (a27 : PySem.W.findIn K (.ref C) "parts" = some (some (.ref f27))) (i27 : PySem.W.isFn K (.ref f27) = true) (l27 : K.lookup f27 = some ⟨oc27, od27, .func (PySem.W.fnOf "parts" "Form.parts" (defArgs s_Form_parts) (defBody s_Form_parts) (defScope s_Form_parts) .none kV27 dc27 pm27 an27 cd27 ct27), sl27⟩) (c27 : PySem.W.codeIn K cd27 "Form.parts" = true) (k27 : PySem.W.keepIn K (.ref f27) = true)
    (a28 : PySem.W.findIn K (.ref C) "word_of" = some (some (.ref f28))) (i28 : PySem.W.isFn K (.ref f28) = true) (l28 : K.lookup f28 = some ⟨oc28, od28, .func (PySem.W.fnOf "word_of" "Form.word_of" (defArgs s_Form_word_of) (defBody s_Form_word_of) (defScope s_Form_word_of) .none kV28 dc28 pm28 an28 cd28 ct28), sl28⟩) (c28 : PySem.W.codeIn K cd28 "Form.word_of" = true) (k28 : PySem.W.keepIn K (.ref f28) = true)
    (a29 : PySem.W.findIn K (.ref C) "greatest" = some (some (.ref f29))) (i29 : PySem.W.isFn K (.ref f29) = true) (l29 : K.lookup f29 = some ⟨oc29, od29, .func (PySem.W.fnOf "greatest" "Form.greatest" (defArgs s_Form_greatest) (defBody s_Form_greatest) (defScope s_Form_greatest) (.ref T29) kV29 dc29 pm29 an29 cd29 ct29), sl29⟩) (c29 : PySem.W.codeIn K cd29 "Form.greatest" = true) (k29 : PySem.W.keepIn K (.ref f29) = true)
    (t29 : K.lookup T29 = some ⟨oT29, dT29, .seq #[.int 0 vT29] nT29, sT29⟩)
    (z1 : PySem.W.nsIn K mainGlobals "len" = some none)
    (z2 : PySem.W.nsIn K mainGlobals "abs" = some none)
    (z3 : PySem.W.nsIn K mainGlobals "int" = some none)
    (z4 : PySem.W.nsIn K mainGlobals "divmod" = some none)
    (z5 : PySem.W.nsIn K mainGlobals "list" = some none)
    (z6 : PySem.W.nsIn K mainGlobals "enumerate" = some none)
    (z7 : PySem.W.nsIn K mainGlobals "isinstance" = some none)
    (z8 : PySem.W.nsIn K mainGlobals "tuple" = some none)
    (z9 : PySem.W.nsIn K mainGlobals "str" = some none)
    (z10 : PySem.W.nsIn K mainGlobals "bool" = some none)
    (z11 : PySem.W.nsIn K mainGlobals "zip" = some none)
    (z12 : PySem.W.nsIn K mainGlobals "all" = some none)
    (z13 : PySem.W.nsIn K mainGlobals "range" = some none)
    (z14 : PySem.W.nsIn K mainGlobals "max" = some none)
    (z15 : PySem.W.nsIn K mainGlobals "any" = some none)
    (z16 : PySem.W.nsIn K mainGlobals "min" = some none)
    (z17 : PySem.W.nsIn K mainGlobals "sum" = some none)
    (zset : PySem.W.nsIn K mainGlobals "set" = some none)
    (aW : PySem.W.nsIn K mainGlobals "WAYS" = some (some (.ref fF)))
    (lW : K.lookup fF = some ⟨.type "tuple", odF, .seq #[.str "near" u1, .str "cut" u2, .str "up" u3, .str "down" u4] nF, slF⟩)
    (aM : PySem.W.nsIn K mainGlobals "MOST" = some (some (.int 900 tM)))
    (aS : PySem.W.nsIn K mainGlobals "STAGES" = some (some (.ref fG)))
    (lS : K.lookup fG = some ⟨.type "tuple", odG, .seq #[.str "read" u5, .str "first" u6, .str "second" u7, .str "last" u8] nG, slG⟩)
    (aR : PySem.W.nsIn K mainGlobals "READERS" = some (some (.ref DRI)))
    (lR : K.lookup DRI = some ⟨.type "dict", none, .dict #[⟨h0, .str "put" j0, .ref q0⟩, ⟨h1, .str "add" j1, .ref q1⟩, ⟨h2, .str "take" j2, .ref q2⟩, ⟨h3, .str "times" j3, .ref q3⟩, ⟨h4, .str "over" j4, .ref q4⟩, ⟨h5, .str "join" j5, .ref q5⟩, ⟨h6, .str "empty" j6, .ref q6⟩, ⟨h7, .str "cell" j7, .ref q7⟩, ⟨h8, .str "whole" j8, .ref q8⟩, ⟨h9, .str "flags" j9, .ref q9⟩, ⟨h10, .str "inside" j10, .ref q10⟩, ⟨h11, .str "ticks" j11, .ref q11⟩, ⟨h12, .str "again" j12, .ref q12⟩] nRI, #[]⟩)
    (kR : PySem.W.KeysLit w.params [⟨h0, .str "put" j0, .ref q0⟩, ⟨h1, .str "add" j1, .ref q1⟩, ⟨h2, .str "take" j2, .ref q2⟩, ⟨h3, .str "times" j3, .ref q3⟩, ⟨h4, .str "over" j4, .ref q4⟩, ⟨h5, .str "join" j5, .ref q5⟩, ⟨h6, .str "empty" j6, .ref q6⟩, ⟨h7, .str "cell" j7, .ref q7⟩, ⟨h8, .str "whole" j8, .ref q8⟩, ⟨h9, .str "flags" j9, .ref q9⟩, ⟨h10, .str "inside" j10, .ref q10⟩, ⟨h11, .str "ticks" j11, .ref q11⟩, ⟨h12, .str "again" j12, .ref q12⟩])
    (sR : (DRI == sysModules) = false)
    (lq0 : K.lookup q0 = some ⟨.type "tuple", odq0, .seq #[.ref f5, .ref f6] nq0, slq0⟩)
    (lq1 : K.lookup q1 = some ⟨.type "tuple", odq1, .seq #[.ref f5, .ref f5, .ref f5, .ref f7] nq1, slq1⟩)
    (lq2 : K.lookup q2 = some ⟨.type "tuple", odq2, .seq #[.ref f5, .ref f5, .ref f5, .ref f7] nq2, slq2⟩)
    (lq3 : K.lookup q3 = some ⟨.type "tuple", odq3, .seq #[.ref f5, .ref f5, .ref f5, .ref f7] nq3, slq3⟩)
    (lq4 : K.lookup q4 = some ⟨.type "tuple", odq4, .seq #[.ref f5, .ref f5, .ref f5, .ref f7] nq4, slq4⟩)
    (lq5 : K.lookup q5 = some ⟨.type "tuple", odq5, .seq #[.ref f5, .ref f5, .ref f5, .ref f5, .ref f7] nq5, slq5⟩)
    (lq6 : K.lookup q6 = some ⟨.type "tuple", odq6, .seq #[.ref f8] nq6, slq6⟩)
    (lq7 : K.lookup q7 = some ⟨.type "tuple", odq7, .seq #[.ref f5] nq7, slq7⟩)
    (lq8 : K.lookup q8 = some ⟨.type "tuple", odq8, .seq #[.ref f5] nq8, slq8⟩)
    (lq9 : K.lookup q9 = some ⟨.type "tuple", odq9, .seq #[] nq9, slq9⟩)
    (lq10 : K.lookup q10 = some ⟨.type "tuple", odq10, .seq #[] nq10, slq10⟩)
    (lq11 : K.lookup q11 = some ⟨.type "tuple", odq11, .seq #[] nq11, slq11⟩)
    (lq12 : K.lookup q12 = some ⟨.type "tuple", odq12, .seq #[.ref f8] nq12, slq12⟩)
    (aEBadText : PySem.W.nsIn K mainGlobals "BadText" = some (some (.ref EBadText)))
    (cEBadText : K.lookup EBadText = some (excClassObj nmBadText qqBadText EBadText NBadText bsBadText [.type "ValueError", .type "Exception", .type "BaseException", .type "object"] true snBadText sbBadText abBadText coBadText ddBadText kaBadText kbBadText kcBadText kdBadText keBadText "ValueError.__new__"))
    (saEBadText : PySem.W.findIn K (.ref EBadText) "__setattr__" = some (some (.builtin "object.__setattr__")))
    (gaEBadText : PySem.W.findIn K (.ref EBadText) "__getattribute__" = some (some (.builtin "BaseException.__getattribute__")))
    (ggEBadText : PySem.W.findIn K (.ref EBadText) "__getattr__" = some none)
    (nwEBadText : PySem.W.findIn K (.ref EBadText) "what" = some none)
    (inEBadText : PySem.W.findIn K (.ref EBadText) "__init__" = some (some (.ref IBadText)))
    (tiEBadText : PySem.W.typeIn K (.ref IBadText) = some (.type "function"))
    (liEBadText : K.lookup IBadText = some ⟨ocIBadText, odIBadText, .func (PySem.W.fnOf "__init__" "BadText.__init__" (PySem.WhX.whA p1BadText p2BadText) (PySem.WhX.whB q1BadText q2BadText q3BadText q4BadText) PySem.WhX.whS .none .none dcIBadText pmIBadText anIBadText cdIBadText ctIBadText), slIBadText⟩)
    (ciEBadText : PySem.W.codeIn K cdIBadText "BadText.__init__" = true)
    (kcEBadText : PySem.W.keepIn K (.ref EBadText) = true)
    (exEBadText : PySem.W.subIn K (.ref EBadText) (.type "BaseException") = some true)
    (tyEBadText : PySem.W.typeIn K (.ref EBadText) = some (.type "type"))
    (hdEBadText : PySem.W.hasDictIn K EBadText = true)
    (clEBadText : PySem.W.findIn K (.ref EBadText) "__class__" = some (some (.builtin "object.__class__")))
    (spEBadText : PySem.W.specialIn K (.builtin "object.__class__") "__get__" = some (some (.builtin "getset_descriptor.__get__")))
    (tkEBadText : PySem.W.takesIn K (.builtin "object.__class__") = some true)
    (mrEBadText : PySem.W.mroIn K EBadText (.type "object") = some true)
    (suEBadText : PySem.W.subIn K (.ref EBadText) (.ref EBadText) = some true)
    (aEBadRow : PySem.W.nsIn K mainGlobals "BadRow" = some (some (.ref EBadRow)))
    (cEBadRow : K.lookup EBadRow = some (excClassObj nmBadRow qqBadRow EBadRow NBadRow bsBadRow [.type "ValueError", .type "Exception", .type "BaseException", .type "object"] true snBadRow sbBadRow abBadRow coBadRow ddBadRow kaBadRow kbBadRow kcBadRow kdBadRow keBadRow "ValueError.__new__"))
    (saEBadRow : PySem.W.findIn K (.ref EBadRow) "__setattr__" = some (some (.builtin "object.__setattr__")))
    (gaEBadRow : PySem.W.findIn K (.ref EBadRow) "__getattribute__" = some (some (.builtin "BaseException.__getattribute__")))
    (ggEBadRow : PySem.W.findIn K (.ref EBadRow) "__getattr__" = some none)
    (nwEBadRow : PySem.W.findIn K (.ref EBadRow) "what" = some none)
    (inEBadRow : PySem.W.findIn K (.ref EBadRow) "__init__" = some (some (.ref IBadRow)))
    (tiEBadRow : PySem.W.typeIn K (.ref IBadRow) = some (.type "function"))
    (liEBadRow : K.lookup IBadRow = some ⟨ocIBadRow, odIBadRow, .func (PySem.W.fnOf "__init__" "BadRow.__init__" (PySem.WhX.whA p1BadRow p2BadRow) (PySem.WhX.whB q1BadRow q2BadRow q3BadRow q4BadRow) PySem.WhX.whS .none .none dcIBadRow pmIBadRow anIBadRow cdIBadRow ctIBadRow), slIBadRow⟩)
    (ciEBadRow : PySem.W.codeIn K cdIBadRow "BadRow.__init__" = true)
    (kcEBadRow : PySem.W.keepIn K (.ref EBadRow) = true)
    (exEBadRow : PySem.W.subIn K (.ref EBadRow) (.type "BaseException") = some true)
    (tyEBadRow : PySem.W.typeIn K (.ref EBadRow) = some (.type "type"))
    (hdEBadRow : PySem.W.hasDictIn K EBadRow = true)
    (clEBadRow : PySem.W.findIn K (.ref EBadRow) "__class__" = some (some (.builtin "object.__class__")))
    (spEBadRow : PySem.W.specialIn K (.builtin "object.__class__") "__get__" = some (some (.builtin "getset_descriptor.__get__")))
    (tkEBadRow : PySem.W.takesIn K (.builtin "object.__class__") = some true)
    (mrEBadRow : PySem.W.mroIn K EBadRow (.type "object") = some true)
    (suEBadRow : PySem.W.subIn K (.ref EBadRow) (.ref EBadRow) = some true)
    : ∃ fd : FuncData, (∀ (s : Shared) (v : Value), BindsTo s fd ⟨[v], []⟩ [("_law_script", v)]) ∧ ∀ base : Heap, K.In base → base.Ns mainGlobals mg → FnOk l.prog w K mg base CX0 10 fa fd ["_law_script"] (spLaw K) := by
  have e := hfa.symm.trans (PySem.W.mg_of X G a24)
  cases e
  have F1 := fun_mk (st := s_is_number) l1 c1 k1
  have b1 := F1.binds (ps := ["thing"]) fun _ _ _ _ _ _ us hl => match us, hl with | [_], _ => rfl
  have m1 := PySem.W.mg_of X G a1
  have F2 := fun_mk (st := s_is_number_in) l2 c2 k2
  have b2 := F2.binds (ps := ["least", "greatest", "thing"]) fun _ _ _ _ _ _ us hl => match us, hl with | [_, _, _], _ => rfl
  have m2 := PySem.W.mg_of X G a2
  have F3 := fun_mk (st := s_is_text_of) l3 c3 k3
  have b3 := F3.binds (ps := ["signs", "many", "thing"]) fun _ _ _ _ _ _ us hl => match us, hl with | [_, _, _], _ => rfl
  have m3 := PySem.W.mg_of X G a3
  have F4 := fun_mk (st := s_word_in) l4 c4 k4
  have b4 := F4.binds (ps := ["form", "text"]) fun _ _ _ _ _ _ us hl => match us, hl with | [_, _], _ => rfl
  have m4 := PySem.W.mg_of X G a4
  have F5 := fun_mk (st := s_cell_in) l5 c5 k5
  have b5 := F5.binds (ps := ["form", "text"]) fun _ _ _ _ _ _ us hl => match us, hl with | [_, _], _ => rfl
  have m5 := PySem.W.mg_of X G a5
  have F6 := fun_mk (st := s_bits_in) l6 c6 k6
  have b6 := F6.binds (ps := ["form", "text"]) fun _ _ _ _ _ _ us hl => match us, hl with | [_, _], _ => rfl
  have m6 := PySem.W.mg_of X G a6
  have F7 := fun_mk (st := s_way_in) l7 c7 k7
  have b7 := F7.binds (ps := ["form", "text"]) fun _ _ _ _ _ _ us hl => match us, hl with | [_, _], _ => rfl
  have m7 := PySem.W.mg_of X G a7
  have F8 := fun_mk (st := s_number_in) l8 c8 k8
  have b8 := F8.binds (ps := ["form", "text"]) fun _ _ _ _ _ _ us hl => match us, hl with | [_, _], _ => rfl
  have m8 := PySem.W.mg_of X G a8
  have F9 := fun_mk (st := s_row_in) l9 c9 k9
  have b9 := F9.binds (ps := ["form", "text"]) fun _ _ _ _ _ _ us hl => match us, hl with | [_, _], _ => rfl
  have m9 := PySem.W.mg_of X G a9
  have F10 := fun_mk (st := s_words_in) l10 c10 k10
  have b10 := F10.binds (ps := ["form", "name", "words"]) fun _ _ _ _ _ _ us hl => match us, hl with | [_, _, _], _ => rfl
  have m10 := PySem.W.mg_of X G a10
  have F11 := fun_mk (st := s_tick_in) l11 c11 k11
  have b11 := F11.binds (ps := ["form", "words"]) fun _ _ _ _ _ _ us hl => match us, hl with | [_, _], _ => rfl
  have m11 := PySem.W.mg_of X G a11
  have F12 := fun_mk (st := s_stages_in) l12 c12 k12
  have b12 := F12.binds (ps := ["words"]) fun _ _ _ _ _ _ us hl => match us, hl with | [_], _ => rfl
  have m12 := PySem.W.mg_of X G a12
  have F13 := fun_mk (st := sBox) l13 c13 k13
  have b13 := F13.binds (ps := ["_law_script", "_law_k"]) fun _ _ _ _ _ _ us hl => match us, hl with | [_, _], _ => rfl
  have m13 := PySem.W.mg_of X G a13
  have F14 := fun_mk (st := sTake) l14 c14 k14
  have b14 := F14.binds (ps := ["_law_box_here", "_law_size"]) fun _ _ _ _ _ _ us hl => match us, hl with | [_, _], _ => rfl
  have m14 := PySem.W.mg_of X G a14
  have F15 := fun_mk (st := sFolded) l15 c15 k15
  have b15 := F15.binds (ps := ["_law_script", "_law_size"]) fun _ _ _ _ _ _ us hl => match us, hl with | [_, _], _ => rfl
  have m15 := PySem.W.mg_of X G a15
  have F16 := fun_mk (st := sSame) l16 c16 k16
  have b16 := F16.binds (ps := ["_law_found", "_law_due"]) fun _ _ _ _ _ _ us hl => match us, hl with | [_, _], _ => rfl
  have m16 := PySem.W.mg_of X G a16
  have F17 := fun_mk (st := s__law_form) l17 c17 k17
  have b17 := F17.binds (ps := ["_law_box_here"]) fun _ _ _ _ _ _ us hl => match us, hl with | [_], _ => rfl
  have m17 := PySem.W.mg_of X G a17
  have F18 := fun_mk (st := s__law_word) l18 c18 k18
  have b18 := F18.binds (ps := ["_law_box_here", "_law_scale", "_law_tail"]) fun _ _ _ _ _ _ us hl => match us, hl with | [_, _, _], _ => rfl
  have m18 := PySem.W.mg_of X G a18
  have F19 := fun_mk (st := s__law_bits) l19 c19 k19
  have b19 := F19.binds (ps := ["_law_word_here", "_law_many"]) fun _ _ _ _ _ _ us hl => match us, hl with | [_, _], _ => rfl
  have m19 := PySem.W.mg_of X G a19
  have F20 := fun_mk (st := s__law_held) l20 c20 k20
  have b20 := F20.binds (ps := ["_law_box_here"]) fun _ _ _ _ _ _ us hl => match us, hl with | [_], _ => rfl
  have m20 := PySem.W.mg_of X G a20
  have F21 := fun_mk (st := s__law_case) l21 c21 k21
  have b21 := F21.binds (ps := ["_law_box_here", "_law_scale", "_law_tail"]) fun _ _ _ _ _ _ us hl => match us, hl with | [_, _, _], _ => rfl
  have m21 := PySem.W.mg_of X G a21
  have F22 := fun_mk (st := s__law_refused) l22 c22 k22
  have b22 := F22.binds (ps := ["_law_form_here", "_law_row"]) fun _ _ _ _ _ _ us hl => match us, hl with | [_, _], _ => rfl
  have m22 := PySem.W.mg_of X G a22
  have F23 := fun_mk (st := s__law_right) l23 c23 k23
  have b23 := F23.binds (ps := ["_law_box_here"]) fun _ _ _ _ _ _ us hl => match us, hl with | [_], _ => rfl
  have m23 := PySem.W.mg_of X G a23
  have F24 := fun_mk (st := s_law) l24 c24 k24
  have F25 := fun_mk (st := s_Form___init__) l25 c25 k25
  have b25 := F25.binds (ps := ["self", "scale", "tail"]) fun _ _ _ _ _ _ us hl => match us, hl with | [_, _, _], _ => rfl
  have M25 : Meth K C "__init__" f25 := ⟨a25, i25, k25⟩
  have F26 := fun_mk (st := s_Form_top) l26 c26 k26
  have b26 := F26.binds (ps := ["self"]) fun _ _ _ _ _ _ us hl => match us, hl with | [_], _ => rfl
  have M26 : Meth K C "top" f26 := ⟨a26, i26, k26⟩
  have F27 := fun_mk (st := s_Form_parts) l27 c27 k27
  have b27 := F27.binds (ps := ["self", "word"]) fun _ _ _ _ _ _ us hl => match us, hl with | [_, _], _ => rfl
  have M27 : Meth K C "parts" f27 := ⟨a27, i27, k27⟩
  have F28 := fun_mk (st := s_Form_word_of) l28 c28 k28
  have b28 := F28.binds (ps := ["self", "sign", "scale", "tail"]) fun _ _ _ _ _ _ us hl => match us, hl with | [_, _, _, _], _ => rfl
  have M28 : Meth K C "word_of" f28 := ⟨a28, i28, k28⟩
  have F29 := funA_mk (st := s_Form_greatest) l29 c29 k29
  have b29 := bindsA (st := s_Form_greatest) (ps := ["self", "sign"]) l29 t29 fun _ _ _ _ _ _ us hl => match us, hl with | [_, _], _ => ⟨_, rfl, rfl⟩
  have d29 := bindsAD (st := s_Form_greatest) (ps := ["self", "sign"]) l29 t29 fun _ _ _ _ _ _ us hl => match us, hl with | [_], _ => ⟨_, rfl, rfl⟩
  have kb29 := kbindsA (x1 := "sign") (st := s_Form_greatest) (ps := ["self", "sign"]) l29 t29 fun _ _ _ _ _ _ _ _ => ⟨_, rfl, rfl⟩
  have M29 : Meth K C "greatest" f29 := ⟨a29, i29, k29⟩
  have clC : Cls K C := ⟨pgC, hdC, poC, saC⟩
  have mgC := PySem.W.mg_of X G aC
  have B : Bl mg := ⟨PySem.W.mg_none_of X G z1, PySem.W.mg_none_of X G z2, PySem.W.mg_none_of X G z3, PySem.W.mg_none_of X G z4, PySem.W.mg_none_of X G z5, PySem.W.mg_none_of X G z6, PySem.W.mg_none_of X G z7, PySem.W.mg_none_of X G z8, PySem.W.mg_none_of X G z9, PySem.W.mg_none_of X G z10, PySem.W.mg_none_of X G z11, PySem.W.mg_none_of X G z12, PySem.W.mg_none_of X G z13, PySem.W.mg_none_of X G z14, PySem.W.mg_none_of X G z15, PySem.W.mg_none_of X G z16, PySem.W.mg_none_of X G z17⟩
  refine ⟨PySem.W.fnOf "law" "law" (defArgs s_law) (defBody s_law) (defScope s_law) .none kV24 dc24 pm24 an24 cd24 ct24, fun s v => .of_eq rfl, fun base _ _ => ?_⟩
  have L : LL K mg C (pkz f1 [f2, f3, f4, f5, f6, f7, f8, f9, f10, f11, f12, f13, f14, f15, f16, f17, f18, f19, f20, f21, f22, f23, f25, f26, f27, f28, f29]) (pkz _ [_, _, _, _, _, _, _, _, _, _, _, _, _, _, _, _, _, _, _, _, _, _, _, _, _, _, _]) vT29 fF DRI (fun i => pkz q0 [q1, q2, q3, q4, q5, q6, q7, q8, q9, q10, q11, q12] (i + 1)) w EBadText IBadText EBadRow IBadRow := ⟨F1, m1, b1, F2, m2, b2, F3, m3, b3, F4, m4, b4, F5, m5, b5, F6, m6, b6, F7, m7, b7, F8, m8, b8, F9, m9, b9, F10, m10, b10, F11, m11, b11, F12, m12, b12, F13, m13, b13, F14, m14, b14, F15, m15, b15, F16, m16, b16, F17, m17, b17, F18, m18, b18, F19, m19, b19, F20, m20, b20, F21, m21, b21, F22, m22, b22, F23, m23, b23, ⟨clC, naC0, naC1, mgC⟩, ⟨mkC, a25, i25, kcC⟩, F25, b25, F26, b26, M26, F27, b27, M27, F28, b28, M28, F29, b29, M29, d29, PySem.W.mg_none_of X G zset, ⟨PySem.W.mg_of X G aW, fun H => .inr ⟨_, _, _, lW, rfl, rfl, (by show 4 ≤ sizeLine; decide), .cons ⟨_, rfl⟩ (.cons ⟨_, rfl⟩ (.cons ⟨_, rfl⟩ (.cons ⟨_, rfl⟩ (.nil))))⟩⟩, ⟨_, PySem.W.mg_of X G aM⟩, ⟨_, PySem.W.mg_of X G aS, fun H => .inr ⟨_, _, _, lS, rfl, rfl, (by show 4 ≤ sizeLine; decide), .cons ⟨_, rfl⟩ (.cons ⟨_, rfl⟩ (.cons ⟨_, rfl⟩ (.cons ⟨_, rfl⟩ (.nil))))⟩⟩, PySem.W.mg_of X G aR, ⟨⟨_, _, lR, kR, .cons ⟨⟨_, rfl⟩, rfl⟩ (.cons ⟨⟨_, rfl⟩, rfl⟩ (.cons ⟨⟨_, rfl⟩, rfl⟩ (.cons ⟨⟨_, rfl⟩, rfl⟩ (.cons ⟨⟨_, rfl⟩, rfl⟩ (.cons ⟨⟨_, rfl⟩, rfl⟩ (.cons ⟨⟨_, rfl⟩, rfl⟩ (.cons ⟨⟨_, rfl⟩, rfl⟩ (.cons ⟨⟨_, rfl⟩, rfl⟩ (.cons ⟨⟨_, rfl⟩, rfl⟩ (.cons ⟨⟨_, rfl⟩, rfl⟩ (.cons ⟨⟨_, rfl⟩, rfl⟩ (.cons ⟨⟨_, rfl⟩, rfl⟩ (.nil)))))))))))))⟩, sR⟩, (fun H i h => match i, h with | 0, _ => .inr ⟨_, _, _, lq0, rfl, rfl, (by show 2 ≤ sizeLine; decide), .cons rfl (.cons rfl (.nil))⟩ | 1, _ => .inr ⟨_, _, _, lq1, rfl, rfl, (by show 4 ≤ sizeLine; decide), .cons rfl (.cons rfl (.cons rfl (.cons rfl (.nil))))⟩ | 2, _ => .inr ⟨_, _, _, lq2, rfl, rfl, (by show 4 ≤ sizeLine; decide), .cons rfl (.cons rfl (.cons rfl (.cons rfl (.nil))))⟩ | 3, _ => .inr ⟨_, _, _, lq3, rfl, rfl, (by show 4 ≤ sizeLine; decide), .cons rfl (.cons rfl (.cons rfl (.cons rfl (.nil))))⟩ | 4, _ => .inr ⟨_, _, _, lq4, rfl, rfl, (by show 4 ≤ sizeLine; decide), .cons rfl (.cons rfl (.cons rfl (.cons rfl (.nil))))⟩ | 5, _ => .inr ⟨_, _, _, lq5, rfl, rfl, (by show 5 ≤ sizeLine; decide), .cons rfl (.cons rfl (.cons rfl (.cons rfl (.cons rfl (.nil)))))⟩ | 6, _ => .inr ⟨_, _, _, lq6, rfl, rfl, (by show 1 ≤ sizeLine; decide), .cons rfl (.nil)⟩ | 7, _ => .inr ⟨_, _, _, lq7, rfl, rfl, (by show 1 ≤ sizeLine; decide), .cons rfl (.nil)⟩ | 8, _ => .inr ⟨_, _, _, lq8, rfl, rfl, (by show 1 ≤ sizeLine; decide), .cons rfl (.nil)⟩ | 9, _ => .inr ⟨_, _, _, lq9, rfl, rfl, (by show 0 ≤ sizeLine; decide), .nil⟩ | 10, _ => .inr ⟨_, _, _, lq10, rfl, rfl, (by show 0 ≤ sizeLine; decide), .nil⟩ | 11, _ => .inr ⟨_, _, _, lq11, rfl, rfl, (by show 0 ≤ sizeLine; decide), .nil⟩ | 12, _ => .inr ⟨_, _, _, lq12, rfl, rfl, (by show 1 ≤ sizeLine; decide), .cons rfl (.nil)⟩ | _ + 13, h => absurd h (by omega)), PySem.W.mg_of X G aEBadText, ⟨⟨gaEBadText, ggEBadText, nwEBadText, kcEBadText, exEBadText, tyEBadText, hdEBadText, clEBadText, spEBadText, tkEBadText, mrEBadText⟩, ⟨_, _, _, _, _, _, _, _, _, _, _, _, _, _, _, _, _, _, PySem.F.excBase_ValueError, cEBadText, by decide +kernel, PySem.F.store_ValueError.passes⟩, saEBadText, inEBadText, tiEBadText, ⟨_, _, _, _, _, _, _, _, _, _, _, _, _, _, _, liEBadText, ciEBadText⟩⟩, PySem.W.exm_ref exEBadText hdEBadText tyEBadText suEBadText, PySem.W.mg_of X G aEBadRow, ⟨⟨gaEBadRow, ggEBadRow, nwEBadRow, kcEBadRow, exEBadRow, tyEBadRow, hdEBadRow, clEBadRow, spEBadRow, tkEBadRow, mrEBadRow⟩, ⟨_, _, _, _, _, _, _, _, _, _, _, _, _, _, _, _, _, _, PySem.F.excBase_ValueError, cEBadRow, by decide +kernel, PySem.F.store_ValueError.passes⟩, saEBadRow, inEBadRow, tiEBadRow, ⟨_, _, _, _, _, _, _, _, _, _, _, _, _, _, _, liEBadRow, ciEBadRow⟩⟩, PySem.W.exm_ref exEBadRow hdEBadRow tyEBadRow suEBadRow⟩
  exact ok_law F24 B L
end GZ
open PySem PySem.W PyProof.Rows
set_option maxRecDepth 100000 in
set_option maxHeartbeats 0 in
theorem PySem.Challenge.cw_guessedzeros_k73_rows_read_holds : PySem.Challenge.rw_guessedzeros_k73_rows_read.Holds := by
  w_on; o_law; k_headLK; (case hw => w_witness2)
  k_fill
  refine L2.walk_of (l := PySem.Challenge.rw_guessedzeros_k73_rows_read) (n := 63) (k := 10) (x := "_law_script") (CX := fun _ => L2.CX0) (sp := fun w => GZ.spLaw _) rfl (by decide) rfl ⟨rfl, by decide, by decide⟩ (fun w h Y => PySem.W.kIn_of Y) ?F (fun _ _ a ns hl _ hS => ⟨a, ns, rfl, hS, hl, fun _ => rfl⟩) (fun _ _ _ _ _ h => h)
  case F =>
    intro w mg fa h KX G hmg
    refine' GZ.all_mk KX G hmg ?a1 ?l1 ?c1 ?k1 ?a2 ?l2 ?c2 ?k2 ?a3 ?l3 ?c3 ?k3 ?a4 ?l4 ?c4 ?k4 ?a5 ?l5 ?c5 ?k5 ?a6 ?l6 ?c6 ?k6 ?a7 ?l7 ?c7 ?k7 ?a8 ?l8 ?c8 ?k8 ?a9 ?l9 ?c9 ?k9 ?a10 ?l10 ?c10 ?k10 ?a11 ?l11 ?c11 ?k11 ?a12 ?l12 ?c12 ?k12 ?a13 ?l13 ?c13 ?k13 ?a14 ?l14 ?c14 ?k14 ?a15 ?l15 ?c15 ?k15 ?a16 ?l16 ?c16 ?k16 ?a17 ?l17 ?c17 ?k17 ?a18 ?l18 ?c18 ?k18 ?a19 ?l19 ?c19 ?k19 ?a20 ?l20 ?c20 ?k20 ?a21 ?l21 ?c21 ?k21 ?a22 ?l22 ?c22 ?k22 ?a23 ?l23 ?c23 ?k23 ?a24 ?l24 ?c24 ?k24 ?aC ?pgC ?hdC ?poC ?saC ?mkC ?kcC ?naC0 ?naC1 ?a25 ?i25 ?l25 ?c25 ?k25 ?a26 ?i26 ?l26 ?c26 ?k26 ?a27 ?i27 ?l27 ?c27 ?k27 ?a28 ?i28 ?l28 ?c28 ?k28 ?a29 ?i29 ?l29 ?c29 ?k29 ?t29 ?z1 ?z2 ?z3 ?z4 ?z5 ?z6 ?z7 ?z8 ?z9 ?z10 ?z11 ?z12 ?z13 ?z14 ?z15 ?z16 ?z17 ?zset ?aW ?lW ?aM ?aS ?lS ?aR ?lR ?kR ?sR ?lq0 ?lq1 ?lq2 ?lq3 ?lq4 ?lq5 ?lq6 ?lq7 ?lq8 ?lq9 ?lq10 ?lq11 ?lq12 ?aEBadText ?cEBadText ?saEBadText ?gaEBadText ?ggEBadText ?nwEBadText ?inEBadText ?tiEBadText ?liEBadText ?ciEBadText ?kcEBadText ?exEBadText ?tyEBadText ?hdEBadText ?clEBadText ?spEBadText ?tkEBadText ?mrEBadText ?suEBadText ?aEBadRow ?cEBadRow ?saEBadRow ?gaEBadRow ?ggEBadRow ?nwEBadRow ?inEBadRow ?tiEBadRow ?liEBadRow ?ciEBadRow ?kcEBadRow ?exEBadRow ?tyEBadRow ?hdEBadRow ?clEBadRow ?spEBadRow ?tkEBadRow ?mrEBadRow ?suEBadRow
    (case a1 => k_is)
    (case l1 => k_is)
    (case c1 => k_is)
    (case k1 => k_is)
    (case a2 => k_is)
    (case l2 => k_is)
    (case c2 => k_is)
    (case k2 => k_is)
    (case a3 => k_is)
    (case l3 => k_is)
    (case c3 => k_is)
    (case k3 => k_is)
    (case a4 => k_is)
    (case l4 => k_is)
    (case c4 => k_is)
    (case k4 => k_is)
    (case a5 => k_is)
    (case l5 => k_is)
    (case c5 => k_is)
    (case k5 => k_is)
    (case a6 => k_is)
    (case l6 => k_is)
    (case c6 => k_is)
    (case k6 => k_is)
    (case a7 => k_is)
    (case l7 => k_is)
    (case c7 => k_is)
    (case k7 => k_is)
    (case a8 => k_is)
    (case l8 => k_is)
    (case c8 => k_is)
    (case k8 => k_is)
    (case a9 => k_is)
    (case l9 => k_is)
    (case c9 => k_is)
    (case k9 => k_is)
    (case a10 => k_is)
    (case l10 => k_is)
    (case c10 => k_is)
    (case k10 => k_is)
    (case a11 => k_is)
    (case l11 => k_is)
    (case c11 => k_is)
    (case k11 => k_is)
    (case a12 => k_is)
    (case l12 => k_is)
    (case c12 => k_is)
    (case k12 => k_is)
    (case a13 => k_is)
    (case l13 => k_is)
    (case c13 => k_is)
    (case k13 => k_is)
    (case a14 => k_is)
    (case l14 => k_is)
    (case c14 => k_is)
    (case k14 => k_is)
    (case a15 => k_is)
    (case l15 => k_is)
    (case c15 => k_is)
    (case k15 => k_is)
    (case a16 => k_is)
    (case l16 => k_is)
    (case c16 => k_is)
    (case k16 => k_is)
    (case a17 => k_is)
    (case l17 => k_is)
    (case c17 => k_is)
    (case k17 => k_is)
    (case a18 => k_is)
    (case l18 => k_is)
    (case c18 => k_is)
    (case k18 => k_is)
    (case a19 => k_is)
    (case l19 => k_is)
    (case c19 => k_is)
    (case k19 => k_is)
    (case a20 => k_is)
    (case l20 => k_is)
    (case c20 => k_is)
    (case k20 => k_is)
    (case a21 => k_is)
    (case l21 => k_is)
    (case c21 => k_is)
    (case k21 => k_is)
    (case a22 => k_is)
    (case l22 => k_is)
    (case c22 => k_is)
    (case k22 => k_is)
    (case a23 => k_is)
    (case l23 => k_is)
    (case c23 => k_is)
    (case k23 => k_is)
    (case a24 => k_is)
    (case l24 => k_is)
    (case c24 => k_is)
    (case k24 => k_is)
    (case aC => k_is)
    (case pgC => k_is)
    (case hdC => k_is)
    (case poC => k_is)
    (case saC => k_is)
    (case mkC => k_is)
    (case kcC => k_is)
    (case naC0 => k_is)
    (case naC1 => k_is)
    (case a25 => k_is)
    (case i25 => k_is)
    (case l25 => k_is)
    (case c25 => k_is)
    (case k25 => k_is)
    (case a26 => k_is)
    (case i26 => k_is)
    (case l26 => k_is)
    (case c26 => k_is)
    (case k26 => k_is)
    (case a27 => k_is)
    (case i27 => k_is)
    (case l27 => k_is)
    (case c27 => k_is)
    (case k27 => k_is)
    (case a28 => k_is)
    (case i28 => k_is)
    (case l28 => k_is)
    (case c28 => k_is)
    (case k28 => k_is)
    (case a29 => k_is)
    (case i29 => k_is)
    (case l29 => k_is)
    (case c29 => k_is)
    (case k29 => k_is)
    (case t29 => k_is)
    (case z1 => k_is)
    (case z2 => k_is)
    (case z3 => k_is)
    (case z4 => k_is)
    (case z5 => k_is)
    (case z6 => k_is)
    (case z7 => k_is)
    (case z8 => k_is)
    (case z9 => k_is)
    (case z10 => k_is)
    (case z11 => k_is)
    (case z12 => k_is)
    (case z13 => k_is)
    (case z14 => k_is)
    (case z15 => k_is)
    (case z16 => k_is)
    (case z17 => k_is)
    (case zset => k_is)
    (case aW => k_is)
    (case lW => k_is)
    (case aM => k_is)
    (case aS => k_is)
    (case lS => k_is)
    (case aR => k_is)
    (case lR => k_is)
    (case kR => exact ⟨⟨_, _, rfl, rfl⟩, ⟨_, _, rfl, rfl⟩, ⟨_, _, rfl, rfl⟩, ⟨_, _, rfl, rfl⟩, ⟨_, _, rfl, rfl⟩, ⟨_, _, rfl, rfl⟩, ⟨_, _, rfl, rfl⟩, ⟨_, _, rfl, rfl⟩, ⟨_, _, rfl, rfl⟩, ⟨_, _, rfl, rfl⟩, ⟨_, _, rfl, rfl⟩, ⟨_, _, rfl, rfl⟩, ⟨_, _, rfl, rfl⟩, trivial⟩)
    (case sR => first | rfl | decide)
    (case lq0 => k_is)
    (case lq1 => k_is)
    (case lq2 => k_is)
    (case lq3 => k_is)
    (case lq4 => k_is)
    (case lq5 => k_is)
    (case lq6 => k_is)
    (case lq7 => k_is)
    (case lq8 => k_is)
    (case lq9 => k_is)
    (case lq10 => k_is)
    (case lq11 => k_is)
    (case lq12 => k_is)
    (case aEBadText => k_is)
    (case cEBadText => k_is)
    (case saEBadText => k_is)
    (case gaEBadText => k_is)
    (case ggEBadText => k_is)
    (case nwEBadText => k_is)
    (case inEBadText => k_is)
    (case tiEBadText => k_is)
    (case liEBadText => k_is)
    (case ciEBadText => k_is)
    (case kcEBadText => k_is)
    (case exEBadText => k_is)
    (case tyEBadText => k_is)
    (case hdEBadText => k_is)
    (case clEBadText => k_is)
    (case spEBadText => k_is)
    (case tkEBadText => k_is)
    (case mrEBadText => k_is)
    (case suEBadText => first | rfl | k_is)
    (case aEBadRow => k_is)
    (case cEBadRow => k_is)
    (case saEBadRow => k_is)
    (case gaEBadRow => k_is)
    (case ggEBadRow => k_is)
    (case nwEBadRow => k_is)
    (case inEBadRow => k_is)
    (case tiEBadRow => k_is)
    (case liEBadRow => k_is)
    (case ciEBadRow => k_is)
    (case kcEBadRow => k_is)
    (case exEBadRow => k_is)
    (case tyEBadRow => k_is)
    (case hdEBadRow => k_is)
    (case clEBadRow => k_is)
    (case spEBadRow => k_is)
    (case tkEBadRow => k_is)
    (case mrEBadRow => k_is)
    (case suEBadRow => first | rfl | k_is)

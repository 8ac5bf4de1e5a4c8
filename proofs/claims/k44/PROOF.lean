import PyProof.Rows.All
import Wide.All
import OpenK.AllK
import Wide.FinOn
import HandS.ForMost
import HandS.Walk
import HandS.Zip
import HandS.WideBits
import HandS.IsInst
import OpenK.KEqL
import HandS.More
import HandS.Flow
import HandS.NoneIn
import HandS.Defaults
import HandS.Wide
import HandS.Style
import HandS.Dict
import HandS.Star
import HandS.Conv
import HandS.Small
import HandS.Codes
import HandS.Text
import HandS.WordsDict
import KE.OsRunLaw
import KE.GoesZip
import KE.GoesMore
import KE.GoesEnum
import HandS.Deep
import HandS.OwnEq
import PyProof.Rows.FactsT3
import KE.DataEq
import HandS.ExcIs
import KE.KExcInit
import KE.KExcIs
import KE.KTryMore
import HandS.Exc
import HandS.ExcInit
import HandS.WordsExc
import HandS.ExcValue
import HandS.ExcOwn
import HandS.IsInst
import HandS.ForSpec
import PySem.Challenge.RW_guessedzeros_k44_wires_and_names_that_ar
set_option Elab.async false
set_option linter.all false
set_option maxRecDepth 100000
set_option maxHeartbeats 40000000
namespace GZ
open PySem PySem.Spec PyProof.Rows L2
/-! ### the text by places -/
def topS (i : Nat) : Stmt := PySem.Challenge.pw_guessedzeros_k44_wires_and_names_that_ar.main.body.getD i (.Pass ⟨0, 0, 0, 0⟩)
abbrev s_Net___init__ : Stmt := inClass (topS 20) 0
theorem sc_Net___init__ : FnScope ["self", "many"] ["self", "many"] (defScope s_Net___init__) := ⟨rfl, rfl, rfl, by decide +kernel, rfl, by decide +kernel, by decide +kernel⟩
abbrev s_Net_both : Stmt := inClass (topS 20) 1
theorem sc_Net_both : FnScope ["self", "a", "b"] ["self", "a", "b"] (defScope s_Net_both) := ⟨rfl, rfl, rfl, by decide +kernel, rfl, by decide +kernel, by decide +kernel⟩
abbrev s_Net_either : Stmt := inClass (topS 20) 2
theorem sc_Net_either : FnScope ["self", "a", "b"] ["self", "a", "b"] (defScope s_Net_either) := ⟨rfl, rfl, rfl, by decide +kernel, rfl, by decide +kernel, by decide +kernel⟩
abbrev s_Net_unlike : Stmt := inClass (topS 20) 3
theorem sc_Net_unlike : FnScope ["self", "a", "b"] ["self", "a", "b"] (defScope s_Net_unlike) := ⟨rfl, rfl, rfl, by decide +kernel, rfl, by decide +kernel, by decide +kernel⟩
abbrev s_Net_other : Stmt := inClass (topS 20) 4
theorem sc_Net_other : FnScope ["self", "a"] ["self", "a"] (defScope s_Net_other) := ⟨rfl, rfl, rfl, by decide +kernel, rfl, by decide +kernel, by decide +kernel⟩
abbrev s_Net_fixed : Stmt := inClass (topS 20) 5
theorem sc_Net_fixed : FnScope ["self", "bit"] ["self", "bit"] (defScope s_Net_fixed) := ⟨rfl, rfl, rfl, by decide +kernel, rfl, by decide +kernel, by decide +kernel⟩
abbrev s_Net_put : Stmt := inClass (topS 20) 6
theorem sc_Net_put : FnScope ["self", "kind", "wires", "depth", "wire"] ["self", "kind", "wires"] (defScope s_Net_put) := ⟨rfl, rfl, rfl, by decide +kernel, rfl, by decide +kernel, by decide +kernel⟩
abbrev s_Net_put_gate : Stmt := inClass (topS 20) 7
theorem sc_Net_put_gate : FnScope ["self", "gate", "depth"] ["self", "gate", "depth"] (defScope s_Net_put_gate) := ⟨rfl, rfl, rfl, by decide +kernel, rfl, by decide +kernel, by decide +kernel⟩
abbrev s_Net_need : Stmt := inClass (topS 20) 8
theorem sc_Net_need : FnScope ["self", "wires", "wire"] ["self", "wires"] (defScope s_Net_need) := ⟨rfl, rfl, rfl, by decide +kernel, rfl, by decide +kernel, by decide +kernel⟩
abbrev s_Net_give : Stmt := inClass (topS 20) 9
theorem sc_Net_give : FnScope ["self", "name", "wires"] ["self", "name", "wires"] (defScope s_Net_give) := ⟨rfl, rfl, rfl, by decide +kernel, rfl, by decide +kernel, by decide +kernel⟩
abbrev s_Net_given : Stmt := inClass (topS 20) 10
theorem sc_Net_given : FnScope ["self", "name"] ["self", "name"] (defScope s_Net_given) := ⟨rfl, rfl, rfl, by decide +kernel, rfl, by decide +kernel, by decide +kernel⟩
abbrev s_Net_names : Stmt := inClass (topS 20) 11
theorem sc_Net_names : FnScope ["self"] ["self"] (defScope s_Net_names) := ⟨rfl, rfl, rfl, by decide +kernel, rfl, by decide +kernel, by decide +kernel⟩
abbrev s_Net_inputs : Stmt := inClass (topS 20) 12
theorem sc_Net_inputs : FnScope ["self"] ["self"] (defScope s_Net_inputs) := ⟨rfl, rfl, rfl, by decide +kernel, rfl, by decide +kernel, by decide +kernel⟩
abbrev s_Net_gates : Stmt := inClass (topS 20) 13
theorem sc_Net_gates : FnScope ["self"] ["self"] (defScope s_Net_gates) := ⟨rfl, rfl, rfl, by decide +kernel, rfl, by decide +kernel, by decide +kernel⟩
abbrev s_Net_depth : Stmt := inClass (topS 20) 14
theorem sc_Net_depth : FnScope ["self", "wire"] ["self", "wire"] (defScope s_Net_depth) := ⟨rfl, rfl, rfl, by decide +kernel, rfl, by decide +kernel, by decide +kernel⟩
abbrev s_Net___len__ : Stmt := inClass (topS 20) 15
theorem sc_Net___len__ : FnScope ["self"] ["self"] (defScope s_Net___len__) := ⟨rfl, rfl, rfl, by decide +kernel, rfl, by decide +kernel, by decide +kernel⟩
abbrev sBox : Stmt := topS 22
abbrev sTake : Stmt := topS 23
abbrev sSame : Stmt := topS 24
abbrev s__law_classes : Stmt := topS 25
theorem sc__law_classes : FnScope ["_law_caught", "_law_some", "_law_words", "_law_word", "_law_one"] ["_law_caught"] (defScope s__law_classes) := ⟨rfl, rfl, rfl, by decide +kernel, rfl, by decide +kernel, by decide +kernel⟩
abbrev s__law_names : Stmt := topS 26
theorem sc__law_names : FnScope ["_law_box_here", "_law_size", "_law_signs", "_law_first", "_law_found", "_law_k", "_law_last"] ["_law_box_here", "_law_size"] (defScope s__law_names) := ⟨rfl, rfl, rfl, by decide +kernel, rfl, by decide +kernel, by decide +kernel⟩
abbrev s__law_gates : Stmt := topS 27
theorem sc__law_gates : FnScope ["_law_box_here", "_law_wide", "_law_size", "_law_rows", "_law_k", "_law_here", "_law_sort", "_law_a", "_law_b"] ["_law_box_here", "_law_wide", "_law_size"] (defScope s__law_gates) := ⟨rfl, rfl, rfl, by decide +kernel, rfl, by decide +kernel, by decide +kernel⟩
abbrev s__law_made : Stmt := topS 28
theorem sc__law_made : FnScope ["_law_rows", "_law_wide", "_law_net", "_law_row"] ["_law_rows", "_law_wide"] (defScope s__law_made) := ⟨rfl, rfl, rfl, by decide +kernel, rfl, by decide +kernel, by decide +kernel⟩
abbrev s__law_two : Stmt := topS 29
theorem sc__law_two : FnScope ["_law_net", "_law_how", "_law_wires"] ["_law_net", "_law_how", "_law_wires"] (defScope s__law_two) := ⟨rfl, rfl, rfl, by decide +kernel, rfl, by decide +kernel, by decide +kernel⟩
abbrev s__law_asked : Stmt := topS 30
theorem sc__law_asked : FnScope ["_law_net", "_law_how", "_law_wires", "_law_name", "_law_caught", "error", "_law_bases"] ["_law_net", "_law_how", "_law_wires", "_law_name"] (defScope s__law_asked) := ⟨rfl, rfl, rfl, by decide +kernel, rfl, by decide +kernel, by decide +kernel⟩
abbrev s__law_strange : Stmt := topS 31
theorem sc__law_strange : FnScope ["_law_box_here", "_law_there"] ["_law_box_here", "_law_there"] (defScope s__law_strange) := ⟨rfl, rfl, rfl, by decide +kernel, rfl, by decide +kernel, by decide +kernel⟩
abbrev s__law_told : Stmt := topS 32
theorem sc__law_told : FnScope ["_law_net", "_law_names_here", "_law_name"] ["_law_net"] (defScope s__law_told) := ⟨rfl, rfl, rfl, by decide +kernel, rfl, by decide +kernel, by decide +kernel⟩
abbrev s__law_ask_right : Stmt := topS 33
theorem sc__law_ask_right : FnScope ["_law_box_here", "_law_net", "_law_names_here", "_law_there", "_law_how", "_law_strange_here", "_law_wires", "_law_at", "_law_name", "_law_first", "_law_due", "_law_turn", "_law_wire"] ["_law_box_here", "_law_net", "_law_names_here"] (defScope s__law_ask_right) := ⟨rfl, rfl, rfl, by decide +kernel, rfl, by decide +kernel, by decide +kernel⟩
abbrev s_law : Stmt := topS 34
theorem sc_law : FnScope ["_law_script", "_law_k", "_law_box_here", "_law_many", "_law_names_here", "_law_net", "_law_there", "_law_turn", "_law_ahead"] ["_law_script"] (defScope s_law) := ⟨rfl, rfl, rfl, by decide +kernel, rfl, by decide +kernel, by decide +kernel⟩
/-! ### built-in names that the text leaves alone -/
structure Bl (mg : Str → Option Value) : Prop where
  len : mg "len" = none
  abs : mg "abs" = none
  int : mg "int" = none
  divmod : mg "divmod" = none
  list : mg "list" = none
  enumerate : mg "enumerate" = none
  isinstance : mg "isinstance" = none
  tuple : mg "tuple" = none
  str : mg "str" = none
  bool : mg "bool" = none
  zip : mg "zip" = none
  all : mg "all" = none
  range : mg "range" = none
  max : mg "max" = none
  any : mg "any" = none
  min : mg "min" = none
  sum : mg "sum" = none
/-! ### rules with the written part told (for the blocks of comprehensions) -/
section
variable {X : Cx} {K : PySem.W.Frag}
theorem call_len_seqK (h : X.K = K := by rfl) : CallR X (.builtin "len") (fun xs H Q => ∃ p ys, xs = [.ref p] ∧ (SqL K H p ys ∨ SqT K H p ys) ∧ Q (.int ys.length) H) := by subst h; exact call_len_seq
theorem call_list_ofK (h : X.K = K := by rfl) : CallR X (.type "list") (fun xs H Q => ∃ p ys, xs = [.ref p] ∧ (SqL K H p ys ∨ SqT K H p ys) ∧ ∀ l, H l = none → Q (.ref l) (upd H l (.lst ys))) := by subst h; exact call_list_of
theorem call_tuple_ofK (h : X.K = K := by rfl) : CallR X (.type "tuple") (fun xs H Q => ∃ p ys, xs = [.ref p] ∧ ((SqL K H p ys ∧ ∀ l, H l = none → Q (.ref l) (upd H l (.tup ys))) ∨ (SqT K H p ys ∧ Q (.ref p) H))) := by subst h; exact call_tuple_of
theorem ix_listK (h : X.K = K := by rfl) : IxR X (rIxL K) := by subst h; exact ix_list
theorem ix_tupK (h : X.K = K := by rfl) : IxR X (rIxT K) := by subst h; exact ix_tup
theorem ix_seqK (h : X.K = K := by rfl) : IxR X (rIx K) := by subst h; exact ix_seq
theorem op_in_seqK (h : X.K = K := by rfl) : OpR X (compareOp .In) (rIn K false) := by subst h; exact op_in_seq
theorem op_notIn_seqK (h : X.K = K := by rfl) : OpR X (compareOp .NotIn) (rIn K true) := by subst h; exact op_notIn_seq
theorem sl_listK (h : X.K = K := by rfl) : SlR X (rSlL K) := by subst h; exact sl_list
theorem cr_sumK (hc : X.calm = true) (h : X.K = K := by rfl) : CallR X (.builtin "sum") (rSum K) := by subst h; exact cr_sum hc
theorem cr_allK (hc : X.calm = true) (h : X.K = K := by rfl) : CallR X (.builtin "all") (rAll K) := by subst h; exact cr_all hc
theorem cr_anyK (hc : X.calm = true) (h : X.K = K := by rfl) : CallR X (.builtin "any") (rAny K) := by subst h; exact cr_any hc
theorem call_isiK' (h : X.K = K := by rfl) : CallR X (.builtin "isinstance") (rIsi K) := by subst h; exact call_isi
theorem pi_listK {tg l : Expr} {tl : TE} (hl : PE X l tl) (h : X.K = K := by rfl) : PI X tg l (iList K tl) := by subst h; exact pi_list hl
theorem pi_tupK {tg l : Expr} {tl : TE} (hl : PE X l tl) (h : X.K = K := by rfl) : PI X tg l (iTup K tl) := by subst h; exact pi_tup hl
theorem pe_fldK {e : Expr} {ta : TE} {f : Str} {pos : Pos} (he : PE X e ta) (hb : attributeBase e f X.env (eval e X.env) = eval e X.env) (h : X.K = K := by rfl) : PE X (.Attribute e f pos) (tFld K ta f) := by subst h; exact pe_fld he hb
end
/-! ### heaps -/
theorem same_upd {H : Hp} {p : Addr} {o : HO} (h : H p = none) : Same H (upd H p o) := fun b x e => by
  rw [upd_ne (ne_of_none e h)]
  exact e
/-- all but what stands at b is as it was -/
def Keep (b : Addr) (H H' : Hp) : Prop := ∀ p o, H p = some o → p ≠ b → H' p = some o
theorem Keep.refl (b : Addr) (H : Hp) : Keep b H H := fun _ _ h _ => h
theorem Keep.trans {b : Addr} {H H1 H2 : Hp} (x : Keep b H H1) (y : Keep b H1 H2) : Keep b H H2 := fun p o h n => y p o (x p o h n) n
theorem Keep.ofSame {b : Addr} {H H1 : Hp} (x : Same H H1) : Keep b H H1 := fun p o h _ => x p o h
theorem Keep.upd {b : Addr} {H : Hp} {o : HO} : Keep b H (upd H b o) := fun p x h n => by
  rw [upd_ne n]
  exact h
theorem Keep.new {b p : Addr} {H : Hp} {o : HO} (h : H p = none) : Keep b H (L2.upd H p o) := .ofSame (same_upd h)
theorem Keep.seq {K : PySem.W.Frag} {b a : Addr} {H H' : Hp} {xs : List V} (e : Keep b H H') (n : a ≠ b) (h : SqL K H a xs) : SqL K H' a xs := by
  rcases h with (h | ⟨o, h⟩) | h
  · exact .inl (.inl (e _ _ h n))
  · exact .inl (.inr ⟨o, e _ _ h n⟩)
  · exact .inr h
theorem Keep.seqT {K : PySem.W.Frag} {b a : Addr} {H H' : Hp} {xs : List V} (e : Keep b H H') (n : a ≠ b) (h : SqT K H a xs) : SqT K H' a xs := by
  rcases h with (h | ⟨o, h⟩) | h
  · exact .inl (.inl (e _ _ h n))
  · exact .inl (.inr ⟨o, e _ _ h n⟩)
  · exact .inr h
theorem Same.seqT {K : PySem.W.Frag} {a : Addr} {H H' : Hp} {xs : List V} (e : Same H H') (h : SqT K H a xs) : SqT K H' a xs := by
  rcases h with (h | ⟨o, h⟩) | h
  · exact .inl (.inl (e _ _ h))
  · exact .inl (.inr ⟨o, e _ _ h⟩)
  · exact .inr h
/-- a drawing box: three ints, the last at most c -/
def BoxAt (c : Int) (H : Hp) (b : Addr) : Prop := ∃ x0 x1 x2 : Int, H b = some (.lst [.int x0, .int x1, .int x2]) ∧ 0 ≤ x0 ∧ 0 ≤ x1 ∧ x1 < 2147483647 ∧ 0 ≤ x2 ∧ x2 ≤ c
theorem BoxAt.mono {c d : Int} {H : Hp} {b : Addr} (h : BoxAt c H b) (l : c ≤ d) : BoxAt d H b := by
  obtain ⟨x0, x1, x2, e, a1, a2, a3, a4, a5⟩ := h
  exact ⟨x0, x1, x2, e, a1, a2, a3, a4, by omega⟩
theorem BoxAt.same {c : Int} {H H' : Hp} {b : Addr} (h : BoxAt c H b) (s : Same H H') : BoxAt c H' b := by
  obtain ⟨x0, x1, x2, e, r⟩ := h
  exact ⟨x0, x1, x2, s _ _ e, r⟩
theorem BoxAt.at {c : Int} {H H' : Hp} {b : Addr} (h : BoxAt c H b) (s : H' b = H b) : BoxAt c H' b := by
  obtain ⟨x0, x1, x2, e, r⟩ := h
  exact ⟨x0, x1, x2, by rw [s]; exact e, r⟩
theorem BoxAt.ne {c : Int} {H : Hp} {b p : Addr} (h : BoxAt c H b) (n : H p = none) : b ≠ p := by
  obtain ⟨x0, x1, x2, e, r⟩ := h
  exact ne_of_none e n
theorem e7 : (10 : Int) ^ ((7 : Int).toNat) = 10000000 := by decide
theorem e18 : (10 : Int) ^ ((18 : Int).toNat) = 1000000000000000000 := by decide
theorem divp_small {i j : Int} (h0 : 0 < j) (h1 : j < 2 ^ 250) : CDivP i j := by
  refine ⟨h0, ?_⟩
  show (decide ((if j == 0 then 0 else j.natAbs.log2 / 30 + 1) > 300) && _) = false
  rw [if_neg (show ¬ (j == 0) = true by simpa using (show j ≠ 0 by omega))]
  have hl : j.natAbs.log2 < 250 := PySem.Flt.log2_lt_of (by decide) (by omega)
  rw [decide_eq_false (show ¬ (j.natAbs.log2 / 30 + 1 > 300) by omega), Bool.false_and]
section
variable {P : Program} {w : World} {K : PySem.W.Frag} {mg : Str → Option Value} {base : Heap}
/-! ### _law_take -/
theorem scTake : FnScope ["_law_box_here", "_law_size", "_law_found", "_law_step", "_law_once", "_law_twice"] ["_law_box_here", "_law_size"] (defScope sTake) := ⟨rfl, rfl, rfl, by decide +kernel, rfl, by decide +kernel, by decide +kernel⟩
def spTake (k : Nat) : Sp := fun vs H Q _ => ∃ (b : Addr) (n c : Int), vs = [.ref b, .int n] ∧ BoxAt c H b ∧ 1 ≤ n ∧ n ≤ 10000000 ^ k ∧ n < 2 ^ 250 ∧ c + 2 ^ k ≤ 1000000000 ∧ 0 < k ∧
  ∀ (r : Int) (H' : Hp), 0 ≤ r → r < n → BoxAt (c + 2 ^ (k - 1)) H' b → Keep b H H' → Q (.int r) H'
theorem take_none {f : Addr} {fd : FuncData} : FnOk P w K mg base CX0 0 f fd ["_law_box_here", "_law_size"] (spTake 0) := by
  have no : ∀ vs H Q E, ¬ spTake 0 vs H Q E := fun vs H Q E h => by
    obtain ⟨b, n, c, _, _, _, _, _, _, h0, _⟩ := h
    omega
  exact ⟨fun vs H Q E h => absurd h (no vs H Q E), fun A outer s H args us vs Q E _ _ _ _ h => absurd h (no vs H Q E)⟩
theorem ok_take1 {f : Addr} {fd : FuncData} {k : Nat} (F : Fun K "_law_take" "_law_take" sTake f fd) (G : FnOk P w K mg base CX0 k f fd ["_law_box_here", "_law_size"] (spTake k)) (bf : Binds K fd ["_law_box_here", "_law_size"] []) (mf : mg "_law_take" = some (.ref f)) (B : Bl mg) :
    FnOk P w K mg base CX0 (k + 1) f fd ["_law_box_here", "_law_size"] (spTake (k + 1)) := by
  refine F.ok scTake (fun vs H Q E h => ?_) (fun cdv A outer s H vs Q E hr h => ?_)
  · obtain ⟨b, n, c, rfl, _⟩ := h
    rfl
  obtain ⟨b, n, c, rfl, hB, hn1, hnk, hn60, hc, _, q⟩ := h
  obtain ⟨x0, x1, x2, hb, h0, h1, h1', h2, h2'⟩ := hB
  have hp : (0 : Int) < 2 ^ k := Int.pow_pos (by decide)
  have hk2 : (2 : Int) ^ (k + 1) = 2 ^ k * 2 := Int.pow_succ 2 k
  refine ⟨_, pss_cons (ps_if (pt_cmpR op_gt (pe_ix ix_list (pv 0) pe_int (fun _ _ => rfl)) pe_int (nomark _))
      (pss_cons (ps_asg (pe_callB call_divmodW (by rfl) B.divmod boot_divmod (pa_cons (pe_ix ix_list (pv 0) pe_int (fun _ _ => rfl)) (pa_cons (pv 1) pa_nil)))
          (pg_tup (by rfl) (pgs_cons (pg_sub (pv 0) pe_int set_list) (pgs_cons (pg_name (i := 2) scTake.nd rfl (.inl rfl)) pgs_nil))))
        (pss_one (ps_ret (pv 2)))) pss_nil)
    (pss_cons (ps_if (pt_cmpR op_gt (pv 1) (pe_op op_pow pe_int pe_int) (nomark _))
      (pss_one (ps_ret (pe_op op_mod (pe_op op_add (pe_call G hr (by rfl) mf F.kp bf .nil pass0 (pa_cons (pv 0) (pa_cons (pe_op op_pow pe_int pe_int) pa_nil)))
          (pe_op op_mul (pe_op op_pow pe_int pe_int) (pe_call G hr (by rfl) mf F.kp bf .nil pass0 (pa_cons (pv 0) (pa_cons (pe_op op_add (pe_op op_fdiv (pe_op op_sub (pv 1) pe_int) (pe_op op_pow pe_int pe_int)) pe_int) pa_nil))))) (pv 1)))) pss_nil)
    (pss_cons (ps_asg (pe_op op_add (pe_ix ix_list (pv 0) pe_int (fun _ _ => rfl)) pe_int) (pg_sub (pv 0) pe_int set_list))
    (pss_cons (ps_set (i := 3) scTake.nd rfl (.inl rfl) (pe_op op_add pe_int (pe_op op_mul (pe_ix ix_list (pv 0) pe_int (fun _ _ => rfl)) (pe_ix ix_list (pv 0) pe_int (fun _ _ => rfl)))))
    (pss_cons (ps_set (i := 4) scTake.nd rfl (.inl rfl) (pe_op op_mod (pe_op op_mul (pe_op op_add (pe_ix ix_list (pv 0) pe_int (fun _ _ => rfl)) (pe_op op_mul pe_int (pe_ix ix_list (pv 0) pe_int (fun _ _ => rfl)))) (pv 3)) pe_int))
    (pss_cons (ps_set (i := 5) scTake.nd rfl (.inl rfl) (pe_op op_mod (pe_op op_add (pe_op op_mul (pv 4) (pe_op op_add (pe_op op_mod (pv 4) pe_int) pe_int)) (pe_ix ix_list (pv 0) pe_int (fun _ _ => rfl))) pe_int))
    (pss_one (ps_ret (pe_op op_mod (pe_op op_fdiv (pe_op op_mod (pe_op op_mul (pv 5) (pe_op op_add (pe_op op_mod (pv 5) pe_int) pe_int)) pe_int) pe_int) (pv 1))))))))), ?_⟩
  refine ⟨_, rfl, b, _, _, _, rfl, rfl, SqL.of hb, rfl, _, _, rfl, rfl, _, rfl, ite2 (fun cc => ?_) (fun cc => ?_)⟩
  · -- the great number's own digits
    refine ⟨_, rfl, b, _, _, _, rfl, rfl, SqL.of hb, rfl, _, rfl, _, _, rfl, divp_small (by omega) (by omega), fun p np => ?_⟩
    have nbp : b ≠ p := ne_of_none hb np
    refine ⟨p, _, rfl, .inl (.inl upd_same), rfl, _, _, rfl, _, rfl, b, _, _, 0, rfl, rfl, (by rw [upd_ne nbp]; exact hb), rfl, _, _, rfl, rfl, _, rfl, ?_⟩
    refine q _ _ (Int.emod_nonneg _ (by omega)) (Int.emod_lt_of_pos _ (by omega)) ⟨x0 / n, x1, x2, upd_same, Int.ediv_nonneg h0 (by omega), h1, h1', h2, by show x2 ≤ c + 2 ^ k; omega⟩ ?_
    exact Keep.trans (Keep.new np) Keep.upd
  · refine ⟨_, rfl, _, _, rfl, rfl, ⟨by decide, by decide, by decide⟩, _, _, rfl, rfl, _, rfl, ite2 (fun c2 => ?_) (fun c2 => ?_)⟩
    · -- two lesser draws
      have c3 : (10 : Int) ^ ((7 : Int).toNat) < n := of_decide_eq_true c2
      rw [e7] at c3
      have hk : 0 < k := by
        rcases Nat.eq_zero_or_pos k with z | z
        · subst z
          rw [show (10000000 : Int) ^ (0 + 1) = 10000000 by decide] at hnk
          omega
        · exact z
      obtain ⟨j, rfl⟩ : ∃ j, k = j + 1 := ⟨k - 1, by omega⟩
      have hj2 : (2 : Int) ^ (j + 1) = 2 ^ j * 2 := Int.pow_succ 2 j
      have hjp : (0 : Int) < 2 ^ j := Int.pow_pos (by decide)
      have h10 : (10000000 : Int) ≤ 10000000 ^ (j + 1) := by
        rw [Int.pow_succ]
        have : (0 : Int) < 10000000 ^ j := Int.pow_pos (by decide)
        omega
      have hdiv : (n - 1) / 10000000 + 1 ≤ 10000000 ^ (j + 1) := by
        rw [Int.pow_succ] at hnk
        have : n - 1 < 10000000 ^ (j + 1) * 10000000 := by omega
        have := Int.ediv_lt_of_lt_mul (by decide) this
        omega
      refine ⟨_, rfl, _, _, rfl, rfl, ⟨by decide, by decide, by decide⟩, b, _, c, rfl, ⟨x0, x1, x2, hb, h0, h1, h1', h2, h2'⟩, (by rw [e7]; decide), (by rw [e7]; exact h10), (by rw [e7]; decide), by omega, by omega, fun r1 H1 a1 a2 B1 k1 => ?_⟩
      refine ⟨_, _, rfl, rfl, ⟨by decide, by decide, by decide⟩, _, rfl, _, rfl, _, _, rfl, rfl, _, _, rfl, rfl, ⟨by decide, by decide, by decide⟩, _, _, rfl, rfl, (by rw [e7]; exact ⟨by decide, by decide⟩), _, _, rfl, rfl, ?_⟩
      rw [e7]
      refine ⟨b, _, c + 2 ^ j, rfl, B1, by omega, hdiv, by omega, by omega, by omega, fun r2 H2 a3 a4 B2 k2 => ?_⟩
      refine ⟨_, _, rfl, rfl, .inl ⟨by decide, by decide⟩, _, _, rfl, rfl, _, rfl, _, _, rfl, rfl, (by show (0 : Int) < n; omega), ?_⟩
      refine q _ _ (Int.emod_nonneg _ (by omega)) (Int.emod_lt_of_pos _ (by omega)) (B2.mono ?_) (k1.trans k2)
      show c + 2 ^ j + 2 ^ j ≤ c + 2 ^ (j + 1)
      omega
    · -- a turn of the wheel
      refine ⟨_, rfl, b, _, _, _, rfl, rfl, SqL.of hb, rfl, _, _, rfl, rfl, _, rfl, b, _, _, 2, rfl, rfl, hb, rfl, ?_⟩
      have hb2 : (upd H b (.lst [.int x0, .int x1, .int (x2 + 1)])) b = some (.lst [.int x0, .int x1, .int (x2 + 1)]) := upd_same
      refine ⟨_, rfl, b, _, _, _, rfl, rfl, SqL.of hb2, rfl, _, rfl, b, _, _, _, rfl, rfl, SqL.of hb2, rfl, _, _, rfl, rfl, .inl ⟨by omega, by omega⟩, _, _, rfl, rfl, ?_⟩
      refine ⟨_, rfl, b, _, _, _, rfl, rfl, SqL.of hb2, rfl, _, rfl, b, _, _, _, rfl, rfl, SqL.of hb2, rfl, _, _, rfl, rfl, .inl ⟨by omega, by omega⟩, _, _, rfl, rfl, _, rfl, _, _, rfl, rfl, .inl ⟨by omega, by omega⟩, _, _, rfl, rfl, (by show (0 : Int) < 2147483587; decide), ?_⟩
      generalize (x1 + 39373 * (x2 + 1)) * (69621 + (x2 + 1) * (x2 + 1)) = y
      have y1 := Int.emod_nonneg y (show (2147483587 : Int) ≠ 0 by decide)
      have y2 := Int.emod_lt_of_pos y (show (0 : Int) < 2147483587 by decide)
      refine ⟨_, rfl, _, rfl, _, _, rfl, rfl, (by show (0 : Int) < 30011; decide), _, _, rfl, rfl, _, _, rfl, rfl, .inl ⟨by omega, by omega⟩, _, rfl, b, _, _, _, rfl, rfl, SqL.of hb2, rfl, _, _, rfl, rfl, _, _, rfl, rfl, (by show (0 : Int) < 2147483563; decide), ?_⟩
      generalize (y % 2147483587 * (y % 2147483587 % 30011 + 5) + (x2 + 1)) = z
      have z1 := Int.emod_nonneg z (show (2147483563 : Int) ≠ 0 by decide)
      have z2 := Int.emod_lt_of_pos z (show (0 : Int) < 2147483563 by decide)
      refine ⟨_, rfl, _, rfl, _, _, rfl, rfl, (by show (0 : Int) < 1013; decide), _, _, rfl, rfl, _, _, rfl, rfl, .inl ⟨by omega, by omega⟩, _, _, rfl, rfl, (by show (0 : Int) < 998244353; decide), _, _, rfl, rfl, ⟨by decide, by decide⟩, _, rfl, _, _, rfl, rfl, (by show (0 : Int) < n; omega), ?_⟩
      refine q _ _ (Int.emod_nonneg _ (by omega)) (Int.emod_lt_of_pos _ (by omega)) ⟨x0, x1, x2 + 1, hb2, h0, h1, h1', by omega, by show x2 + 1 ≤ c + 2 ^ k; omega⟩ Keep.upd
theorem ok_take {f : Addr} {fd : FuncData} (F : Fun K "_law_take" "_law_take" sTake f fd) (bf : Binds K fd ["_law_box_here", "_law_size"] []) (mf : mg "_law_take" = some (.ref f)) (B : Bl mg) : ∀ k : Nat, FnOk P w K mg base CX0 k f fd ["_law_box_here", "_law_size"] (spTake k)
  | 0 => take_none
  | k + 1 => ok_take1 F (ok_take F bf mf B k) bf mf B
/-! ### _law_box -/
theorem scBox : FnScope ["_law_script", "_law_k", "_law_cell"] ["_law_script", "_law_k"] (defScope sBox) := ⟨rfl, rfl, rfl, by decide +kernel, rfl, by decide +kernel, by decide +kernel⟩
def spBox (K : PySem.W.Frag) : Sp := fun vs H Q _ => ∃ (a : Addr) (zs : List Int) (k : Int), vs = [.ref a, .int k] ∧ SqL K H a (zs.map V.int) ∧ 0 ≤ k ∧ k ≤ 1000 ∧
  ∀ (p : Addr) (H' : Hp), H p = none → Same H H' → BoxAt 0 H' p → Q (.ref p) H'
theorem b01 (b : Bool) : (-(2 ^ 64) < (if b = true then (1 : Int) else 0)) ∧ (if b = true then (1 : Int) else 0) < 2 ^ 64 := by cases b <;> decide
theorem b01n (b : Bool) : 0 ≤ (if b = true then (1 : Int) else 0) := by cases b <;> decide
theorem abs_nn (i : Int) : 0 ≤ (if i < 0 then -i else i) := by
  split <;> omega
theorem at_int {zs : List Int} {k : Int} (h0 : 0 ≤ k) (h : k < (zs.length : Int)) : ∃ v : Int, atI (zs.map V.int) k = some (.int v) ∧ zs[k.toNat]? = some v := by
  have hk : k.toNat < zs.length := by omega
  have ek : k = ((k.toNat : Nat) : Int) := by omega
  have q : atI (zs.map V.int) ((k.toNat : Nat) : Int) = some (.int zs[k.toNat]) := atI_nat (by rw [List.getElem?_map, List.getElem?_eq_getElem hk] <;> rfl)
  rw [← ek] at q
  exact ⟨zs[k.toNat], q, List.getElem?_eq_getElem hk⟩
theorem ok_box {f : Addr} {fd : FuncData} {k : Nat} (F : Fun K "_law_box" "_law_box" sBox f fd) (B : Bl mg) : FnOk P w K mg base CX0 (k + 1) f fd ["_law_script", "_law_k"] (spBox K) := by
  refine F.ok scBox (fun vs H Q E h => ?_) (fun cdv A outer s H vs Q E hr h => ?_)
  · obtain ⟨a, zs, k, rfl, _⟩ := h
    rfl
  obtain ⟨a, zs, k, rfl, hS, h0, h1, q⟩ := h
  refine ⟨_, pss_cons (ps_set (i := 2) scBox.nd rfl (.inl rfl) (pe_ifExp (pt_cmpR op_lt (pv 1) (pe_callB call_len_seq (by rfl) B.len PySem.boot_len (pa_cons (pv 0) pa_nil)) (nomark _)) (pe_ix ix_list (pv 0) (pv 1) (fun _ _ => rfl)) pe_int))
    (pss_one (ps_ret (pe_lst (pa_cons (pe_op op_mul (pe_callB call_abs (by rfl) B.abs boot_abs (pa_cons (pv 2) pa_nil)) (pe_callTy call_int1 (by rfl) B.int PyProof.Rows.boot_int (pa_cons (pe_cmpR op_ge (pe_callB call_abs (by rfl) B.abs boot_abs (pa_cons (pv 2) pa_nil)) (pe_op op_pow pe_int pe_int) (nomark _)) pa_nil)))
      (pa_cons (pe_op op_mod (pe_op op_mul (pe_op op_add (pe_op op_add (pe_op op_mod (pv 2) pe_int) (pe_op op_mul pe_int (pv 1))) pe_int) pe_int) pe_int) (pa_cons pe_int pa_nil)))))), ?_⟩
  refine ⟨_, rfl, _, rfl, a, _, rfl, .inl hS, _, _, rfl, rfl, _, rfl, ite2 (fun cc => ?_) (fun cc => ?_)⟩
  · have c1 : k < (((zs.map V.int).length : Nat) : Int) := of_decide_eq_true cc
    rw [List.length_map] at c1
    obtain ⟨v, hv, _⟩ := at_int h0 c1
    refine ⟨_, rfl, _, rfl, a, _, _, _, rfl, rfl, hS, hv, ?_⟩
    refine ⟨_, rfl, _, rfl, _, rfl, _, rfl, _, _, rfl, rfl, ⟨by decide, by decide, by decide⟩, _, _, rfl, rfl, .inr ⟨_, rfl, ?_⟩⟩
    refine ⟨_, _, rfl, rfl, .inr (b01 _), _, rfl, _, _, rfl, rfl, (by show (0 : Int) < 2147483629; decide), _, rfl, _, _, rfl, rfl, .inl ⟨by decide, by decide⟩, _, _, rfl, rfl, _, _, rfl, rfl, _, _, rfl, rfl, .inr ⟨by decide, by decide⟩, _, _, rfl, rfl, (by show (0 : Int) < 2147483647; decide), (by show 3 ≤ sizeLine; decide), fun p np => ?_⟩
    refine q p _ np (same_upd np) ⟨_, _, _, upd_same, Int.mul_nonneg (abs_nn v) (b01n _), Int.emod_nonneg _ (by decide), Int.emod_lt_of_pos _ (by decide), by decide, by decide⟩
  · refine ⟨_, rfl, _, rfl, _, rfl, _, rfl, _, _, rfl, rfl, ⟨by decide, by decide, by decide⟩, _, _, rfl, rfl, .inr ⟨_, rfl, ?_⟩⟩
    refine ⟨_, _, rfl, rfl, .inr (b01 _), _, rfl, _, _, rfl, rfl, (by show (0 : Int) < 2147483629; decide), _, rfl, _, _, rfl, rfl, .inl ⟨by decide, by decide⟩, _, _, rfl, rfl, _, _, rfl, rfl, _, _, rfl, rfl, .inr ⟨by decide, by decide⟩, _, _, rfl, rfl, (by show (0 : Int) < 2147483647; decide), (by show 3 ≤ sizeLine; decide), fun p np => ?_⟩
    refine q p _ np (same_upd np) ⟨_, _, _, upd_same, Int.mul_nonneg (abs_nn 0) (b01n _), Int.emod_nonneg _ (by decide), Int.emod_lt_of_pos _ (by decide), by decide, by decide⟩
/-! ### _law_same: of two things of one kind and worth -/
theorem scSame : FnScope ["_law_found", "_law_due", "_law_one", "_law_other"] ["_law_found", "_law_due"] (defScope sSame) := ⟨rfl, rfl, rfl, by decide +kernel, rfl, by decide +kernel, by decide +kernel⟩
def Lv : Nat → PyData → Prop
  | _, .none => True
  | _, .bool _ => True
  | _, .int _ => True
  | _, .str _ => True
  | n + 1, .list ds => ds.length ≤ 1000000 ∧ ∀ d ∈ ds, Lv n d
  | n + 1, .tuple ds => ds.length ≤ 1000000 ∧ ∀ d ∈ ds, Lv n d
  | _, _ => False
mutual
theorem Dp.same {H H' : Hp} (s : Same H H') : ∀ (d : PyData) (v : V), Dp K H v d → Dp K H' v d
  | .none, _, h => by
    cases h
    exact .non
  | .bool b, _, h => by
    cases h
    exact .bl b
  | .int i, _, h => by
    cases h
    exact .int i
  | .str x, _, h => by
    cases h
    exact .str x
  | .list ds, _, h => by
    cases h with
    | lst hs ha => exact .lst (s.seq hs) (Dp.sameAll s ds _ ha)
  | .tuple ds, _, h => by
    cases h with
    | tup hs ha => exact .tup (Same.seqT s hs) (Dp.sameAll s ds _ ha)
  | .dict _, _, h => by cases h
theorem Dp.sameAll {H H' : Hp} (s : Same H H') : ∀ (ds : List PyData) (vs : List V), DpAll K H vs ds → DpAll K H' vs ds
  | [], _, h => by
    cases h
    exact .nil
  | d :: ds, _, h => by
    cases h with
    | cons h1 h2 => exact .cons (Dp.same s d _ h1) (Dp.sameAll s ds _ h2)
end
theorem DpAll.len {H : Hp} : ∀ {ds : List PyData} {vs : List V}, DpAll K H vs ds → vs.length = ds.length
  | [], _, h => by
    cases h
    rfl
  | d :: ds, _, h => by
    cases h with
    | cons h1 h2 => rw [List.length_cons, List.length_cons, DpAll.len h2]
theorem DpAll.get {H : Hp} : ∀ {ds : List PyData} {vs : List V} {i : Nat} {x : V}, DpAll K H vs ds → vs[i]? = some x → ∃ d, ds[i]? = some d ∧ Dp K H x d
  | [], _, i, x, h, e => by
    cases h
    cases e
  | d :: ds, _, 0, x, h, e => by
    cases h with
    | cons h1 h2 =>
      cases e
      exact ⟨d, rfl, h1⟩
  | d :: ds, _, i + 1, x, h, e => by
    cases h with
    | @cons _ vs _ _ h1 h2 => exact DpAll.get (ds := ds) (vs := vs) h2 (show vs[i]? = some x from e)
theorem walk_zipT {a b : Addr} {xs ys : List V} {n : Nat} (hn : n = min xs.length ys.length) : Walk (RZ.ItzT K a b) n (fun H => SqT K H a xs ∧ SqT K H b ys) (YPair (fun i => xs[i]?) (fun i => ys[i]?)) := by
  subst hn
  refine ⟨fun i _ hi q => ?_, fun _ q => ⟨xs, ys, q.1, q.2, by omega⟩, fun i H v H' _ q y => ?_⟩
  · have h1 : i < xs.length := by omega
    have h2 : i < ys.length := by omega
    exact ⟨xs, ys, xs[i], ys[i], q.1, q.2, by simp [h1], by simp [h2]⟩
  · obtain ⟨T, x, z, h1, h2, h3, h4, h5⟩ := y
    exact ⟨T, x, z, h1, h2, h3, h4 xs q.1, h5 ys q.2⟩
theorem ty_lst {H : Hp} {a : Addr} {xs : List V} (h : SqL K H a xs) : TyX K H (.ref a) (.type "list") := by
  rcases h with (h | ⟨o, h⟩) | ⟨o, its, n, h1, h2, _⟩
  · exact .base (.lst h)
  · exact .base (.frz h)
  · exact .kList h1 h2
theorem ty_tup {H : Hp} {a : Addr} {xs : List V} (h : SqT K H a xs) : TyX K H (.ref a) (.type "tuple") := by
  rcases h with (h | ⟨o, h⟩) | ⟨o, its, n, h1, h2, _⟩
  · exact .base (.tup h)
  · exact .fTuple h
  · exact .kTuple h1 h2
def spSame (K : PySem.W.Frag) (k : Nat) : Sp := fun vs H Q _ => ∃ (x y : V) (d : PyData) (j : Nat), vs = [x, y] ∧ k = j + 1 ∧ Lv j d ∧ Dp K H x d ∧ Dp K H y d ∧ ∀ H', Same H H' → Q (.bl true) H'
theorem same_none {f : Addr} {fd : FuncData} : FnOk P w K mg base CX0 0 f fd ["_law_found", "_law_due"] (spSame K 0) := by
  have no : ∀ vs H Q E, ¬ spSame K 0 vs H Q E := fun vs H Q E h => by
    obtain ⟨x, y, d, j, _, h0, _⟩ := h
    omega
  exact ⟨fun vs H Q E h => absurd h (no vs H Q E), fun A outer s H args us vs Q E _ _ _ _ h => absurd h (no vs H Q E)⟩
theorem yesT {σ : L2.St} {H : Hp} {R S : Hp → Prop} (h : R H) : tYes σ H fun b H3 => if b = true then R H3 else S H3 := h
theorem repl_snoc {α : Type} (i : Nat) (x : α) : List.replicate i x ++ [x] = List.replicate (i + 1) x := List.replicate_succ'.symm
theorem all_repl (n : Nat) : (List.replicate n true).all id = true := by
  rw [List.all_eq_true]
  intro x hx
  rw [List.eq_of_mem_replicate hx]
  rfl
theorem kitLT {t : String} {r1 r2 : Bool} (h1 : kitB t "list" = some r1) (h2 : kitB t "tuple" = some r2) : PySem.W.kitAny K (.type t) [.type "list", .type "tuple"] = some (r1 || r2) := by
  refine kitAny_cons (kit_ty h1) (fun e => ?_) (fun e => by rw [e]; rfl)
  rw [e, Bool.false_or]
  refine kitAny_cons (kit_ty h2) (fun e => ?_) (fun e => e)
  rw [e]
  rfl
theorem ok_same1 {f : Addr} {fd : FuncData} {k : Nat} (F : Fun K "_law_same" "_law_same" sSame f fd) (G : FnOk P w K mg base CX0 k f fd ["_law_found", "_law_due"] (spSame K k)) (bf : Binds K fd ["_law_found", "_law_due"] []) (mf : mg "_law_same" = some (.ref f)) (B : Bl mg) :
    FnOk P w K mg base CX0 (k + 1) f fd ["_law_found", "_law_due"] (spSame K (k + 1)) := by
  refine F.ok scSame (fun vs H Q E h => ?_) (fun cdv A outer s H vs Q E hr h => ?_)
  · obtain ⟨x, y, d, j, rfl, _⟩ := h
    rfl
  obtain ⟨x, y, d, j, rfl, ej, lv, dx, dy, q⟩ := h
  obtain rfl : k = j := by omega
  refine ⟨_, pss_cons (ps_if (pt_val (pe_callB call_isiT (by rfl) B.isinstance boot_isinstance (pa_cons (pv 1) (pa_cons (pe_tup (pa_cons (pe_bltn (v := .ty "list") (by rfl) B.list PyProof.Rows.boot_list rfl) (pa_cons (pe_bltn (v := .ty "tuple") (by rfl) B.tuple PyProof.Rows.boot_tuple rfl) pa_nil))) pa_nil))))
      (pss_cons (ps_if (PW.pt (pw_or (pt_cmpR op_ne (pe_callB call_isi (by rfl) B.isinstance boot_isinstance (pa_cons (pv 0) (pa_cons (pe_bltn (v := .ty "list") (by rfl) B.list PyProof.Rows.boot_list rfl) pa_nil))) (pe_callB call_isi (by rfl) B.isinstance boot_isinstance (pa_cons (pv 1) (pa_cons (pe_bltn (v := .ty "list") (by rfl) B.list PyProof.Rows.boot_list rfl) pa_nil))) (nomark _))
          (pw_or1 (pt_cmpR op_ne (pe_callB call_isi (by rfl) B.isinstance boot_isinstance (pa_cons (pv 0) (pa_cons (pe_bltn (v := .ty "tuple") (by rfl) B.tuple PyProof.Rows.boot_tuple rfl) pa_nil))) (pe_callB call_isi (by rfl) B.isinstance boot_isinstance (pa_cons (pv 1) (pa_cons (pe_bltn (v := .ty "tuple") (by rfl) B.tuple PyProof.Rows.boot_tuple rfl) pa_nil))) (nomark _)))))
          (pss_one (ps_ret pe_bl)) pss_nil)
        (pss_one (ps_ret (pe_and (pe_cmpR op_eq (pe_callB call_len_seq (by rfl) B.len PySem.boot_len (pa_cons (pv 0) pa_nil)) (pe_callB call_len_seq (by rfl) B.len PySem.boot_len (pa_cons (pv 1) pa_nil)) (nomark _))
          (pe_one (pe_callB (cr_all rfl) (by rfl) B.all boot_all (pa_cons (pe_lc (own := [("_law_one", 2), ("_law_other", 3)]) (g := gTup K 2 (gCons (gName 2) (gCons (gName 3) gNil))) (by rfl) scSame.nd (RZ.pi_zipA (by rfl) B.zip (pa_cons (pv 0) (pa_cons (pv 1) pa_nil)))
            (blkOk_by (own := [("_law_one", 2), ("_law_other", 3)]) (N := ["_law_found", "_law_due", "_law_one", "_law_other"]) (sc := defScope sSame) (by decide +kernel))
            (fun _ _ _ _ _ => pg_tup rfl (pgs_cons (pg_name (i := 2) scSame.nd rfl (Or.inl rfl) (.inr rfl)) (pgs_cons (pg_name (i := 3) scSame.nd rfl (Or.inl rfl) (.inr rfl)) pgs_nil))) (fun _ _ _ _ _ => pts_nil)
            (fun _ _ _ _ _ => pe_call G hr (by rfl) mf F.kp bf .nil pass0 (pa_cons (pv 2) (pa_cons (pv 3) pa_nil)))) pa_nil))))))) pss_nil)
    (pss_cons (ps_if (PW.pt (pw_or (pt_cmpR op_isN (pv 1) pe_non (nomark _)) (pw_or1 (pt_val (pe_callB call_isi (by rfl) B.isinstance boot_isinstance (pa_cons (pv 1) (pa_cons (pe_bltn (v := .ty "str") (by rfl) B.str PyProof.Rows.boot_str rfl) pa_nil)))))))
      (pss_one (ps_ret (pe_and (pe_cmpR op_eq (pv 0) (pv 1) (nomark _)) (pe_one (pe_cmpR op_eq (pe_callB call_isi (by rfl) B.isinstance boot_isinstance (pa_cons (pv 0) (pa_cons (pe_bltn (v := .ty "str") (by rfl) B.str PyProof.Rows.boot_str rfl) pa_nil))) (pe_callB call_isi (by rfl) B.isinstance boot_isinstance (pa_cons (pv 1) (pa_cons (pe_bltn (v := .ty "str") (by rfl) B.str PyProof.Rows.boot_str rfl) pa_nil))) (nomark _)))))) pss_nil)
    (pss_one (ps_ret (pe_and (pe_callB call_isi (by rfl) B.isinstance boot_isinstance (pa_cons (pv 0) (pa_cons (pe_bltn (v := .ty "int") (by rfl) B.int PyProof.Rows.boot_int rfl) pa_nil))) (pe_and (pe_cmpR op_eq (pe_callB call_isi (by rfl) B.isinstance boot_isinstance (pa_cons (pv 0) (pa_cons (pe_bltn (v := .ty "bool") (by rfl) B.bool PyProof.Rows.boot_bool rfl) pa_nil))) (pe_callB call_isi (by rfl) B.isinstance boot_isinstance (pa_cons (pv 1) (pa_cons (pe_bltn (v := .ty "bool") (by rfl) B.bool PyProof.Rows.boot_bool rfl) pa_nil))) (nomark _))
      (pe_one (pe_cmpR op_eq (pv 0) (pv 1) (nomark _)))))))), ?_⟩
  have pr : Paired ClsV [.ty "list", .ty "tuple"] [.type "list", .type "tuple"] := .cons (.ty _) (.cons (.ty _) .nil)
  refine ⟨_, rfl, (by show 2 ≤ sizeLine; decide), fun tp ntp => ?_⟩
  have s0 : Same H (upd H tp (.tup [.ty "list", .ty "tuple"])) := same_upd ntp
  cases d with
  | none =>
    cases dx
    cases dy
    refine ⟨_, tp, _, _, _, _, rfl, upd_same, pr, .base .non, kitLT (t := "NoneType") (r1 := false) (r2 := false) (by decide +kernel) (by decide +kernel), _, rfl, iteF ?_⟩
    refine ⟨_, rfl, rfl, _, rfl, iteT (iteT ?_)⟩
    refine ⟨_, rfl, _, rfl, rfl, _, rfl, iteT ?_⟩
    refine ⟨_, rfl, _, _, _, _, _, rfl, .ty _, .base .non, kit_ty (by decide +kernel : kitB "NoneType" "str" = some false), _, rfl, _, _, _, _, _, rfl, .ty _, .base .non, kit_ty (by decide +kernel : kitB "NoneType" "str" = some false), rfl, q _ s0⟩
  | bool b =>
    cases dx
    cases dy
    refine ⟨_, tp, _, _, _, _, rfl, upd_same, pr, .base (.bl _), kitLT (t := "bool") (r1 := false) (r2 := false) (by decide +kernel) (by decide +kernel), _, rfl, iteF ?_⟩
    refine ⟨_, rfl, rfl, _, rfl, iteF ?_⟩
    refine ⟨_, rfl, _, _, _, _, _, rfl, .ty _, .base (.bl _), kit_ty (by decide +kernel : kitB "bool" "str" = some false), _, rfl, iteF ?_⟩
    refine ⟨_, rfl, _, _, _, _, _, rfl, .ty _, .base (.bl _), kit_ty (by decide +kernel : kitB "bool" "int" = some true), _, rfl, iteT ?_⟩
    refine ⟨_, rfl, _, _, _, _, _, rfl, .ty _, .base (.bl _), kit_ty (by decide +kernel : kitB "bool" "bool" = some true), _, rfl, _, _, _, _, _, rfl, .ty _, .base (.bl _), kit_ty (by decide +kernel : kitB "bool" "bool" = some true), rfl, _, rfl, iteT ?_⟩
    refine ⟨_, rfl, _, rfl, rfl, ?_⟩
    rw [decide_eq_true rfl]
    exact q _ s0
  | int i =>
    cases dx
    cases dy
    refine ⟨_, tp, _, _, _, _, rfl, upd_same, pr, .base (.int _), kitLT (t := "int") (r1 := false) (r2 := false) (by decide +kernel) (by decide +kernel), _, rfl, iteF ?_⟩
    refine ⟨_, rfl, rfl, _, rfl, iteF ?_⟩
    refine ⟨_, rfl, _, _, _, _, _, rfl, .ty _, .base (.int _), kit_ty (by decide +kernel : kitB "int" "str" = some false), _, rfl, iteF ?_⟩
    refine ⟨_, rfl, _, _, _, _, _, rfl, .ty _, .base (.int _), kit_ty (by decide +kernel : kitB "int" "int" = some true), _, rfl, iteT ?_⟩
    refine ⟨_, rfl, _, _, _, _, _, rfl, .ty _, .base (.int _), kit_ty (by decide +kernel : kitB "int" "bool" = some false), _, rfl, _, _, _, _, _, rfl, .ty _, .base (.int _), kit_ty (by decide +kernel : kitB "int" "bool" = some false), rfl, _, rfl, iteT ?_⟩
    refine ⟨_, rfl, _, rfl, rfl, ?_⟩
    rw [decide_eq_true rfl]
    exact q _ s0
  | str z =>
    cases dx
    cases dy
    refine ⟨_, tp, _, _, _, _, rfl, upd_same, pr, .base (.str _), kitLT (t := "str") (r1 := false) (r2 := false) (by decide +kernel) (by decide +kernel), _, rfl, iteF ?_⟩
    refine ⟨_, rfl, rfl, _, rfl, iteF ?_⟩
    refine ⟨_, rfl, _, _, _, _, _, rfl, .ty _, .base (.str _), kit_ty (by decide +kernel : kitB "str" "str" = some true), _, rfl, iteT ?_⟩
    refine ⟨_, rfl, _, rfl, rfl, ?_⟩
    rw [decide_eq_true rfl]
    refine ⟨_, rfl, iteT ?_⟩
    exact ⟨_, rfl, _, _, _, _, _, rfl, .ty _, .base (.str _), kit_ty (by decide +kernel : kitB "str" "str" = some true), _, rfl, _, _, _, _, _, rfl, .ty _, .base (.str _), kit_ty (by decide +kernel : kitB "str" "str" = some true), rfl, q _ s0⟩
  | list ds =>
    cases dx with
    | @lst a xs _ hx ax =>
    cases dy with
    | @lst b ys _ hy ay =>
    obtain ⟨i, rfl⟩ : ∃ i, k = i + 1 := by
      cases k with
      | zero => exact absurd lv id
      | succ i => exact ⟨i, rfl⟩
    have lx := DpAll.len ax
    have ly := DpAll.len ay
    have hx1 := s0.seq hx
    have hy1 := s0.seq hy
    refine ⟨_, tp, _, _, _, _, rfl, upd_same, pr, ty_lst hy1, kitLT (t := "list") (r1 := true) (r2 := false) (by decide +kernel) (by decide +kernel), _, rfl, iteT ?_⟩
    refine ⟨_, rfl, _, _, _, _, _, rfl, .ty _, ty_lst hx1, kit_ty (by decide +kernel : kitB "list" "list" = some true), _, rfl, _, _, _, _, _, rfl, .ty _, ty_lst hy1, kit_ty (by decide +kernel : kitB "list" "list" = some true), rfl, _, rfl, iteF ?_⟩
    refine ⟨_, rfl, _, _, _, _, _, rfl, .ty _, ty_lst hx1, kit_ty (by decide +kernel : kitB "list" "tuple" = some false), _, rfl, _, _, _, _, _, rfl, .ty _, ty_lst hy1, kit_ty (by decide +kernel : kitB "list" "tuple" = some false), rfl, _, rfl, iteF ?_⟩
    refine ⟨_, rfl, a, _, rfl, .inl hx1, _, rfl, b, _, rfl, .inl hy1, rfl, ?_⟩
    rw [decide_eq_true (by rw [lx, ly])]
    refine ⟨_, rfl, iteT ?_⟩
    refine ⟨_, rfl, _, rfl, a, b, xs, ys, rfl, .inl ⟨hx1, hy1, fun D nD => ?_⟩⟩
    have sD := s0.trans (same_upd (o := .lst []) nD)
    refine lc_it (walk_zip (K := K) (a := a) (b := b) (xs := xs) (ys := ys) rfl) (fun i H3 => Same H H3 ∧ H3 D = some (.lst (List.replicate i (.bl true)))) ⟨sD, upd_same⟩ (fun i H3 _ ⟨s3, _⟩ => ⟨s3.seq hx, s3.seq hy⟩) ?_ ?_
    · rintro i v H3 H4 hi ⟨s3, eD⟩ ⟨T, x, y, rfl, nT, rfl, e1, e2⟩
      obtain ⟨d1, g1, p1⟩ := DpAll.get ax e1
      obtain ⟨d2, g2, p2⟩ := DpAll.get ay e2
      obtain rfl : d1 = d2 := Option.some.inj (g1.symm.trans g2)
      have s4 := s3.trans (same_upd (o := .tup [x, y]) nT)
      refine ⟨T, _, rfl, .inl (.inl upd_same), rfl, _, _, rfl, _, _, rfl, rfl, rfl, ?_⟩
      refine yesT ?_
      refine ⟨_, rfl, _, rfl, x, y, d1, _, rfl, rfl, lv.2 d1 (List.mem_of_getElem? g1), Dp.same s4 _ _ p1, Dp.same s4 _ _ p2, fun H5 s5 => ?_⟩
      refine ⟨_, s5 _ _ (by rw [upd_ne (ne_of_none eD nT)]; exact eD), ?_, fun p o e => ?_, ?_⟩
      · rw [List.length_replicate]
        have := lv.1
        refine Nat.lt_of_lt_of_le (show i < 1000000 by omega) (by decide)
      · rw [upd_ne (ne_of_none e (s0.free nD))]
        exact s5 _ _ (s4 _ _ e)
      · rw [upd_same, repl_snoc]
    · rintro H3 ⟨s3, eD⟩
      refine ⟨D, List.replicate (min xs.length ys.length) true, rfl, .inl (.inl (by rw [List.map_replicate]; exact eD)), ?_⟩
      rw [all_repl]
      exact q _ s3
  | tuple ds =>
    cases dx with
    | @tup a xs _ hx ax =>
    cases dy with
    | @tup b ys _ hy ay =>
    obtain ⟨i, rfl⟩ : ∃ i, k = i + 1 := by
      cases k with
      | zero => exact absurd lv id
      | succ i => exact ⟨i, rfl⟩
    have lx := DpAll.len ax
    have ly := DpAll.len ay
    have hx1 := Same.seqT s0 hx
    have hy1 := Same.seqT s0 hy
    refine ⟨_, tp, _, _, _, _, rfl, upd_same, pr, ty_tup hy1, kitLT (t := "tuple") (r1 := false) (r2 := true) (by decide +kernel) (by decide +kernel), _, rfl, iteT ?_⟩
    refine ⟨_, rfl, _, _, _, _, _, rfl, .ty _, ty_tup hx1, kit_ty (by decide +kernel : kitB "tuple" "list" = some false), _, rfl, _, _, _, _, _, rfl, .ty _, ty_tup hy1, kit_ty (by decide +kernel : kitB "tuple" "list" = some false), rfl, _, rfl, iteF ?_⟩
    refine ⟨_, rfl, _, _, _, _, _, rfl, .ty _, ty_tup hx1, kit_ty (by decide +kernel : kitB "tuple" "tuple" = some true), _, rfl, _, _, _, _, _, rfl, .ty _, ty_tup hy1, kit_ty (by decide +kernel : kitB "tuple" "tuple" = some true), rfl, _, rfl, iteF ?_⟩
    refine ⟨_, rfl, a, _, rfl, .inr hx1, _, rfl, b, _, rfl, .inr hy1, rfl, ?_⟩
    rw [decide_eq_true (by rw [lx, ly])]
    refine ⟨_, rfl, iteT ?_⟩
    refine ⟨_, rfl, _, rfl, a, b, xs, ys, rfl, .inr ⟨hx1, hy1, fun D nD => ?_⟩⟩
    have sD := s0.trans (same_upd (o := .lst []) nD)
    refine lc_it (walk_zipT (K := K) (a := a) (b := b) (xs := xs) (ys := ys) rfl) (fun i H3 => Same H H3 ∧ H3 D = some (.lst (List.replicate i (.bl true)))) ⟨sD, upd_same⟩ (fun i H3 _ ⟨s3, _⟩ => ⟨Same.seqT s3 hx, Same.seqT s3 hy⟩) ?_ ?_
    · rintro i v H3 H4 hi ⟨s3, eD⟩ ⟨T, x, y, rfl, nT, rfl, e1, e2⟩
      obtain ⟨d1, g1, p1⟩ := DpAll.get ax e1
      obtain ⟨d2, g2, p2⟩ := DpAll.get ay e2
      obtain rfl : d1 = d2 := Option.some.inj (g1.symm.trans g2)
      have s4 := s3.trans (same_upd (o := .tup [x, y]) nT)
      refine ⟨T, _, rfl, .inl (.inl upd_same), rfl, _, _, rfl, _, _, rfl, rfl, rfl, ?_⟩
      refine yesT ?_
      refine ⟨_, rfl, _, rfl, x, y, d1, _, rfl, rfl, lv.2 d1 (List.mem_of_getElem? g1), Dp.same s4 _ _ p1, Dp.same s4 _ _ p2, fun H5 s5 => ?_⟩
      refine ⟨_, s5 _ _ (by rw [upd_ne (ne_of_none eD nT)]; exact eD), ?_, fun p o e => ?_, ?_⟩
      · rw [List.length_replicate]
        have := lv.1
        refine Nat.lt_of_lt_of_le (show i < 1000000 by omega) (by decide)
      · rw [upd_ne (ne_of_none e (s0.free nD))]
        exact s5 _ _ (s4 _ _ e)
      · rw [upd_same, repl_snoc]
    · rintro H3 ⟨s3, eD⟩
      refine ⟨D, List.replicate (min xs.length ys.length) true, rfl, .inl (.inl (by rw [List.map_replicate]; exact eD)), ?_⟩
      rw [all_repl]
      exact q _ s3
  | dict _ => cases dx
theorem ok_same {f : Addr} {fd : FuncData} (F : Fun K "_law_same" "_law_same" sSame f fd) (bf : Binds K fd ["_law_found", "_law_due"] []) (mf : mg "_law_same" = some (.ref f)) (B : Bl mg) : ∀ k : Nat, FnOk P w K mg base CX0 k f fd ["_law_found", "_law_due"] (spSame K k)
  | 0 => same_none
  | k + 1 => ok_same1 F (ok_same F bf mf B k) bf mf B
end
end GZ
namespace GM
theorem pow_pos' (n : Nat) : (0 : Int) < 2 ^ n := Int.pow_pos (by decide)
theorem pow_s (n : Nat) : (2 : Int) ^ (n + 1) = 2 ^ n * 2 := Int.pow_succ 2 n
theorem pow_le' {m n : Nat} (h : m ≤ n) : (2 : Int) ^ m ≤ 2 ^ n := by
  induction n with
  | zero =>
    have : m = 0 := by omega
    rw [this]
    exact Int.le_refl _
  | succ n ih =>
    by_cases e : m = n + 1
    · rw [e]
      exact Int.le_refl _
    · have := ih (by omega)
      have := pow_s n
      have := pow_pos' n
      omega
theorem pow_add' (m n : Nat) : (2 : Int) ^ (m + n) = 2 ^ m * 2 ^ n := Int.pow_add 2 m n
theorem bits_pow {x : Nat} {e : Nat} (h : x < 2 ^ e) : PySem.Builtin.Int.intBits (x : Int) ≤ e := PyProof.Rows.intBits_le (by rw [Int.natAbs_natCast]; exact h)
theorem bits_le_pow {x : Nat} {e : Nat} (h : 2 ^ e ≤ x) : e + 1 ≤ PySem.Builtin.Int.intBits (x : Int) := by
  have hx : x ≠ 0 := by
    have := Nat.two_pow_pos e
    omega
  unfold PySem.Builtin.Int.intBits
  rw [if_neg (by simpa using hx), Int.natAbs_natCast]
  have := (Nat.le_log2 hx).mpr h
  omega
theorem bits_unique {x e : Nat} (h1 : 2 ^ e ≤ x) (h2 : x < 2 ^ (e + 1)) : PySem.Builtin.Int.intBits (x : Int) = e + 1 := by
  have := bits_pow h2
  have := bits_le_pow h1
  omega
theorem bits_ex {x : Nat} (h : 0 < x) : ∃ e, 2 ^ e ≤ x ∧ x < 2 ^ (e + 1) := ⟨x.log2, Nat.log2_self_le (by omega), Nat.lt_log2_self⟩
theorem bits_half {x : Nat} (h : 0 < x) : PySem.Builtin.Int.intBits (x : Int) = PySem.Builtin.Int.intBits ((x / 2 : Nat) : Int) + 1 := by
  obtain ⟨e, h1, h2⟩ := bits_ex h
  rw [bits_unique h1 h2]
  cases e with
  | zero =>
    have : x = 1 := by
      simp at h1 h2
      omega
    rw [this]
    rfl
  | succ e =>
    rw [bits_unique (x := x / 2) (e := e)]
    · rw [Nat.pow_succ] at h1
      omega
    · rw [Nat.pow_succ] at h2
      omega
theorem bits_double {x m : Nat} (h : 0 < x) (hm : m ≤ 1) : PySem.Builtin.Int.intBits ((2 * x + m : Nat) : Int) = PySem.Builtin.Int.intBits (x : Int) + 1 := by
  rw [bits_half (x := 2 * x + m) (by omega), show (2 * x + m) / 2 = x by omega]
theorem shr_lt {x : Int} {a b : Nat} (h0 : 0 ≤ x) (h : x < 2 ^ (a + b)) : 0 ≤ x / 2 ^ b ∧ x / 2 ^ b < 2 ^ a := by
  have hb := pow_pos' b
  refine ⟨Int.ediv_nonneg h0 (by omega), ?_⟩
  rw [pow_add'] at h
  exact Int.ediv_lt_of_lt_mul hb h
end GM
namespace GM
/-! ### words: a sign, a scale of m bits, a tail of t bits -/
def bit (a : Int) (n : Nat) : Int := a / 2 ^ n % 2
def blr (a : Int) : Nat → List Int
  | 0 => []
  | n + 1 => bit a n :: blr a n
def wv : List Int → Int
  | [] => 0
  | d :: r => d * 2 ^ r.length + wv r
theorem blr_len (a : Int) : ∀ n, (blr a n).length = n
  | 0 => rfl
  | n + 1 => by
    show (blr a n).length + 1 = n + 1
    rw [blr_len a n]
theorem div_div (w : Int) (t m : Nat) : w / 2 ^ t / 2 ^ m = w / 2 ^ (t + m) := by
  rw [pow_add', Int.ediv_ediv_of_nonneg (Int.le_of_lt (pow_pos' t))]
theorem bit_div (w : Int) (t m : Nat) : bit (w / 2 ^ t) m = bit w (m + t) := by
  unfold bit
  rw [div_div, Nat.add_comm t m]
theorem blr_take (w : Int) (t : Nat) : ∀ m, (blr w (m + t)).take m = blr (w / 2 ^ t) m
  | 0 => rfl
  | m + 1 => by
    show (blr w ((m + 1) + t)).take (m + 1) = bit (w / 2 ^ t) m :: blr (w / 2 ^ t) m
    rw [show m + 1 + t = (m + t) + 1 by omega]
    show bit w (m + t) :: (blr w (m + t)).take m = _
    rw [blr_take w t m, bit_div]
theorem blr_drop (w : Int) (t : Nat) : ∀ m, (blr w (m + t)).drop m = blr w t
  | 0 => by rw [Nat.zero_add]; rfl
  | m + 1 => by
    rw [show m + 1 + t = (m + t) + 1 by omega]
    show (blr w (m + t)).drop m = _
    exact blr_drop w t m
theorem mod_step (a : Int) (n : Nat) : bit a n * 2 ^ n + a % 2 ^ n = a % 2 ^ (n + 1) := by
  unfold bit
  have hp := pow_pos' n
  have e1 := Int.emod_add_mul_ediv a (2 ^ n)
  have e2 := Int.emod_add_mul_ediv (a / 2 ^ n) 2
  have h1 := Int.emod_nonneg a (show (2 : Int) ^ n ≠ 0 by omega)
  have h2 := Int.emod_lt_of_pos a hp
  have e3 : 2 ^ n * (a / 2 ^ n) = a / 2 ^ n % 2 * 2 ^ n + a / 2 ^ n / 2 * (2 ^ n * 2) := by
    conv => lhs; rw [← e2]
    rw [Int.mul_add, Int.mul_comm (2 ^ n) (a / 2 ^ n % 2), ← Int.mul_assoc, Int.mul_comm (2 ^ n * 2) _]
  have key : (a / 2 ^ n % 2 * 2 ^ n + a % 2 ^ n) + a / 2 ^ n / 2 * 2 ^ (n + 1) = a := by
    rw [pow_s]
    omega
  have hb : 0 ≤ a / 2 ^ n % 2 * 2 ^ n + a % 2 ^ n ∧ a / 2 ^ n % 2 * 2 ^ n + a % 2 ^ n < 2 ^ (n + 1) := by
    rw [pow_s]
    have : a / 2 ^ n % 2 = 0 ∨ a / 2 ^ n % 2 = 1 := by omega
    rcases this with z | z <;> rw [z] <;> omega
  have em := Int.add_mul_emod_self_right (a / 2 ^ n % 2 * 2 ^ n + a % 2 ^ n) (a / 2 ^ n / 2) (2 ^ (n + 1))
  rw [key, Int.emod_eq_of_lt hb.1 hb.2] at em
  exact em.symm
theorem wv_blr (a : Int) : ∀ n, wv (blr a n) = a % 2 ^ n
  | 0 => by
    show (0 : Int) = a % 1
    omega
  | n + 1 => by
    show bit a n * 2 ^ (blr a n).length + wv (blr a n) = _
    rw [blr_len, wv_blr a n, ← mod_step a n]
theorem fold2 : ∀ (ds : List Int) (w : Int), ds.foldl (fun a b => a * 2 + b) w = w * 2 ^ ds.length + wv ds
  | [], w => by
    show w = w * 2 ^ 0 + 0
    rw [Int.pow_zero]
    omega
  | d :: r, w => by
    show r.foldl (fun a b => a * 2 + b) (w * 2 + d) = w * 2 ^ (r.length + 1) + (d * 2 ^ r.length + wv r)
    rw [fold2 r, pow_s, Int.add_mul, Int.mul_assoc, Int.mul_comm 2 (2 ^ r.length)]
    omega
theorem wv_ones : ∀ k, wv (List.replicate k 1) = 2 ^ k - 1
  | 0 => rfl
  | k + 1 => by
    rw [List.replicate_succ]
    show 1 * 2 ^ (List.replicate k (1 : Int)).length + wv (List.replicate k 1) = _
    rw [List.length_replicate, wv_ones k, pow_s]
    omega
/-- sign, scale, tail of a word -/
def sgn (m t : Nat) (w : Int) : Int := w / 2 ^ (m + t) % 2
def scl (m t : Nat) (w : Int) : Int := w / 2 ^ t % 2 ^ m
def tlp (t : Nat) (w : Int) : Int := w % 2 ^ t
theorem scl_tlp (m t : Nat) (w : Int) : scl m t w * 2 ^ t + tlp t w = w % 2 ^ (m + t) := by
  induction m with
  | zero =>
    unfold scl tlp
    rw [Int.pow_zero, Int.emod_one, Int.zero_mul, Int.zero_add, Nat.zero_add]
  | succ m ih =>
    have e := mod_step (w / 2 ^ t) m
    have e2 := mod_step w (m + t)
    rw [bit_div] at e
    unfold scl at ih ⊢
    rw [← e, Int.add_mul, show m + 1 + t = (m + t) + 1 by omega, ← e2, ← ih, Int.mul_assoc, ← pow_add']
    omega
theorem sgn_01 {m t : Nat} {w : Int} : sgn m t w = 0 ∨ sgn m t w = 1 := by
  unfold sgn
  omega
theorem word_eq {m t : Nat} {w : Int} (h0 : 0 ≤ w) (h1 : w < 2 ^ (1 + m + t)) : sgn m t w * 2 ^ (m + t) + w % 2 ^ (m + t) = w := by
  have e := mod_step w (m + t)
  rw [show m + t + 1 = 1 + m + t by omega, Int.emod_eq_of_lt h0 h1] at e
  exact e
theorem scl_nn (m t : Nat) (w : Int) : 0 ≤ scl m t w ∧ scl m t w < 2 ^ m := ⟨Int.emod_nonneg _ (by have := pow_pos' m; omega), Int.emod_lt_of_pos _ (pow_pos' m)⟩
theorem tlp_nn (t : Nat) (w : Int) : 0 ≤ tlp t w ∧ tlp t w < 2 ^ t := ⟨Int.emod_nonneg _ (by have := pow_pos' t; omega), Int.emod_lt_of_pos _ (pow_pos' t)⟩
/-- with the other sign -/
def trn (m t : Nat) (w : Int) : Int := (1 - sgn m t w) * 2 ^ (m + t) + w % 2 ^ (m + t)
theorem mk_parts {m t : Nat} {s r : Int} (hs : s = 0 ∨ s = 1) (h0 : 0 ≤ r) (h1 : r < 2 ^ (m + t)) : 0 ≤ s * 2 ^ (m + t) + r ∧ s * 2 ^ (m + t) + r < 2 ^ (1 + m + t) ∧ sgn m t (s * 2 ^ (m + t) + r) = s ∧ (s * 2 ^ (m + t) + r) % 2 ^ (m + t) = r := by
  have hp := pow_pos' (m + t)
  have e : (2 : Int) ^ (1 + m + t) = 2 ^ (m + t) * 2 := by rw [← pow_s]; congr 1; omega
  have em : (s * 2 ^ (m + t) + r) % 2 ^ (m + t) = r := by
    rw [Int.add_comm, Int.add_mul_emod_self_right, Int.emod_eq_of_lt h0 h1]
  have ed : (s * 2 ^ (m + t) + r) / 2 ^ (m + t) = s := by
    rw [Int.add_comm, Int.add_mul_ediv_right _ _ (by omega), Int.ediv_eq_zero_of_lt h0 h1, Int.zero_add]
  refine ⟨?_, ?_, ?_, em⟩
  · rcases hs with z | z <;> subst z <;> omega
  · rw [e]
    rcases hs with z | z <;> subst z <;> omega
  · unfold sgn
    rw [ed]
    omega
theorem trn_trn {m t : Nat} {w : Int} (h0 : 0 ≤ w) (h1 : w < 2 ^ (1 + m + t)) : trn m t (trn m t w) = w ∧ 0 ≤ trn m t w ∧ trn m t w < 2 ^ (1 + m + t) := by
  have hp := pow_pos' (m + t)
  have hs : 1 - sgn m t w = 0 ∨ 1 - sgn m t w = 1 := by
    have := sgn_01 (m := m) (t := t) (w := w)
    omega
  obtain ⟨a, b, c, d⟩ := mk_parts (m := m) (t := t) hs (Int.emod_nonneg w (show (2 : Int) ^ (m + t) ≠ 0 by omega)) (Int.emod_lt_of_pos w hp)
  refine ⟨?_, a, b⟩
  show (1 - sgn m t (trn m t w)) * 2 ^ (m + t) + trn m t w % 2 ^ (m + t) = w
  rw [show sgn m t (trn m t w) = 1 - sgn m t w from c, show trn m t w % 2 ^ (m + t) = w % 2 ^ (m + t) from d, show 1 - (1 - sgn m t w) = sgn m t w by omega]
  exact word_eq h0 h1
end GM
namespace GZ
open PySem PySem.Spec PyProof.Rows L2
end GZ
namespace PySem.F
theorem store_KeyError : StoreFacts "KeyError" [.type "KeyError", .type "LookupError", .type "Exception", .type "BaseException", .type "object"] "object.__setattr__" "object" :=
  ⟨by kernel_rfl, .of (owner := "object") (n := "__setattr__") (by rw [typeLookup_type, builtinLookup_eq_fast]; kernel_rfl) (by decide +kernel) (by decide +kernel) (by decide +kernel) (by first | exact .inl (by decide +kernel) | exact .inr (by decide +kernel)) (by rw [isSubtype_type]; kernel_rfl),
    entry_object_sa, by decide +kernel, by decide +kernel, by decide +kernel, fun _ _ _ => (by unfold argsOk; kernel_rfl), fun _ => by kernel_rfl⟩
end PySem.F
namespace PySem
namespace WhX
open PySem.W PySem.Calls PyProof.Rows PySem.HandSPX
/-! ### an own error is made whose class stands over one that has no __new__ of its own (KeyError: LookupError's) -/
section
variable {prog : Program} {w : World} {A : Around} {E : Value → Shared → Prop} {R : Result → Shared → Prop} {hp : Heap} {g : Array GenState} {dr : Drawn} {t : Nat} {os : OsState}
variable {nm q : Str} {C N fI : Addr} {bs up upB : List Value} {hd : Bool} {sn : List Str} {sub : List Value} {ab : Bool} {col : Option Bool} {dd : Option Addr} {k0 k1 k2 k3 k5 : Option Value} {B newId initId : String} {more : List Value}
theorem newChecked {M : Model} (F : ExcBaseFacts B newId initId upB) (inB : up.contains (.type B) = true) {Q : Unit → Shared → Prop}
    (oc : hp.get? C = some (excClassObj nm q C N bs up hd sn sub ab col dd k0 k1 k2 k3 k5 newId)) (z : Q () ⟨hp, g, dr, t, os⟩) : wpAny M A (checkBuiltinCall newId ⟨.ref C :: more, []⟩) Q E ⟨hp, g, dr, t, os⟩ := by
  have isB : (Value.ref C :: up).contains (.type B) = true := by rw [List.contains_cons, inB, Bool.or_true]
  have star := F.noStar
  simp only [checkBuiltinCall, F.newKind, F.newSplit, F.newRow]
  repeat (first | refine wpAny_loadPart_at oc ?_ | (refine wpAny_isSubtype_exc oc ?_; rw [isB]) | refine wpAny_staticBase_exc oc ?_ | refine wpAny_madeBy_exc oc ?_ | simp only [bne_self_eq_false, Bool.false_eq_true, if_false] | wp_step)
  exact z
theorem newMade (F : ExcBaseFacts B newId initId upB) (inB : up.contains (.type B) = true) (noA : up.contains (.type "AttributeError") = false) (noN : up.contains (.type "NameError") = false)
    (oc : hp.get? C = some (excClassObj nm q C N bs up hd sn sub ab col dd k0 k1 k2 k3 k5 newId)) (short : more.length ≤ sizeLine)
    (z : R (.ok (.ret (.ref (hp.objs.size + 1)))) ⟨(hp.push (kdv_tup more)).push (excO C hp.objs.size), g, dr, t, os⟩) : codeAny (model prog w) A (.builtin newId ⟨.ref C :: more, []⟩) R ⟨hp, g, dr, t, os⟩ := by
  have ends := F.ends
  have isB : (Value.ref C :: up).contains (.type B) = true := by rw [List.contains_cons, inB, Bool.or_true]
  have isA : (Value.ref C :: up).contains (.type "AttributeError") = false := by rw [List.contains_cons, noA] <;> rfl
  have isN : (Value.ref C :: up).contains (.type "NameError") = false := by rw [List.contains_cons, noN] <;> rfl
  refine codeAny_builtinAt F.entry ?_; unfold Builtin.«BaseException.__new__»; refine wpAt_bind ?_
  show wpAt _ _ _ (stack >>= _) _ _ _
  refine wpAt_bind (wpAt_stack fun p below => wpAt_of_wpAny ?_); wp_walk; refine wpAt_of_wpAny ?_; rw [F.owner]
  repeat (first | with_reducible refine wpAny_madeHere_exc F.canon oc ?_ | with_reducible refine wpAny_loadPart_at oc ?_ | (with_reducible refine wpAny_isSubtype_exc oc ?_; first | rw [isB] | rw [isA] | rw [isN]) | wp_step)
  show R _ _
  rw [Heap.size_push]; exact z
theorem typeCalled (F : ExcBaseFacts B newId initId upB) (inB : up.contains (.type B) = true) (noA : up.contains (.type "AttributeError") = false) (noN : up.contains (.type "NameError") = false) {Q : Fin → Shared → Prop}
    (oc : hp.get? C = some (excClassObj nm q C N bs up hd sn sub ab col dd k0 k1 k2 k3 k5 newId)) (li : Looks (model prog w) hp (typeLookup (.ref C) "__init__") (some (.ref fI))) (lb : ∀ me, Looks (model prog w) hp (bindSpecial (.ref fI) me) (.ref fI, [me])) (short : more.length ≤ sizeLine)
    (z : codeAny (model prog w) A (.call (.ref fI) ⟨.ref (hp.objs.size + 1) :: more, []⟩) (fun r s' => match r with | .ok (.ret v) => v = .none ∧ Q (.done (.ret (.ref (hp.objs.size + 1)))) s' | .ok _ => False | .error e => E e s') ⟨(hp.push (kdv_tup more)).push (excO C hp.objs.size), g, dr, t, os⟩) :
    wpAny (model prog w) A (Builtin.«type.__call__» ⟨.ref C :: more, []⟩) Q E ⟨hp, g, dr, t, os⟩ := by
  repeat (first | with_reducible refine wpAny_loadPart_at oc ?_ | with_reducible refine wpAny_madeBy_exc oc ?_ | wp_step)
  refine codeAny_call_builtin_code (Code.quiet_builtin _ F.quiet) (newChecked F inB oc (newMade F inB noA noN oc short ?_))
  show wpAny _ _ _ _ _ _
  have grow : ∀ b o, hp.get? b = some o → ((hp.push (kdv_tup more)).push (excO C hp.objs.size)).get? b = some o := fun b o e => Heap.get?_push_of_some _ (Heap.get?_push_of_some _ e)
  have oc1 := grow _ _ oc
  have oe : ((hp.push (kdv_tup more)).push (excO C hp.objs.size)).get? (hp.objs.size + 1) = some (excO C hp.objs.size) := by heap_get
  have own : (Value.ref C :: up).contains (.ref C) = true := by simp
  have li1 := li.keeps grow
  have lb1 := (lb (.ref (hp.objs.size + 1))).keeps grow
  unfold isInstance
  repeat (first | with_reducible refine wpAny_loadPart_at oe ?_ | (with_reducible refine wpAny_isSubtype_exc oc1 ?_; rw [own]) | wp_step)
  show wpAny _ _ (typeLookup (.ref C) _) _ _ _
  refine li1.at (wpAny_holding (wpAny_bind (lb1.at (wpAny_bind (wpAny_call (codeAny_mono z fun r s' y => ?_))))))
  rcases r with e | (v | _ | _ | _) <;> first | exact y | exact y.elim | skip
  obtain ⟨rfl, y⟩ := y
  first
    | exact wpAny_pure (wpAny_pure y)
    | (wp_walk; exact y)
theorem ownCalled (F : ExcBaseFacts B newId initId upB) (inB : up.contains (.type B) = true) (noA : up.contains (.type "AttributeError") = false) (noN : up.contains (.type "NameError") = false)
    (oc : hp.get? C = some (excClassObj nm q C N bs up hd sn sub ab col dd k0 k1 k2 k3 k5 newId)) (li : Looks (model prog w) hp (typeLookup (.ref C) "__init__") (some (.ref fI))) (lb : ∀ me, Looks (model prog w) hp (bindSpecial (.ref fI) me) (.ref fI, [me])) (short : more.length ≤ sizeLine)
    (z : codeAny (model prog w) (A.under (.builtin "type.__call__" ⟨.ref C :: more, []⟩)) (.call (.ref fI) ⟨.ref (hp.objs.size + 1) :: more, []⟩) (InitBack (hp.objs.size + 1) R) ⟨(hp.push (kdv_tup more)).push (excO C hp.objs.size), g, dr, t, os⟩) :
    codeAny (model prog w) A (.call (.ref C) ⟨more, []⟩) R ⟨hp, g, dr, t, os⟩ := by
  have f1 := tc_lookup
  have f2 := tc_bind (.ref C)
  have isT : (⟨hp, g, dr, t, os⟩ : Shared).TypeIs (.ref C) "type" := ⟨_, oc, rfl⟩
  refine codeAny_of_tree ?_
  show wpAny _ _ (callAny (.ref C) _) _ _ _
  repeat (any_goals (first | assumption | with_reducible refine wpAny_loadPart_at oc ?_ | wp_step))
  refine ⟨rfl, codeAny_call_builtin_at (Code.quiet_builtin _ (by decide +kernel)) entry_typeCall (wpAny_check_type_call_sub oc (typeCalled F inB noA noN oc li lb short (codeAny_mono z fun r s' y => ?_)))⟩
  rcases r with e | (v | _ | _ | _) <;> exact y
end
end WhX
end PySem
namespace PySem
namespace WhX
open PySem.W PySem.Calls PyProof.Rows PySem.HandSPX
/-! ### an own error over any base, whose __init__ keeps its one argument as what -/
def whA (p1 p2 : Pos) : Arguments := { posonlyargs := [], args := [{ arg := "self", annotation := none, pos := p1 }, { arg := "what", annotation := none, pos := p2 }], vararg := none, kwonlyargs := [], kw_defaults := [], kwarg := none, defaults := [] }
def whB (q1 q2 q3 q4 : Pos) : List Stmt := [.Assign [.Attribute (.Name "self" q1) "what" q2] (.Name "what" q3) q4]
def whS : Scope := { kind := .function, names := [(PySem.Str.ofString "self", .local), (PySem.Str.ofString "what", .local)], isGenerator := false, isCoroutine := false, more := [] }
/-- what the written part says of an error's class, at C -/
structure ErrC (K : Frag) (C : Addr) : Prop where
  ga : findIn K (.ref C) "__getattribute__" = some (some (.builtin "BaseException.__getattribute__"))
  gg : findIn K (.ref C) "__getattr__" = some none
  noN : findIn K (.ref C) "what" = some none
  kC : keepIn K (.ref C) = true
  exC : subIn K (.ref C) (.type "BaseException") = some true
  tyC : typeIn K (.ref C) = some (.type "type")
  hdC : hasDictIn K C = true
  cl : findIn K (.ref C) "__class__" = some (some (.builtin "object.__class__"))
  sp : specialIn K (.builtin "object.__class__") "__get__" = some (some (.builtin "getset_descriptor.__get__"))
  tk : takesIn K (.builtin "object.__class__") = some true
  mr : mroIn K C (.type "object") = some true
/-- and of one that is raised, with its __init__ at fI -/
structure ErrR (K : Frag) (C fI : Addr) : Prop extends ErrC K C where
  cls : ∃ (B newId initId : String) (bmB bm : List Value) (nm q : Str) (N : Addr) (bs : List Value) (sn : List Str) (sub : List Value) (ab : Bool) (col : Option Bool) (dd : Option Addr) (k0 k1 k2 k3 k5 : Option Value),
    ExcBaseFacts B newId initId bmB ∧ bm.contains (.type B) = true ∧ bm.contains (.type "AttributeError") = false ∧ bm.contains (.type "NameError") = false ∧ K.lookup C = some (excClassObj nm q C N bs bm true sn sub ab col dd k0 k1 k2 k3 k5 newId) ∧ bm.contains (.type "object") = true ∧ ∀ self : Value, refuseLoop self "__setattr__" bm = pure ()
  sa : findIn K (.ref C) "__setattr__" = some (some (.builtin "object.__setattr__"))
  iC : findIn K (.ref C) "__init__" = some (some (.ref fI))
  tC : typeIn K (.ref fI) = some (.type "function")
  fn : ∃ (qual : Str) (oc : Value) (od : Option Addr) (doc pm : Value) (an : Option Addr) (cdv ct : Value) (osl : Array (Option Value)) (p1 p2 q1 q2 q3 q4 : Pos),
    K.lookup fI = some ⟨oc, od, .func (fnOf "__init__" qual (whA p1 p2) (whB q1 q2 q3 q4) whS .none .none doc pm an cdv ct), osl⟩ ∧ codeIn K cdv qual = true
section
open Builtin Builtin.ObjectAttr
variable {prog : Program} {w : World} {A : Around} {E : Value → Shared → Prop} {R : Result → Shared → Prop} {hp : Heap} {g : Array GenState} {dr : Drawn} {t : Nat} {os : OsState}
/-- the first field that is stored in a new error -/
theorem osaW {K : Frag} {nam : Str} {tk : Tok} {vv : Value} {x C : Addr} {fv : Array Value} {cd : ClassData} (X : K.In hp) (hx : hp.get? x = some { cls := .ref C, data := .fields fv }) (hcd : clsIn K C = some cd) (hob : cd.mro.contains (.type "object") = true) (hne : cd.mro.isEmpty = false)
    (hps : ∀ self : Value, refuseLoop self "__setattr__" cd.mro = pure ()) (hh : cd.hasDict = true) (ha : findIn K (.ref C) nam = some none)
    (hq : ∀ h' tk' dx, (∀ b o, b ≠ x → hp.get? b = some o → h'.get? b = some o) → hp.objs.size ≤ dx → dx ≠ x → h'.get? x = some { cls := .ref C, dict := some dx, data := .fields fv } → h'.Ns1 dx (fun y => if y = nam then some vv else none) → R (.ok (.ret .none)) ⟨h', g, dr, tk', os⟩) :
    codeAny (model prog w) A (.call (.builtin "object.__setattr__") ⟨[.ref x, .str nam tk, vv], []⟩) R ⟨hp, g, dr, t, os⟩ := by
  have IA : InstAt hp x { cls := .ref C, data := .fields fv } C none := ⟨hx, rfl, rfl, trivial⟩
  have nx : x ≠ hp.objs.size := Nat.ne_of_lt (Heap.lt_size hx)
  have isO : Looks (model prog w) hp (isInstance (.ref x) (.type "object")) true := IA.type.andThen (looks_mroIn X (by unfold mroIn; rw [hcd, Option.bind_some, if_neg (by rw [hne]; decide), hob]))
  have lc : Looks (model prog w) hp (classData C) cd := looks_clsIn X hcd
  refine codeAny_call_builtin F.store_object.slot.plain F.store_object.entry (@check_slot (model prog w) _ _ ⟨hp, g, dr, t, os⟩ "object.__setattr__" "object" "__setattr__" (.ref x) [.str nam tk, vv] [] _ F.store_object.kind F.store_object.split isO (F.store_object.args (.ref x) (.str nam tk) vv) ?_)
  have lm : Looks (model prog w) hp (mroOf (.ref C)) cd.mro := lc.andThen .now
  have ln : Looks (model prog w) hp (storeTaker? none) none := .now
  rw [osa_eq, refuse_eq]
  refine wpAny_bind (wpAny_bind (IA.type.at (wpAny_bind (lm.at ?_))))
  rw [hps]
  refine wpAny_pure (wpAny_bind (IA.type.at (wpAny_bind ((looks_findIn X ha).at (wpAny_bind (ln.at ?_))))))
  show wpAny _ _ (storeInOwnDict (.ref x) (.ref C) (.str nam tk) nam vv false) _ _ _
  obtain ⟨c1, c2, c3, c4, c5, c6, c7, c8, c9, c10, c11⟩ := cd
  dsimp only at hh
  subst hh
  unfold storeInOwnDict ownDictForStores
  repeat (first | with_reducible refine store_in_new ?_ ?_ | with_reducible refine wpAny_loadPart_at hx ?_ | with_reducible refine lc.at ?_ | wp_step)
  · refine ⟨_, #[], _, (Heap.get?_update_ne _ _ _ _ nx.symm).trans (Heap.get?_push_at rfl rfl), rfl, ?_, fun _ => rfl⟩
    exact fun e he => absurd he (by simp)
  · intro h' tk' hn' sb
    have hx1 : (hp.push { cls := .type "dict", data := .dict #[] }).get? x = some { cls := .ref C, data := .fields fv } := Heap.get?_push_of_some _ hx
    refine hq h' tk' hp.objs.size (fun b o nb eb => ?_) (Nat.le_refl _) nx.symm ((sb.2 x nx).trans (Heap.get?_update_self _ hx1 rfl)) hn'
    rw [sb.2 b (Nat.ne_of_lt (Heap.lt_size eb)), Heap.get?_update_ne _ _ _ _ nb]
    exact Heap.get?_push_of_some _ eb
end
section
variable {prog : Program} {w : World} {A : Around} {R : Result → Shared → Prop} {s : Shared} {K : Frag} {C fI : Addr}
theorem wone (v : Value) : [v].length ≤ sizeLine := by
  rw [sizeLine_eq]
  exact Nat.le_of_ble_eq_true rfl
theorem wld {M : Model} {u : Shared} {qn : Str} {sc : Scope} {L f : Addr} {cd : Value} {mm : Str → Option Value} {y : Str} {pos : Pos} {vv : Value} {Q : Value → Shared → Prop} {B : Around} {E : Value → Shared → Prop} (hn : u.heap.Ns L mm) (hv : mm y = some vv) (q : Q vv u) (hk : sc.kind = .function := by rfl)
    (hl : (envOfC qn sc L f cd).kindOf y = some .local := by rfl) (hd : (y == ("__debug__" : Str)) = false := by decide) : wpAny M B (eval (.Name y pos) (envOfC qn sc L f cd)) Q E u :=
  wpAny_Name (wpAny_loadName_local hk hl hn hv q) hd
/-- the class is called: a new error at e, its dict at dx holds what -/
theorem whMade (T : ErrR K C fI) {vv : Value} (X : K.In s.heap) (nl : s.heap.NoLimit) (room : A.depth + 1 < recursionLimit)
    (hq : ∀ (h' : Heap) (tk : Nat) (e dx : Addr), (∀ b o, s.heap.get? b = some o → h'.get? b = some o) → s.heap.objs.size ≤ e → s.heap.objs.size ≤ dx → dx ≠ e →
      (∃ t1 : Addr, h'.get? e = some ({ cls := .ref C, dict := some dx, data := .fields #[.ref t1, .none, .none, .none, .bool false, .none] } : Obj)) → h'.Ns1 dx (fun y => if y = "what" then some vv else none) → R (.ok (.ret (.ref e))) { s with heap := h', toks := tk }) :
    codeAny (model prog w) A (.call (.ref C) ⟨[vv], []⟩) R s := by
  obtain ⟨Bn, newId, initId, bmB, bm, nm, q, N, bs, sn, sub, ab, col, dd, k0, k1, k2, k3, k5, FB, hbB, hbA, hbN, hC, hob, hps⟩ := T.cls
  obtain ⟨qual, oc, od, doc, pm, an, cdv, ct, osl, p1, p2, q1, q2, q3, q4, ho, hcd⟩ := T.fn
  have hcl : clsIn K C = some { name := nm, bases := bs, mro := .ref C :: bm, ns := N, qualname := q, hasDict := true, slotNames := sn, subclasses := sub, abstract := ab, collection := col, hasDel := false } := by
    unfold clsIn
    rw [hC] <;> rfl
  obtain ⟨hp, g, dr, tk0, os⟩ := s
  have grow : ∀ b o, hp.get? b = some o → ((hp.push (kdv_tup [vv])).push (excO C hp.objs.size)).get? b = some o := fun b o z => Heap.get?_push_of_some _ (Heap.get?_push_of_some _ z)
  have isE : ((hp.push (kdv_tup [vv])).push (excO C hp.objs.size)).get? (hp.objs.size + 1) = some (excO C hp.objs.size) := by heap_get
  refine ownCalled FB hbB hbA hbN (X _ _ hC) (looks_findIn X T.iC) (fun self => bind_fn X self T.tC) (wone vv) ?_
  -- __init__ runs
  refine Att.call_fn (binds := [("self", .ref (hp.objs.size + 1)), ("what", vv)]) (X.keeps grow) (nl.keeps grow) ho hcd room (BindsTo.of_eq (by first | rfl | with_unfolding_all rfl)) (by first | rfl | decide | with_unfolding_all rfl) (fun s1 IC => ?_) rfl rfl rfl
  obtain ⟨h1, tk1, rfl⟩ := IC.toInCall.same
  have up1 : ∀ b o, ((hp.push (kdv_tup [vv])).push (excO C hp.objs.size)).get? b = some o → h1.get? b = some o := IC.toInCall.keep
  have ns1 := IC.toInCall.ns
  have X1 : K.In h1 := (X.keeps grow).keeps up1
  have isE1 := up1 _ _ isE
  have big : hp.objs.size + 1 + 1 ≤ h1.objs.size := by
    have z : ((hp.push (kdv_tup [vv])).push (excO C hp.objs.size)).objs.size < h1.objs.size := ns1.lt
    rw [Heap.size_push, Heap.size_push] at z
    exact Nat.le_of_lt z
  show wpAny _ _ (execs _ _) _ _ _
  refine wpAny_execs_cons (plainObj_wpAny_Assign_Attribute ?_)
  refine wld (vv := vv) ns1 (by first | rfl | with_unfolding_all rfl | kernel_rfl) ?_
  refine wld (vv := .ref (hp.objs.size + 1)) ns1 (by first | rfl | with_unfolding_all rfl | kernel_rfl) ?_
  refine set_plain X1 (ox := excO C hp.objs.size) (od := none) ⟨isE1, rfl, rfl, trivial⟩ T.sa ?_
  refine osaW X1 isE1 hcl (by rw [List.contains_cons, hob, Bool.or_true]) rfl (fun self => by rw [refuseLoop_ref]; exact hps self) rfl T.noN fun h3 tk3 dx up3 dbig dne isE3 ns3 => ?_
  show wpAny _ _ (execs _ _) _ _ _
  refine wpAny_execs_nil ⟨rfl, ?_⟩
  refine hq h3 tk3 (hp.objs.size + 1) dx (fun b o z => ?_) (Nat.le_succ _) ?_ dne ⟨_, isE3⟩ ns3
  · exact up3 b o (Nat.ne_of_lt (Nat.lt_succ_of_lt (Heap.lt_size z))) (up1 b o (grow b o z))
  have z : h1.objs.size ≤ dx := dbig
  show hp.objs.size ≤ dx
  omega
end
end WhX
end PySem
namespace L2
open PySem PySem.Spec PyProof.Rows
/-- C(e), C an error's class -/
def tMkW (C : Addr) (ta : TA) : St → Hp → XK → Prop := fun σ H Q => ta σ H fun vs H1 => ∃ v, vs = [v] ∧ ∀ d, H1 d = none → Q (.ref C) (some d) (upd H1 d (.xd [(("what" : Str), v)]))
theorem relW {v : V} {u : Value} (r : RelV v u) (f : Str) : RelO (List.lookup f [(("what" : Str), v)]) (if f = "what" then some u else none) := by
  by_cases c : f = "what"
  · subst c
    rw [if_pos rfl, show List.lookup ("what" : Str) [(("what" : Str), v)] = some v by simp [List.lookup]]
    exact r
  · have c2 : (f == ("what" : Str)) = false := by simpa using c
    rw [if_neg c, show List.lookup f [(("what" : Str), v)] = none by simp [List.lookup, c2]]
    trivial
theorem pmk_what {X : Cx} {C fI : Addr} {x : Str} {a : Expr} {ta : TA} {p pos : Pos} {k : Nat} (T : PySem.WhX.ErrR X.K C fI) (hr : Room k X.A) (hk : 0 < k) (gC : X.mg x = some (.ref C)) (hg : Gl X x) (ha : PA X [a] ta) (hdb : (x == ("__debug__" : Str)) = false := by decide)
    (he : starEach (a :: []) X.env = (false, eval a X.env) :: starEach [] X.env := by rfl) (hpl : (backTo pos (starEach [] X.env)).any (·.1) = false := by rfl) : PMk X (.Call (.Name x p) [a] [] pos) (tMkW C ta) := by
  intro pz u0 τ G0 Q I h
  refine wpAny_Call_Name_kw (ld_glob I hg gC ?_ hdb)
  refine PySem.W.callWith_K (h₀ := X.base) I.ok.mod.kin T.kC (thn (ha.run pos pz u0 τ G0 _ I h) fun us s1 hh => ?_) he hpl
  obtain ⟨vs, H1, I1, r1, v, rfl, q1⟩ := hh
  refine ⟨I1.kIn, ?_⟩
  match us, r1 with
  | [vv], .cons rv .nil =>
    show wpAny _ _ (call (.ref C) [vv]) _ _ _
    have nl := I1.nolimit
    obtain ⟨hp, g, dr, tk, os⟩ := s1
    refine wpAny_call (PySem.WhX.whMade T I1.kIn nl (by have := hr.dp; omega) fun h' tk' e dx old ebig dbig dne ise ns => ?_)
    show MkP X pz τ Q (.ref e) ⟨h', g, dr, tk', os⟩
    obtain ⟨t1, ise⟩ := ise
    obtain ⟨G', g1, g2⟩ := restrict h' fun b => decide (b ≠ e)
    have gk : ∀ b, b ≠ e → G'.get? b = h'.get? b := fun b nb => g1 b (decide_eq_true nb)
    have ge : G'.get? e = none := g2 e (decide_eq_false fun z => z rfl)
    have oldG : ∀ b o, hp.get? b = some o → G'.get? b = some o := fun b o z => by
      rw [gk b (Nat.ne_of_lt (Nat.lt_of_lt_of_le (Heap.lt_size z) ebig))]
      exact old b o z
    have okd : ObjOk X.prog X.w (upd H1 dx (.xd [(("what" : Str), v)])) G' dx (.xd [(("what" : Str), v)]) := ⟨_, ns.at (fun o z => (gk dx dne).trans z), fun f => relW rv f⟩
    have J : Inv X pz τ (upd H1 dx (.xd [(("what" : Str), v)])) ⟨G', g, dr, tk', os⟩ := I1.laid (t' := tk') oldG dbig okd
    refine ⟨e, _, _, ⟨G', g, dr, tk', os⟩, _, .ref C, some dx, rfl, J, fun b o z => ?_, ge, ise, ⟨rfl, rfl⟩, rfl, rfl, ?_, rfl, I1.bare, raises_own T.exC T.tyC, q1 dx (I1.hok.fresh dbig)⟩
    · by_cases nb : b = e
      · have z' : G'.get? b = some o := z
        rw [nb, ge] at z'
        cases z'
      · exact (gk b nb).symm.trans z
    · rw [upd_ne (Ne.symm dne)]
      exact I1.hok.fresh ebig
end L2
namespace L2
open PySem PySem.Spec PyProof.Rows
/-! ### an error that was caught and is kept behind the try -/
/-- at a: an error of the class cls, its dict d -/
def Exk (a : Addr) (cls : Value) (d : Option Addr) : HO := .ext fun h => ∃ (oe : Obj) (vs : Array Value), h.get? a = some oe ∧ Zc cls d oe ∧ oe.data = .fields vs
theorem exk_ok {P : Program} {w : World} {H : Hp} {h : Heap} {a : Addr} {cls : Value} {d : Option Addr} {oe : Obj} {vs : Array Value} (e : h.get? a = some oe) (z : Zc cls d oe) (dd : oe.data = .fields vs) : ObjOk P w H h a (Exk a cls d) :=
  ⟨⟨oe, vs, e, z, dd⟩, ⟨oe, e⟩, fun _ _ ⟨o1, v1, e1, r⟩ k => ⟨o1, v1, k o1 e1, r⟩⟩
/-- a thing that was not there when the def began is told of -/
theorem Inv.track {X : Cx} {pz : List (Addr × Obj)} {τ : St} {H : Hp} {u0 : Shared} {a : Addr} {o : HO} (I : Inv X pz τ H u0) (na : H a = none) (n0 : X.s_0.heap.get? a = none) (nL : a ≠ X.env.locals) (nC : ∀ x c, X.env.cells.lookup x = some c → c ≠ a)
    (nP : ∀ p ∈ X.pn ++ pz, p.1 ≠ a) (new : ObjOk X.prog X.w (upd H a o) u0.heap a o) : Inv X pz τ (upd H a o) u0 where
  ok := I.ok
  os := I.os
  bare := I.bare
  base := {
    keep := I.base.keep
    slot := I.base.slot
    free := fun b ob q n hx => by
      rw [upd_ne (fun z => by rw [z, n0] at q; cases q)]
      exact I.base.free b ob q n hx
    there := I.base.there
    tups := fun b xs q => by
      have q2 := I.base.tups b xs q
      rw [upd_ne (ne_of_none q2 na)]
      exact q2
    frzs := fun b ob v q => by
      have q2 := I.base.frzs b ob v q
      rw [upd_ne (ne_of_none q2 na)]
      exact q2
    tbls := fun b ps q => by
      obtain ⟨more, q2⟩ := I.base.tbls b ps q
      exact ⟨more, by rw [upd_ne (ne_of_none q2 na)]; exact q2⟩ }
  loc := I.loc
  cell := I.cell
  free := by
    rw [upd_ne nL.symm]
    exact I.free
  freeC := fun x c e => by
    rw [upd_ne (nC x c e)]
    exact I.freeC x c e
  pin := fun p hp => by
    obtain ⟨z1, z2, z3⟩ := I.pin p hp
    refine ⟨z1, ?_, z3⟩
    rw [upd_ne (nP p hp)]
    exact z2
  hok := fun b ob e => by
    by_cases nb : b = a
    · subst nb
      rw [upd_same] at e
      cases e
      exact new
    · rw [upd_ne nb] at e
      exact (I.hok b ob e).stay (fun _ _ _ z => z) (fun c z => by rw [upd_ne (ne_of_none z na)]; exact z) (fun c xs z => by rw [upd_ne (ne_of_none z na)]; exact z)
  len := I.len
/-- what is wished of an error of the body: it is caught; the suite runs; the error is told of behind it -/
def wKp (K : PySem.W.Frag) (c : Value) (i : Nat) (ts : Addr → Value → Option Addr → TS) (D : Ends) : WX := fun cls d τ H => PySem.W.exmOne K cls c = some true ∧
  ∀ a, H a = none → ts a cls d { nx := fun τ' H' => D.nx (τ'.set i none) (upd H' a (Exk a cls d)), rt := fun _ _ => False, bk := fun _ _ => False, ct := fun _ _ => False } (τ.set i (some (.ref a))) H
theorem ps_try_keep {X : Cx} {x n : Str} {c : Value} {i : Nat} {body suite : List Stmt} {b0 : Stmt} {np pos pos' : Pos} {tb : WX → TS} {ts : Addr → Value → Option Addr → TS} (hs : X.stack = X.env :: X.outer) (hf : X.env.frame = some X.env.locals) (hex : X.ex = []) (hN : X.N.Nodup) (hi : X.N[i]? = some n)
    (hln : X.env.kindOf n = some .local) (hc : Names X x c)
    (hb : ∀ (W : WX) (pn : List (Addr × Obj)) (xe : Value → Shared → Prop), Takes (X.tr pn xe) W → PassesOwn (model X.prog X.w) X.A X.env xe → PSs (X.tr pn xe) body (tb W))
    (hsu : ∀ (a : Addr) (oe : Obj) (cls : Value) (d : Option Addr) (pn : List (Addr × Obj)), Zc cls d oe → (∃ vs, oe.data = .fields vs) → PSs (X.suite a ((a, oe) :: pn)) (b0 :: suite) (ts a cls d)) :
    PS X (.Try body [.ExceptHandler (some (.Name x np)) (some n) (b0 :: suite) pos'] [] [] pos) (fun D τ H => tb (wKp X.K c i ts D) D τ H) := by
  constructor
  intro pz u0 τ H D I h
  have ok := I.ok
  have frA : X.A.frames = some (X.env :: X.outer) := ok.frames.trans (congrArg some hs)
  refine wpAny_Try_except (wpAny_mono ((hb (wKp X.K c i ts D) (X.pn ++ pz) _ (fun u s1 xx => ?caught) PassesOwn.looking).run [] u0 τ H D (I.toTry _) h) (fun f s1 z => ?fine) (fun _ _ z => z))
  case fine =>
    cases f with
    | next =>
      obtain ⟨τ1, H1, J1, q1⟩ := z
      exact wpAny_execs_nil ⟨τ1, H1, J1.ofTry ok, q1⟩
    | brk =>
      obtain ⟨τ1, H1, J1, q1⟩ := z
      exact ⟨τ1, H1, J1.ofTry ok, q1⟩
    | cont =>
      obtain ⟨τ1, H1, J1, q1⟩ := z
      exact ⟨τ1, H1, J1.ofTry ok, q1⟩
    | ret v1 =>
      obtain ⟨v, τ1, H1, J1, r1, q1⟩ := z
      exact ⟨v, τ1, H1, J1.ofTry ok, r1, q1⟩
  case caught =>
    obtain ⟨a, Bh, sI, pI, τ1, H1, cls, d, rfl, J0, nb, up, sky, na, eos, bare, mt, goes⟩ := xx
    have J : Inv X pz τ1 H1 sI := J0.ofTry ok
    rw [show (X.tr (X.pn ++ pz) _).stack = X.env :: X.outer from hs] at sky
    show wpAny (model X.prog X.w) X.A (noteFrame (.ref a) X.env) _ _ _
    refine Sky.land Zc.steady frA hf sky fun h3 fl3 up3 => ?_
    have J3 : Inv X pz τ1 H1 { s1 with heap := h3 } := J.landed nb fl3.1 (up.trans up3) eos bare
    obtain ⟨oe3, vs3, at3, z3, dt3⟩ := fl3.there
    have noFr : a ∉ frs (X.env :: X.outer) := fun hm => by
      obtain ⟨_, o1, e1, n1⟩ := fl3.2.2.1.mem hm
      rw [at3] at e1
      cases e1
      exact n1 _ dt3
    have nL : a ≠ X.env.locals := fun z => noFr (List.mem_filterMap.mpr ⟨X.env, List.mem_cons_self, by rw [hf, z]⟩)
    have nF : a ∉ X.fs := fun hm => by
      obtain ⟨e1, m1, q1⟩ := List.mem_filterMap.mp hm
      exact noFr (List.mem_filterMap.mpr ⟨e1, List.mem_cons_of_mem _ m1, q1⟩)
    -- it was not there before
    have newA : sI.heap.get? a = none := by
      cases q : sI.heap.get? a with
      | none => rfl
      | some o1 =>
        have z := nb a o1 q (by rw [show frs (X.tr (X.pn ++ pz) _).stack = frs (X.env :: X.outer) from congrArg frs hs]; exact noFr)
        rw [fl3.2.1] at z
        cases z
    have new0 : X.s_0.heap.get? a = none := by
      cases q : X.s_0.heap.get? a with
      | none => rfl
      | some o1 =>
        obtain ⟨o2, z⟩ := J.base.there a o1 q (by rw [hex]; exact fun z => nomatch z)
        rw [newA] at z
        cases z
    have S3 := J3.suite at3 dt3 na nL nF
    refine wpAny_handleBy_cons (codeAny_handlers_test ?_) (by intro q; cases q)
    have isC : PySem.W.Looks (model X.prog X.w) h3 (typeOf (.ref a)) cls := fun A1 Q1 E1 s2 k2 q2 => wpAny_typeOf_ref (k2 _ _ at3) (by rw [z3.1]; exact q2)
    have meets := PySem.W.exm_one (M := model X.prog X.w) J3.kIn isC mt
    have named : ∀ {Q1 : Value → Shared → Prop} {E1 : Value → Shared → Prop}, Q1 c { s1 with heap := h3 } → wpAny (model X.prog X.w) (X.A.mark (some (.ref a))) (eval (.Name x np) X.env) Q1 E1 { s1 with heap := h3 } := fun {Q1 E1} q1 => by
      obtain ⟨g1, g2, g3 | ⟨g3, g4, g5⟩⟩ := hc
      · exact ld_glob (X := X.suite a ((a, oe3) :: (X.pn ++ pz))) S3 g1 g3 q1 g2
      · exact ld_blt (X := X.suite a ((a, oe3) :: (X.pn ++ pz))) S3 g1 g3 g4 q1 g5 g2
    refine named (meets.here (codeAny_handlers_suite_as (HandSPX.lands_againZ fl3 fun h4 fl4 up4 => ?_)))
    have J4 : Inv X pz τ1 H1 { s1 with heap := h4 } := J.landed nb fl4.1 ((up.trans up3).trans up4) eos bare
    obtain ⟨oe4, vs4, at4, z4, dt4⟩ := fl4.there
    refine store_ok (X := X.suite a ((a, oe4) :: (X.pn ++ pz))) (v := .ref a) (J4.suite at4 dt4 na nL nF) hN hi (.inl hln) rfl (fun s5 S5 => ?_) (.inr hln)
    refine wpAny_mono ((hsu a oe4 cls d (X.pn ++ pz) z4 ⟨_, dt4⟩).run [] s5 _ H1 _ S5 (goes a na)) (fun f s6 z => ?_) (fun _ _ z => z.elim)
    cases f with
    | brk => exact (z.choose_spec.choose_spec.2).elim
    | cont => exact (z.choose_spec.choose_spec.2).elim
    | ret v1 => exact (z.choose_spec.choose_spec.choose_spec.2.2).elim
    | next =>
      obtain ⟨τ6, H6, S6, q6⟩ := z
      obtain ⟨at6, na6, _⟩ := S6.pin (a, oe4) (List.mem_append_left _ List.mem_cons_self)
      have J6 : Inv X pz τ6 H6 s6 := S6.unsuite ok
      have K6 : Inv X pz τ6 (upd H6 a (Exk a cls d)) s6 := by
        refine J6.track na6 new0 nL (fun y cc e => ?_) (fun p hp => ?_) (exk_ok at6 z4 dt4)
        · obtain ⟨v, oc, hoc, _⟩ := J.cell y cc e
          exact fun z => by rw [z, newA] at hoc; cases hoc
        · obtain ⟨z1, _⟩ := J.pin p hp
          exact fun z => by rw [z, newA] at z1; cases z1
      exact gone_ok K6 hN hi hln fun s7 J7 => ⟨_, _, J7, q6⟩
end L2
namespace L2
open PySem PySem.Spec PyProof.Rows
/-- at a: a caught error of the class at C that holds what = v -/
def EkAt (H : Hp) (a C : Addr) (v : V) : Prop := ∃ dd, H a = some (Exk a (.ref C) (some dd)) ∧ H dd = some (.xd [(("what" : Str), v)])
theorem ek_inst {X : Cx} {pz : List (Addr × Obj)} {τ : St} {H : Hp} {u0 : Shared} {a C : Addr} {v : V} (I : Inv X pz τ H u0) (e : EkAt H a C v) :
    ∃ (oe od : Obj) (u : Value), PySem.W.InstAt u0.heap a oe C (some od) ∧ RelV v u ∧ PySem.W.lookIn "what" od = some (some u) := by
  obtain ⟨dd, ea, ed⟩ := e
  obtain ⟨⟨oe, vs, hget, hz, hdat⟩, _⟩ := I.hok a _ ea
  obtain ⟨mA, hns, hr⟩ := (show ObjOk X.prog X.w H u0.heap dd (.xd [(("what" : Str), v)]) from I.hok dd _ ed)
  obtain ⟨od, ho, hl⟩ := lookIn_ns hns
  obtain ⟨u, hu, ru⟩ := RelO.some_of (v := v) (o := mA "what") (by rw [← show List.lookup ("what" : Str) [(("what" : Str), v)] = some v by simp [List.lookup]]; exact hr "what")
  refine ⟨oe, od, u, ⟨hget, hz.1, by unfold PySem.W.notCls; rw [hdat] <;> rfl, by rw [hz.2]; exact ho⟩, ru, by rw [hl, hu]⟩
/-- e.what of a caught error -/
def tWhat (K : PySem.W.Frag) (te : TE) : TE := fun σ H Q => te σ H fun x H1 => ∃ (a C : Addr) (v : V), x = .ref a ∧ PySem.WhX.ErrC K C ∧ EkAt H1 a C v ∧ Q v H1
theorem pe_what {X : Cx} {e : Expr} {te : TE} {pos : Pos} (he : PE X e te) (hb : attributeBase e "what" X.env (eval e X.env) = eval e X.env := by rfl) : PE X (.Attribute e "what" pos) (tWhat X.K te) := by
  constructor
  intro pz u0 τ H Q I h
  refine attr_of hb (thn (he.run pz u0 τ H _ I h) fun u s1 hh => ?_)
  obtain ⟨x, H1, I1, rx, a, C, v, rfl, T, ek, q⟩ := hh
  obtain rfl : u = Value.ref a := rx
  obtain ⟨oe, od, u1, J, ru, hl⟩ := ek_inst I1 ek
  exact HandSPX.exc_get I1.kIn J T.ga T.gg T.exC (PySem.W.findObj_own T.hdC T.noN rfl hl) (handed_of ru) ⟨v, H1, I1.tok _, ru, q⟩
/-- isinstance of a caught error: one class; a tuple of classes -/
def rIsW (K : PySem.W.Frag) : List V → Hp → VK → Prop := fun xs H Q => ∃ (a C : Addr) (v c : V) (u : Value) (b : Bool), xs = [.ref a, c] ∧ PySem.WhX.ErrC K C ∧ EkAt H a C v ∧ ClsV c u ∧ PySem.W.kitOne K (.ref C) u = some b ∧ Q (.bl b) H
def rIsWT (K : PySem.W.Frag) : List V → Hp → VK → Prop := fun xs H Q => ∃ (a C tp : Addr) (v : V) (cs : List V) (us : List Value) (b : Bool), xs = [.ref a, .ref tp] ∧ PySem.WhX.ErrC K C ∧ EkAt H a C v ∧ H tp = some (.tup cs) ∧ Paired ClsV cs us ∧ PySem.W.kitAny K (.ref C) us = some b ∧ Q (.bl b) H
theorem has_cls {K : PySem.W.Frag} {C : Addr} (h : PySem.W.hasDictIn K C = true) : (PySem.W.clsIn K C).isSome = true := by
  obtain ⟨cd, hc, _⟩ := PySem.W.any_some h
  rw [hc]
  rfl
section
variable {X : Cx}
theorem call_isW : CallR X (.builtin "isinstance") (rIsW X.K) := by
  intro pz u0 τ H xs us Q I r h
  obtain ⟨a, C, v, c, u, b, rfl, T, ek, k, e, q⟩ := h
  obtain ⟨u1, u2, rfl, r1, r2⟩ := vals2 r
  cases (show u1 = Value.ref a from r1)
  have e2 := k.eq r2
  subst e2
  obtain ⟨oe, od, _, J, _⟩ := ek_inst I ek
  exact PySem.W.kia_one (PySem.W.kitx_exc (has_cls T.hdC) T.ga T.gg T.exC T.cl T.sp T.tk T.mr) I.kIn J e (fun z => nomatch z) fun tk => ⟨.bl b, H, I.tok tk, rfl, q⟩
theorem call_isWT : CallR X (.builtin "isinstance") (rIsWT X.K) := by
  intro pz u0 τ H xs us Q I r h
  obtain ⟨a, C, tp, v, cs, ws, b, rfl, T, ek, hT, k, e, q⟩ := h
  obtain ⟨u1, u2, rfl, r1, r2⟩ := vals2 r
  cases (show u1 = Value.ref a from r1)
  cases (show u2 = Value.ref tp from r2)
  obtain ⟨oe, od, _, J, _⟩ := ek_inst I ek
  obtain ⟨_, its, rv, o, h1, h2, n, h3⟩ := (show ObjOk X.prog X.w H u0.heap tp (.tup cs) from I.hok tp _ hT)
  have e3 := ClsV.all k rv
  subst e3
  obtain ⟨oc, od1, dt, sl⟩ := o
  simp only at h2 h3
  subst h2 h3
  exact PySem.W.kia_tup (PySem.W.kitx_exc (has_cls T.hdC) T.ga T.gg T.exC T.cl T.sp T.tk T.mr) I.kIn J h1 e (fun z => nomatch z) fun tk => ⟨.bl b, H, I.tok tk, rfl, q⟩
end
end L2
namespace L2
open PySem PySem.Spec PyProof.Rows
/-! ### a call with keywords whose errors go to a try; promises side by side -/
def tCallNS (n m : Nat) (sp : Sp) (gV : List V → List V → List V) (E : St → XK) (t tk : TA) : TE := fun σ H Q => t σ H fun vs H1 => tk σ H1 fun zs H2 => vs.length = n ∧ zs.length = m ∧ sp (gV vs zs) H2 Q (E σ)
section
variable {X : Cx} {CX : CXT} {k n : Nat} {f : Addr} {fd : FuncData} {ps ks : List Str} {sp : Sp} {E : St → XK} {x : Str} {p pos : Pos} {e : Expr} {es : List Expr} {kws : List Keyword} {t tk : TA} {g : List Value → List Value → List Value} {gV : List V → List V → List V}
theorem pe_callNS (F : FnOk X.prog X.w X.K X.mg X.base CX k f fd ps sp) (hr : Room k X.A) (hg : Gl X x) (hm : X.mg x = some (.ref f)) (hk : PySem.W.keepIn X.K (.ref f) = true) (hb : KBn X.K fd ps n ks g gV) (hx : ∀ σ, PassesAt CX X σ (E σ)) (ha : PA X (e :: es) t) (hkw : PK X kws tk)
    (hall : (backToKw pos (keywordEach kws X.env)).all (·.1.isSome) = true := by rfl) (hks : (backToKw pos (keywordEach kws X.env)).filterMap (·.1) = ks := by rfl) (hdb : (x == ("__debug__" : Str)) = false := by decide)
    (he : starEach (e :: es) X.env = (false, eval e X.env) :: starEach es X.env := by rfl) (hpl : ((backTo pos (starEach (e :: es) X.env)).any (·.1) || (backToKw pos (keywordEach kws X.env)).any (·.1.isNone)) = false := by rfl) :
    PE X (.Call (.Name x p) (e :: es) kws pos) (tCallNS n ks.length sp gV E t tk) := by
  constructor
  intro pz u0 τ H Q I h
  refine wpAny_Call_Name_kw (ld_glob I hg hm (PySem.W.callWith_KW (h₀ := X.base) I.ok.mod.kin hk hall (thn (ha.run pos pz u0 τ H _ I h) fun us s1 z => ?_) hpl he) hdb)
  obtain ⟨vs, H1, I1, r1, q1⟩ := z
  refine thn (hkw.run pos pz s1 τ H1 _ I1 q1) fun ws s2 z => ?_
  obtain ⟨zs, H2, I2, r2, l1, l2, q2⟩ := z
  refine ⟨I2.kIn, ?_⟩
  rw [hks]
  refine wpAny_call (codeAny_mono (F.run X.A X.stack s2 H2 ⟨us, ks.zip ws⟩ (g us ws) (gV vs zs) Q (E τ) hr I2.env0 (hb.to s2 us ws I2.kIn (r1.length.symm.trans l1) (r2.length.symm.trans l2)) (hb.rel r1 r2) q2) fun r s3 z => ?_)
  match r with
  | .error er => exact hx τ pz H2 s2 er s3 I2 z
  | .ok (.ret v) => exact I2.after z
  | .ok .next => exact z.elim
  | .ok .brk => exact z.elim
  | .ok .cont => exact z.elim
end
section
variable {P : Program} {w : World} {K : PySem.W.Frag} {mg : Str → Option Value} {base : Heap} {k : Nat} {f : Addr} {fd : FuncData} {ps : List Str} {sp sq : Sp}
theorem fn_lift {CX : CXT} (F : FnOk P w K mg base CX0 k f fd ps sp) : FnOk P w K mg base CX k f fd ps sp := ⟨F.len, fun A outer s H args us vs Q E hr e0 hb hv hs => codeAny_mono (F.run A outer s H args us vs Q E hr e0 hb hv hs) fun r s1 z => by
  match r with
  | .error er => exact False.elim z
  | .ok (.ret v) => exact z
  | .ok .next => exact z
  | .ok .brk => exact z
  | .ok .cont => exact z⟩
theorem fn_or {CX : CXT} (F : FnOk P w K mg base CX k f fd ps sp) (G : FnOk P w K mg base CX k f fd ps sq) : FnOk P w K mg base CX k f fd ps (fun vs H Q E => sp vs H Q E ∨ sq vs H Q E) :=
  ⟨fun vs H Q E h => h.elim (F.len vs H Q E) (G.len vs H Q E), fun A outer s H args us vs Q E hr e0 hb hv hs => hs.elim (F.run A outer s H args us vs Q E hr e0 hb hv) (G.run A outer s H args us vs Q E hr e0 hb hv)⟩
end
end L2
namespace GZ
open PySem PySem.Spec PyProof.Rows L2
theorem kit_self {K : PySem.W.Frag} {C : Addr} : PySem.W.kitOne K (.ref C) (.ref C) = some true := by
  unfold PySem.W.kitOne
  rw [if_pos (beq_self_eq_true _)]
theorem kit_own {K : PySem.W.Frag} {C D : Addr} {b : Bool} (n : (Value.ref C == Value.ref D) = false) (hd : PySem.W.hasDictIn K D = true) (ty : PySem.W.typeIn K (.ref D) = some (.type "type")) (su : PySem.W.subIn K (.ref C) (.ref D) = some b) : PySem.W.kitOne K (.ref C) (.ref D) = some b := by
  unfold PySem.W.kitOne PySem.W.kitCls
  rw [if_neg (by rw [n]; decide)]
  dsimp only
  rw [if_pos (by rw [has_cls hd, ty] <;> rfl)]
  exact su
theorem kit_bt {K : PySem.W.Frag} {C : Addr} {T : String} {b : Bool} (su : PySem.W.subIn K (.ref C) (.type T) = some b) (km : PySem.W.kitMeta T = true := by decide +kernel) : PySem.W.kitOne K (.ref C) (.type T) = some b := by
  unfold PySem.W.kitOne PySem.W.kitCls
  rw [if_neg (show ¬ ((Value.ref C == Value.type T) = true) from Bool.false_ne_true)]
  dsimp only
  rw [if_pos km]
  exact su
end GZ
namespace L2
open PySem PySem.Spec PyProof.Rows
/-! ### except (A, B, ..) as n: the error is kept behind the try -/
theorem fly_keeps {B h h' : Heap} {l : List Env} {a : Addr} {Z : Obj → Prop} (f : HandSPX.FlyingZ B l a Z h) (k : ∀ b o, h.get? b = some o → h'.get? b = some o) : HandSPX.FlyingZ B l a Z h' := by
  obtain ⟨f1, f2, f3, oe, vs, T, oT, ts, he, hz, hd, h1, hn, hT, hT2, hd2, h3⟩ := f
  exact ⟨fun b o e => k _ _ (f1 b o e), f2, f3.of_keeps (fun b o e _ => ⟨o, k _ _ e, rfl⟩), oe, vs, T, oT, ts, k _ _ he, hz, hd, h1, hn, hT, k _ _ hT2, hd2, h3⟩
theorem wp_forIn1 {M : Model} {A : Around} {β : Type} {E : Value → Shared → Prop} {s : Shared} {f : Value → β → Sem (ForInStep β)} {i0 : β} : ∀ (cs : List Value) {Q : β → Shared → Prop}, (∀ c ∈ cs, ∀ Q1 : ForInStep β → Shared → Prop, Q1 (.yield i0) s → wpAny M A (f c i0) Q1 E s) → Q i0 s → wpAny M A (forIn cs i0 f) Q E s
  | [], Q, _, q => by
    rw [List.forIn_nil]
    exact wpAny_pure q
  | c :: cs, Q, h, q => by
    rw [List.forIn_cons]
    refine wpAny_bind (h c List.mem_cons_self _ ?_)
    exact wp_forIn1 cs (fun d hd => h d (List.mem_cons_of_mem _ hd)) q
theorem wp_forIn2 {M : Model} {A : Around} {β : Type} {E : Value → Shared → Prop} {s : Shared} {f : Value → β → Sem (ForInStep β)} {i0 d0 : β} {K : PySem.W.Frag} {cls : Value}
    (h : ∀ c b, PySem.W.exmOne K cls c = some b → ∀ Q1 : ForInStep β → Shared → Prop, Q1 (if b = true then .done d0 else .yield i0) s → wpAny M A (f c i0) Q1 E s) :
    ∀ (cs : List Value) (b : Bool) {Q : β → Shared → Prop}, PySem.W.exmAny K cls cs = some b → Q (if b = true then d0 else i0) s → wpAny M A (forIn cs i0 f) Q E s
  | [], b, Q, e, q => by
    cases e
    rw [List.forIn_nil]
    exact wpAny_pure q
  | c :: cs, b, Q, e, q => by
    obtain ⟨b1, d1, e1, e2, rfl⟩ := PySem.W.exmAny_cons e
    rw [List.forIn_cons]
    refine wpAny_bind (h c b1 e1 _ ?_)
    cases b1 with
    | true => exact wpAny_pure q
    | false =>
      rw [Bool.false_or] at q
      exact wp_forIn2 h cs d1 e2 q
theorem exmAny_mem {K : PySem.W.Frag} {cls : Value} : ∀ {cs : List Value} {b : Bool}, PySem.W.exmAny K cls cs = some b → ∀ c ∈ cs, ∃ d, PySem.W.exmOne K cls c = some d
  | [], _, _, _, h => nomatch h
  | c :: cs, b, e, x, h => by
    obtain ⟨b1, d1, e1, e2, _⟩ := PySem.W.exmAny_cons e
    rcases List.mem_cons.mp h with z | z
    · subst z
      exact ⟨_, e1⟩
    · exact exmAny_mem e2 x z
theorem exm_tupL {M : Model} {K : PySem.W.Frag} {cs : List Value} {cls : Value} {tp e : Addr} {b : Bool} {h : Heap} (X : K.In h) (LT : PySem.W.Looks M h (typeOf (.ref e)) cls) (hp : h.get? tp = some { cls := .type "tuple", data := .seq cs.toArray }) (hx : PySem.W.exmAny K cls cs = some b) :
    PySem.W.Looks M h (excMatches (.ref e) (.ref tp)) b := by
  intro A Q E s k₀ q
  obtain ⟨hh, g, d, tk, os⟩ := s
  have k : ∀ b o, h.get? b = some o → hh.get? b = some o := k₀
  have LT0 : PySem.W.Looks M h (isInstance (.ref tp) (.type "tuple")) true := ((PySem.W.Looks.ld hp).andThen .now).andThen (PySem.W.Looks.of_pure isSubtype_tuple_tuple)
  have LT := LT.keeps k
  have LT0 := LT0.keeps k
  have hp' := k _ _ hp
  unfold excMatches
  refine wpAny_bind (LT0.at ?_)
  dsimp only
  rw [if_pos rfl]
  first
    | refine wpAny_bind (wpAny_seqItems hp' rfl ?_)
    | refine wpAny_bind (wpAny_bind (wpAny_seqItems hp' rfl (wpAny_pure ?_)))
  dsimp only [Option.getD_some, Option.getD]
  refine wpAny_bind (wpAny_pure ?_)
  refine wpAny_bind (wp_forIn1 cs (fun c hc Q1 q1 => ?_) ?_)
  · obtain ⟨v, hv⟩ := exmAny_mem hx c hc
    obtain ⟨e1, _⟩ := PySem.W.exm_cls (M := M) X hv
    refine wpAny_bind ((e1.keeps k).at ?_)
    exact wpAny_pure q1
  refine wpAny_bind (LT.at ?_)
  refine wpAny_bind (wp_forIn2 (K := K) (cls := cls) (d0 := ⟨some true, ⟨⟩⟩) (fun c v hv Q1 q1 => ?_) cs b hx ?_)
  · obtain ⟨_, S1⟩ := PySem.W.exm_cls (M := M) X hv
    refine wpAny_bind ((S1.keeps k).at ?_)
    cases v
    · exact wpAny_pure q1
    · exact wpAny_pure q1
  cases b
  · exact wpAny_pure q
  · exact wpAny_pure q
inductive NamesL (X : Cx) : List Expr → List Value → Prop
  | nil : NamesL X [] []
  | cons {x : Str} {c : Value} {np : Pos} {es : List Expr} {cs : List Value} (h : Names X x c) (r : NamesL X es cs) : NamesL X (.Name x np :: es) (c :: cs)
theorem NamesL.len {X : Cx} {es : List Expr} {cs : List Value} (h : NamesL X es cs) : cs.length = es.length := by
  induction h with
  | nil => rfl
  | cons _ _ ih => rw [List.length_cons, List.length_cons, ih]
/-- what is wished of an error of the body: it is one of these; the suite runs; the error is told of behind it -/
def wKpT (K : PySem.W.Frag) (cs : List Value) (i : Nat) (ts : Addr → Value → Option Addr → TS) (D : Ends) : WX := fun cls d τ H => PySem.W.exmAny K cls cs = some true ∧
  ∀ a, H a = none → ts a cls d { nx := fun τ' H' => D.nx (τ'.set i none) (upd H' a (Exk a cls d)), rt := fun _ _ => False, bk := fun _ _ => False, ct := fun _ _ => False } (τ.set i (some (.ref a))) H
theorem ps_try_keepT {X : Cx} {n : Str} {es : List Expr} {cs : List Value} {kk : Nat} {i : Nat} {body suite : List Stmt} {b0 : Stmt} {tpos pos pos' : Pos} {tb : WX → TS} {ts : Addr → Value → Option Addr → TS} (hs : X.stack = X.env :: X.outer) (hf : X.env.frame = some X.env.locals) (hex : X.ex = []) (hN : X.N.Nodup) (hi : X.N[i]? = some n)
    (hln : X.env.kindOf n = some .local) (hc : NamesL X es cs) (hle : cs.length ≤ 100)
    (hb : ∀ (W : WX) (pn : List (Addr × Obj)) (xe : Value → Shared → Prop), Takes (X.tr pn xe) W → PassesOwn (model X.prog X.w) X.A X.env xe → PSs (X.tr pn xe) body (tb W))
    (hsu : ∀ (a : Addr) (oe : Obj) (cls : Value) (d : Option Addr) (pn : List (Addr × Obj)), Zc cls d oe → (∃ vs, oe.data = .fields vs) → PSs (X.suite a ((a, oe) :: pn)) (b0 :: suite) (ts a cls d)) :
    PS X (.Try body [.ExceptHandler (some (.Tuple es kk tpos)) (some n) (b0 :: suite) pos'] [] [] pos) (fun D τ H => tb (wKpT X.K cs i ts D) D τ H) := by
  constructor
  intro pz u0 τ H D I h
  have ok := I.ok
  have frA : X.A.frames = some (X.env :: X.outer) := ok.frames.trans (congrArg some hs)
  refine wpAny_Try_except (wpAny_mono ((hb (wKpT X.K cs i ts D) (X.pn ++ pz) _ (fun u s1 xx => ?caught) PassesOwn.looking).run [] u0 τ H D (I.toTry _) h) (fun f s1 z => ?fine) (fun _ _ z => z))
  case fine =>
    cases f with
    | next =>
      obtain ⟨τ1, H1, J1, q1⟩ := z
      exact wpAny_execs_nil ⟨τ1, H1, J1.ofTry ok, q1⟩
    | brk =>
      obtain ⟨τ1, H1, J1, q1⟩ := z
      exact ⟨τ1, H1, J1.ofTry ok, q1⟩
    | cont =>
      obtain ⟨τ1, H1, J1, q1⟩ := z
      exact ⟨τ1, H1, J1.ofTry ok, q1⟩
    | ret v1 =>
      obtain ⟨v, τ1, H1, J1, r1, q1⟩ := z
      exact ⟨v, τ1, H1, J1.ofTry ok, r1, q1⟩
  case caught =>
    obtain ⟨a, Bh, sI, pI, τ1, H1, cls, d, rfl, J0, nb, up, sky, na, eos, bare, mt, goes⟩ := xx
    have J : Inv X pz τ1 H1 sI := J0.ofTry ok
    rw [show (X.tr (X.pn ++ pz) _).stack = X.env :: X.outer from hs] at sky
    show wpAny (model X.prog X.w) X.A (noteFrame (.ref a) X.env) _ _ _
    refine Sky.land Zc.steady frA hf sky fun h3 fl3 up3 => ?_
    have J3 : Inv X pz τ1 H1 { s1 with heap := h3 } := J.landed nb fl3.1 (up.trans up3) eos bare
    obtain ⟨oe3, vs3, at3, z3, dt3⟩ := fl3.there
    have noFr : a ∉ frs (X.env :: X.outer) := fun hm => by
      obtain ⟨_, o1, e1, n1⟩ := fl3.2.2.1.mem hm
      rw [at3] at e1
      cases e1
      exact n1 _ dt3
    have nL : a ≠ X.env.locals := fun z => noFr (List.mem_filterMap.mpr ⟨X.env, List.mem_cons_self, by rw [hf, z]⟩)
    have nF : a ∉ X.fs := fun hm => by
      obtain ⟨e1, m1, q1⟩ := List.mem_filterMap.mp hm
      exact noFr (List.mem_filterMap.mpr ⟨e1, List.mem_cons_of_mem _ m1, q1⟩)
    -- it was not there before
    have newA : sI.heap.get? a = none := by
      cases q : sI.heap.get? a with
      | none => rfl
      | some o1 =>
        have z := nb a o1 q (by rw [show frs (X.tr (X.pn ++ pz) _).stack = frs (X.env :: X.outer) from congrArg frs hs]; exact noFr)
        rw [fl3.2.1] at z
        cases z
    have new0 : X.s_0.heap.get? a = none := by
      cases q : X.s_0.heap.get? a with
      | none => rfl
      | some o1 =>
        obtain ⟨o2, z⟩ := J.base.there a o1 q (by rw [hex]; exact fun z => nomatch z)
        rw [newA] at z
        cases z
    have S3 := J3.suite at3 dt3 na nL nF
    refine wpAny_handleBy_cons (codeAny_handlers_test ?_) (by intro q; cases q)
    have kp : ∀ q o, h3.get? q = some o → (h3.push { cls := .type "tuple", data := .seq cs.toArray }).get? q = some o := fun _ _ z => Heap.get?_push_of_some _ z
    have isC : PySem.W.Looks (model X.prog X.w) h3 (typeOf (.ref a)) cls := fun A1 Q1 E1 s2 k2 q2 => wpAny_typeOf_ref (k2 _ _ at3) (by rw [z3.1]; exact q2)
    have meets := exm_tupL (M := model X.prog X.w) (J3.kIn.keeps kp) (isC.keeps kp) (Heap.get?_push_size h3 rfl) mt
    have named : ∀ {x : Str} {c : Value} {np : Pos}, Names X x c → ∀ {Q1 : Value → Shared → Prop} {E1 : Value → Shared → Prop}, Q1 c { s1 with heap := h3 } → wpAny (model X.prog X.w) (X.A.mark (some (.ref a))) (eval (.Name x np) X.env) Q1 E1 { s1 with heap := h3 } := fun {x c np} hc {Q1 E1} q1 => by
      obtain ⟨g1, g2, g3 | ⟨g3, g4, g5⟩⟩ := hc
      · exact ld_glob (X := X.suite a ((a, oe3) :: (X.pn ++ pz))) S3 g1 g3 q1 g2
      · exact ld_blt (X := X.suite a ((a, oe3) :: (X.pn ++ pz))) S3 g1 g3 g4 q1 g5 g2
    have items : ∀ {es : List Expr} {cs : List Value}, NamesL X es cs → ∀ {Q1 : List Value → Shared → Prop} {E1 : Value → Shared → Prop}, Q1 cs { s1 with heap := h3 } → wpAny (model X.prog X.w) (X.A.mark (some (.ref a))) (spliced (backTo tpos (starEach es X.env))) Q1 E1 { s1 with heap := h3 } := fun {es cs} hc => by
      induction hc with
      | nil =>
        intro Q1 E1 q1
        exact wpAny_items_nil q1
      | cons hx _ ih =>
        intro Q1 E1 q1
        exact wpAny_items_cons (named hx (ih q1)) (by rfl)
    refine wpAny_Tuple (items hc ⟨?_, ?_⟩)
    · rw [sizeLine_eq]
      omega
    refine meets.here (codeAny_handlers_suite_as (HandSPX.lands_againZ (fly_keeps fl3 kp) fun h4 fl4 up4 => ?_))
    have J4 : Inv X pz τ1 H1 { s1 with heap := h4 } := J.landed nb fl4.1 ((up.trans up3).trans ((Heap.UpToSlots.of_keeps kp).trans up4)) eos bare
    obtain ⟨oe4, vs4, at4, z4, dt4⟩ := fl4.there
    refine store_ok (X := X.suite a ((a, oe4) :: (X.pn ++ pz))) (v := .ref a) (J4.suite at4 dt4 na nL nF) hN hi (.inl hln) rfl (fun s5 S5 => ?_) (.inr hln)
    refine wpAny_mono ((hsu a oe4 cls d (X.pn ++ pz) z4 ⟨_, dt4⟩).run [] s5 _ H1 _ S5 (goes a na)) (fun f s6 z => ?_) (fun _ _ z => z.elim)
    cases f with
    | brk => exact (z.choose_spec.choose_spec.2).elim
    | cont => exact (z.choose_spec.choose_spec.2).elim
    | ret v1 => exact (z.choose_spec.choose_spec.choose_spec.2.2).elim
    | next =>
      obtain ⟨τ6, H6, S6, q6⟩ := z
      obtain ⟨at6, na6, _⟩ := S6.pin (a, oe4) (List.mem_append_left _ List.mem_cons_self)
      have J6 : Inv X pz τ6 H6 s6 := S6.unsuite ok
      have K6 : Inv X pz τ6 (upd H6 a (Exk a cls d)) s6 := by
        refine J6.track na6 new0 nL (fun y cc e => ?_) (fun p hp => ?_) (exk_ok at6 z4 dt4)
        · obtain ⟨v, oc, hoc, _⟩ := J.cell y cc e
          exact fun z => by rw [z, newA] at hoc; cases hoc
        · obtain ⟨z1, _⟩ := J.pin p hp
          exact fun z => by rw [z, newA] at z1; cases z1
      exact gone_ok K6 hN hi hln fun s7 J7 => ⟨_, _, J7, q6⟩
end L2
namespace L2
open PySem PySem.Spec PyProof.Rows
/-- o.m(), its error goes to a try -/
def tMeth0S (C : Addr) (m : Str) (sp : Sp) (E : St → XK) (ta : TE) : TE := fun σ H Q => ta σ H fun x H1 => ∃ a dx fs, x = .ref a ∧ H1 a = some (.ins C dx fs) ∧ fs.lookup m = none ∧ sp [x] H1 Q (E σ)
theorem pe_meth0S {X : Cx} {CX : CXT} {k : Nat} {f C : Addr} {fd : FuncData} {ps : List Str} {sp : Sp} {E : St → XK} {m : Str} {pos apos : Pos} {o : Expr} {ta : TE} {pl : Sem Bool} (he : PE X o ta) (c : Cls X.K C) (hm : Meth X.K C m f) (F : FnOk X.prog X.w X.K X.mg X.base CX k f fd ps sp) (hr : Room k X.A) (hb : Binds X.K fd ps []) (hx : ∀ σ, PassesAt CX X σ (E σ))
    (ht : eval (.Call (.Attribute o m apos) [] [] pos) X.env = (do
      let ov ← eval o X.env
      standAt apos.atName
      let (f, first) ← holding [ov] (getMethod ov m pl)
      callWith pos f first (backTo pos (starEach [] X.env)) (backToKw pos (keywordEach [] X.env))) := by rfl) :
    PE X (.Call (.Attribute o m apos) [] [] pos) (tMeth0S C m sp E ta) := by
  refine ⟨fun pins s σ H Q I h => ?_⟩
  refine PySem.W.methodCall_KW (pl := pl) (thn (he.run pins s σ H _ I h) fun u s1 ⟨x, H1, I1, rx, a, dx, fs, ex, ea, l, q⟩ => ?_) ht
  subst ex
  obtain rfl : u = Value.ref a := rx
  refine getmeth_ok I1 ea c hm l ?_
  exact PySem.W.callWith_K0 (first := [.ref a]) I1.kIn hm.kp (run_fnS (us := [.ref a]) (vs := [.ref a]) F hr hb (hx σ) I1 (.cons rfl .nil) q)
end L2
namespace L2
open PySem PySem.Spec PyProof.Rows
/-- o.m(e, ..), its error goes to a try -/
def tMethAS (C : Addr) (m : Str) (sp : Sp) (E : St → XK) (ta : TE) (t : TA) : TE := fun τ H Q => ta τ H fun x G1 => ∃ a dx fs, x = .ref a ∧ G1 a = some (.ins C dx fs) ∧ fs.lookup m = none ∧ t τ G1 fun vs G2 => sp (x :: vs) G2 Q (E τ)
theorem pe_methAS {X : Cx} {CX : CXT} {k : Nat} {f C : Addr} {fd : FuncData} {ps : List Str} {sp : Sp} {E : St → XK} {m : Str} {pos apos : Pos} {o e : Expr} {es : List Expr} {ta : TE} {t : TA} {pl : Sem Bool} (obj : PE X o ta) (c : Cls X.K C) (hm : Meth X.K C m f)
    (F : FnOk X.prog X.w X.K X.mg X.base CX k f fd ps sp) (hr : Room k X.A) (hb : Binds X.K fd ps []) (hx : ∀ τ, PassesAt CX X τ (E τ)) (ar : PA X (e :: es) t) (one : starEach (e :: es) X.env = (false, eval e X.env) :: starEach es X.env := by rfl) (nos : (backTo pos (starEach es X.env)).any (·.1) = false := by rfl)
    (how : eval (.Call (.Attribute o m apos) (e :: es) [] pos) X.env = (do
      let thing ← eval o X.env
      standAt apos.atName
      let (g, begun) ← holding [thing] (getMethod thing m pl)
      callWith pos g begun (backTo pos (starEach (e :: es) X.env)) (backToKw pos (keywordEach [] X.env))) := by rfl) : PE X (.Call (.Attribute o m apos) (e :: es) [] pos) (tMethAS C m sp E ta t) := by
  constructor; intro pz u0 τ H Q I h
  refine PySem.W.methodCall_KW (pl := pl) (thn (obj.run pz u0 τ H _ I h) fun u t1 ⟨x, G1, J1, rx, a, dx, fs, ex, ea, l, q⟩ => ?_) how
  subst ex; obtain rfl : u = Value.ref a := rx
  refine getmeth_ok J1 ea c hm l (PySem.W.callWith_K (first := [.ref a]) (h₀ := X.base) I.ok.mod.kin hm.kp (thn (ar.run pos pz t1 τ G1 _ J1 q) fun us t2 ⟨vs, G2, J2, r, q2⟩ => ⟨J2.kIn, ?_⟩) one nos)
  exact run_fnS (us := .ref a :: us) (vs := .ref a :: vs) F hr hb (hx τ) J2 (.cons rfl r) q2
end L2
namespace GZ
open PySem PySem.Spec PyProof.Rows L2
def pkz {α : Type} : α → List α → Nat → α
  | a, _, 0 => a
  | a, _, 1 => a
  | a, [], _ => a
  | _, b :: xs, n + 2 => pkz b xs (n + 1)
theorem val0 (t : Tok) : Vals [V.int 0] [Value.int 0 t] := .cons ⟨_, rfl⟩ .nil
/-! ### keyword-only parameters -/
theorem kbn_of {K : PySem.W.Frag} {x qual : Str} {st : Stmt} {D : Addr} {an : Option Addr} {doc pm cdv ct : Value} {ps ks : List Str} {n : Nat} {ml : List (Str × Value)} {g : List Value → List Value → List Value} {gV : List V → List V → List V} (hml : ∀ q ∈ ml, PySem.W.nsIn K D q.1 = some (some q.2))
    (h : ∀ us ws : List Value, us.length = n → ws.length = ks.length → KwChain D ml (bindArgs (PySem.W.fnOf x qual (defArgs st) (defBody st) (defScope st) .none (.ref D) doc pm an cdv ct) ⟨us, ks.zip ws⟩) (ps.zip (g us ws)))
    (rel : ∀ {vs : List V} {us : List Value} {zs : List V} {ws : List Value}, vs.length = n → zs.length = ks.length → Vals vs us → Vals zs ws → Vals (gV vs zs) (g us ws)) :
    ∀ (s : Shared) (us ws : List Value), K.In s.heap → us.length = n → ws.length = ks.length → BindsTo s (PySem.W.fnOf x qual (defArgs st) (defBody st) (defScope st) .none (.ref D) doc pm an cdv ct) ⟨us, ks.zip ws⟩ (ps.zip (g us ws)) :=
  fun s us ws X l1 l2 => BindsTo.of_looks fun M => KwChain.looks X hml (h us ws l1 l2)
theorem bnd_of {K : PySem.W.Frag} {x qual : Str} {st : Stmt} {D : Addr} {an : Option Addr} {doc pm cdv ct : Value} {ps : List Str} {ml : List (Str × Value)} {ds : List Value} (hml : ∀ q ∈ ml, PySem.W.nsIn K D q.1 = some (some q.2))
    (h : ∀ us : List Value, us.length + ds.length = ps.length → KwChain D ml (bindArgs (PySem.W.fnOf x qual (defArgs st) (defBody st) (defScope st) .none (.ref D) doc pm an cdv ct) ⟨us, []⟩) (ps.zip (us ++ ds))) :
    Binds K (PySem.W.fnOf x qual (defArgs st) (defBody st) (defScope st) .none (.ref D) doc pm an cdv ct) ps ds := fun s us X hl => by
  rw [List.length_append] at hl
  exact BindsTo.of_looks fun M => KwChain.looks X hml (h us hl)
/-! ### a def whose defaults aren't asked for -/
structure FunA (K : PySem.W.Frag) (x qual : Str) (st : Stmt) (f : Addr) (fd : FuncData) : Prop where
  ex : ∃ (oc : Value) (od : Option Addr) (dV kV doc pm : Value) (an : Option Addr) (cdv ct : Value) (osl : Array (Option Value)),
    fd = PySem.W.fnOf x qual (defArgs st) (defBody st) (defScope st) dV kV doc pm an cdv ct ∧ K.lookup f = some ⟨oc, od, .func fd, osl⟩ ∧ PySem.W.codeIn K cdv qual = true
  kp : PySem.W.keepIn K (.ref f) = true
theorem FunA.ok {P : Program} {w : World} {K : PySem.W.Frag} {mg : Str → Option Value} {base : Heap} {x qual : Str} {st : Stmt} {f : Addr} {fd : FuncData} {N ps : List Str} {k : Nat} {sp : Sp} (F : FunA K x qual st f fd) (S : FnScope N ps (defScope st)) (len : ∀ vs H Q E, sp vs H Q E → vs.length = ps.length)
    (hbody : ∀ (cdv : Value) (A : Around) (outer : List Env) (s : Shared) (H : Hp) (vs : List V) (Q : VK) (E : XK), Room k (A.deeper (envOfC qual (defScope st) s.heap.objs.size f cdv)) → sp vs H Q E →
      ∃ t, PSs (cxOf CX0 P w K mg base N qual (defScope st) f cdv A outer s H E).nox (defBody st) t ∧ t { nx := fun _ H' => Q .non H', rt := Q } (start N vs) H) : FnOk P w K mg base CX0 (k + 1) f fd ps sp := by
  obtain ⟨oc, od, dV, kV, doc, pm, an, cdv, ct, osl, rfl, lk, hcd⟩ := F.ex
  refine fn_of lk hcd S len fun A outer s H vs Q E hr hsp => ?_
  obtain ⟨t, h, q⟩ := hbody cdv A outer s H vs Q E hr hsp
  exact ⟨t, h.nox, q⟩
theorem bindsA {K : PySem.W.Frag} {x qual : Str} {st : Stmt} {f T : Addr} {oc oT vT : Value} {od an dT : Option Addr} {osl sT : Array (Option Value)} {kV doc pm cdv ct : Value} {nT : Nat} {ps : List Str} (l : K.lookup f = some ⟨oc, od, .func (PySem.W.fnOf x qual (defArgs st) (defBody st) (defScope st) (.ref T) kV doc pm an cdv ct), osl⟩)
    (lT : K.lookup T = some ⟨oT, dT, .seq #[vT] nT, sT⟩)
    (h : ∀ (kV doc pm : Value) (an : Option Addr) (cdv ct : Value) (us : List Value), us.length = ps.length → ∃ k, bindArgs (PySem.W.fnOf x qual (defArgs st) (defBody st) (defScope st) (.ref T) kV doc pm an cdv ct) ⟨us, []⟩ = seqItems? (.ref T) >>= k ∧ k (some #[vT]) = pure (ps.zip us)) : Binds K (PySem.W.fnOf x qual (defArgs st) (defBody st) (defScope st) (.ref T) kV doc pm an cdv ct) ps [] := by
  intro s us X hl
  rw [List.append_nil] at hl ⊢
  obtain ⟨k, e1, e2⟩ := h kV doc pm an cdv ct us hl
  refine BindsTo.of_looks fun M => ?_
  rw [e1]
  exact looks_items X lT rfl (.of_pure e2)
theorem bindsAD {K : PySem.W.Frag} {x qual : Str} {st : Stmt} {f T : Addr} {oc oT vT : Value} {od an dT : Option Addr} {osl sT : Array (Option Value)} {kV doc pm cdv ct : Value} {nT : Nat} {ps : List Str} (l : K.lookup f = some ⟨oc, od, .func (PySem.W.fnOf x qual (defArgs st) (defBody st) (defScope st) (.ref T) kV doc pm an cdv ct), osl⟩)
    (lT : K.lookup T = some ⟨oT, dT, .seq #[vT] nT, sT⟩)
    (h : ∀ (kV doc pm : Value) (an : Option Addr) (cdv ct : Value) (us : List Value), us.length + 1 = ps.length → ∃ k, bindArgs (PySem.W.fnOf x qual (defArgs st) (defBody st) (defScope st) (.ref T) kV doc pm an cdv ct) ⟨us, []⟩ = seqItems? (.ref T) >>= k ∧ k (some #[vT]) = pure (ps.zip (us ++ [vT]))) : Binds K (PySem.W.fnOf x qual (defArgs st) (defBody st) (defScope st) (.ref T) kV doc pm an cdv ct) ps [vT] := by
  intro s us X hl
  rw [List.length_append] at hl
  obtain ⟨k, e1, e2⟩ := h kV doc pm an cdv ct us hl
  refine BindsTo.of_looks fun M => ?_
  rw [e1]
  exact looks_items X lT rfl (.of_pure e2)
theorem kbindsA {x1 : Str} {K : PySem.W.Frag} {x qual : Str} {st : Stmt} {f T : Addr} {oc oT vT : Value} {od an dT : Option Addr} {osl sT : Array (Option Value)} {kV doc pm cdv ct : Value} {nT : Nat} {ps : List Str} (l : K.lookup f = some ⟨oc, od, .func (PySem.W.fnOf x qual (defArgs st) (defBody st) (defScope st) (.ref T) kV doc pm an cdv ct), osl⟩)
    (lT : K.lookup T = some ⟨oT, dT, .seq #[vT] nT, sT⟩)
    (h : ∀ (kV doc pm : Value) (an : Option Addr) (cdv ct u w : Value), ∃ k, bindArgs (PySem.W.fnOf x qual (defArgs st) (defBody st) (defScope st) (.ref T) kV doc pm an cdv ct) ⟨[u], [(x1, w)]⟩ = seqItems? (.ref T) >>= k ∧ k (some #[vT]) = pure (ps.zip [u, w])) : KBn K (PySem.W.fnOf x qual (defArgs st) (defBody st) (defScope st) (.ref T) kV doc pm an cdv ct) ps 1 [x1] (fun us ws => us ++ ws) (fun us ws => us ++ ws) := by
  refine ⟨fun s us ws X l1 l2 => ?_, fun r1 r2 => r1.append r2⟩
  match us, ws, l1, l2 with
  | [u], [w], _, _ =>
    obtain ⟨k, e1, e2⟩ := h kV doc pm an cdv ct u w
    refine BindsTo.of_looks fun M => ?_
    show PySem.W.Looks M s.heap (bindArgs (PySem.W.fnOf x qual (defArgs st) (defBody st) (defScope st) (.ref T) kV doc pm an cdv ct) ⟨[u], [(x1, w)]⟩) (ps.zip [u, w])
    rw [e1]
    exact looks_items X lT rfl (.of_pure e2)
theorem funA_mk {K : PySem.W.Frag} {x qual : Str} {st : Stmt} {f : Addr} {oc : Value} {od an : Option Addr} {osl : Array (Option Value)} {dV kV doc pm cdv ct : Value} (l : K.lookup f = some ⟨oc, od, .func (PySem.W.fnOf x qual (defArgs st) (defBody st) (defScope st) dV kV doc pm an cdv ct), osl⟩)
    (c : PySem.W.codeIn K cdv qual = true) (k : PySem.W.keepIn K (.ref f) = true) : FunA K x qual st f (PySem.W.fnOf x qual (defArgs st) (defBody st) (defScope st) dV kV doc pm an cdv ct) := ⟨⟨oc, od, dV, kV, doc, pm, an, cdv, ct, osl, rfl, l, c⟩, k⟩
section
variable {P : Program} {w : World} {K : PySem.W.Frag} {mg : Str → Option Value} {base : Heap}
theorem cutG {Cd A : Int → Int → Hp → Prop} {B : Prop} (h1 : ∀ n p H, Cd n p H → A n p H) (h2 : (∀ n p H, Cd n p H → A n p H) → B) : B := h2 h1
theorem cutA {Cd A : Addr → Hp → Prop} {B : Prop} (h1 : ∀ a H, Cd a H → A a H) (h2 : (∀ a H, Cd a H → A a H) → B) : B := h2 h1
theorem cutH {H : Hp} {A : Hp → Prop} {B : Prop} (h1 : ∀ H', Same H H' → A H') (h2 : (∀ H', Same H H' → A H') → B) : B := h2 h1
theorem cutP {A B : Prop} (h1 : A) (h2 : A → B) : B := h2 h1
theorem gB {i : Nat} {v u : Bool} {σ : L2.St} {H : Hp} {D : L2.St → Hp → Prop} (e : v = u) (h : gName i (V.bl u) σ H D) : gName i (V.bl v) σ H D := e ▸ h
theorem gI {i : Nat} {v u : Int} {σ : L2.St} {H : Hp} {D : L2.St → Hp → Prop} (e : v = u) (h : gName i (V.int u) σ H D) : gName i (V.int v) σ H D := e ▸ h
theorem dvi (a b : Int) : decide (V.int a = V.int b) = decide (a = b) := by
  by_cases c : a = b
  · rw [decide_eq_true c, decide_eq_true (congrArg V.int c)]
  · rw [decide_eq_false c, decide_eq_false (fun z => c (V.int.inj z))]
theorem dvs (a b : Str) : decide (V.str a = V.str b) = decide (a = b) := by
  by_cases c : a = b
  · rw [decide_eq_true c, decide_eq_true (congrArg V.str c)]
  · rw [decide_eq_false c, decide_eq_false (fun z => c (V.str.inj z))]
theorem bx1 {c : Int} {H : Hp} {b : Addr} (h : BoxAt (c + 2 ^ (1 - 1)) H b) : BoxAt (c + 1) H b := h
theorem Keep.none {b p : Addr} {H H' : Hp} (k : Keep b H H') (n : p ≠ b) (h : H' p = none) : H p = none := by
  cases q : H p with
  | none => rfl
  | some o =>
    rw [k p o q n] at h
    cases h
theorem dp_ints {H : Hp} : ∀ ds : List Int, DpAll K H (ds.map V.int) (ds.map PyData.int)
  | [] => .nil
  | d :: ds => .cons (.int d) (dp_ints ds)
theorem lv_ints {n : Nat} (ds : List Int) (h : ds.length ≤ 1000) : Lv (n + 1) (.list (ds.map PyData.int)) := by
  refine ⟨by rw [List.length_map]; omega, fun d hd => ?_⟩
  obtain ⟨x, _, rfl⟩ := List.mem_map.mp hd
  cases n <;> trivial
theorem eqv_ints (ds : List Int) : PyData.eqv (.list (ds.map PyData.int)) (.list (ds.map PyData.int)) = true := PySem.SeqAt.eqv_refl _ (PySem.SeqAt.canLay_of_shaped (PySem.W.shaped_ints ds))
/-! ### nets -/
def KeepS (S : List Addr) (H H' : Hp) : Prop := (∀ y o, H y = some o → y ∉ S → H' y = some o) ∧ ∀ y, H y ≠ none → H' y ≠ none
theorem KeepS.refl (S : List Addr) (H : Hp) : KeepS S H H := ⟨fun _ _ e _ => e, fun _ e => e⟩
theorem KeepS.trans {S : List Addr} {H H1 H2 : Hp} (a : KeepS S H H1) (b : KeepS S H1 H2) : KeepS S H H2 := ⟨fun y o e n => b.1 y o (a.1 y o e n) n, fun y e => b.2 y (a.2 y e)⟩
theorem some_ne {H : Hp} {y : Addr} {o : HO} (e : H y = some o) : H y ≠ none := fun z => by rw [z] at e; cases e
theorem KeepS.ofSame {S : List Addr} {H H1 : Hp} (s : Same H H1) : KeepS S H H1 := ⟨fun y o e _ => s y o e, fun y e => by
  cases q : H y with
  | none => exact absurd q e
  | some o => exact some_ne (s y o q)⟩
theorem KeepS.mono {S T : List Addr} {H H1 : Hp} (h : ∀ y ∈ S, y ∈ T) (a : KeepS S H H1) : KeepS T H H1 := ⟨fun y o e n => a.1 y o e (fun m => n (h y m)), a.2⟩
theorem KeepS.ofKeep {b : Addr} {S : List Addr} {H H1 : Hp} (k : Keep b H H1) (m : b ∈ S) (hb : H1 b ≠ none) : KeepS S H H1 := ⟨fun y o e n => k y o e (fun z => n (by rw [z]; exact m)), fun y e => by
  by_cases c : y = b
  · rw [c]
    exact hb
  · cases q : H y with
    | none => exact absurd q e
    | some o => exact some_ne (k y o q c)⟩
theorem KeepS.upd {S : List Addr} {H : Hp} {a : Addr} {o : HO} (m : a ∈ S) : KeepS S H (upd H a o) := ⟨fun y u e n => by rw [upd_ne (fun z => n (by rw [z]; exact m))]; exact e, fun y e => by
  by_cases c : y = a
  · rw [c, upd_same]
    exact fun z => by cases z
  · rw [upd_ne c]
    exact e⟩
theorem KeepS.new {S : List Addr} {H : Hp} {a : Addr} {o : HO} (n : H a = none) : KeepS S H (L2.upd H a o) := .ofSame (same_upd n)
theorem KeepS.keep {b : Addr} {H H1 : Hp} (k : KeepS [b] H H1) : Keep b H H1 := fun y o e n => k.1 y o e (by simp only [List.mem_singleton]; exact n)
theorem KeepS.same {H H1 : Hp} (k : KeepS [] H H1) : Same H H1 := fun y o e => k.1 y o e (fun z => nomatch z)
theorem KeepS.seq {K : PySem.W.Frag} {S : List Addr} {a : Addr} {H H' : Hp} {xs : List V} (e : KeepS S H H') (n : a ∉ S) (h : SqL K H a xs) : SqL K H' a xs := by
  rcases h with (h | ⟨o, h⟩) | h
  · exact .inl (.inl (e.1 _ _ h n))
  · exact .inl (.inr ⟨o, e.1 _ _ h n⟩)
  · exact .inr h
theorem KeepS.seqT {K : PySem.W.Frag} {S : List Addr} {a : Addr} {H H' : Hp} {xs : List V} (e : KeepS S H H') (n : a ∉ S) (h : SqT K H a xs) : SqT K H' a xs := by
  rcases h with (h | ⟨o, h⟩) | h
  · exact .inl (.inl (e.1 _ _ h n))
  · exact .inl (.inr ⟨o, e.1 _ _ h n⟩)
  · exact .inr h
theorem BoxAt.keepS {c : Int} {S : List Addr} {H H' : Hp} {b : Addr} (h : BoxAt c H b) (k : KeepS S H H') (n : b ∉ S) : BoxAt c H' b := by
  obtain ⟨x, y, z, e, r⟩ := h
  exact ⟨x, y, z, k.1 _ _ e n, r⟩
inductive Gt where
  | w (k : Str) (ws : List Nat)
  | fi (b : Nat)
def nts (ws : List Nat) : List V := ws.map fun (a : Nat) => V.int (a : Int)
theorem nts_at {ws : List Nat} {i : Nat} {x : V} (h : (nts ws)[i]? = some x) : ∃ v, ws[i]? = some v ∧ x = .int (v : Int) := by
  unfold nts at h
  rw [List.getElem?_map] at h
  cases q : ws[i]? with
  | none => rw [q] at h; cases h
  | some v => rw [q] at h; exact ⟨v, rfl, (Option.some.inj h).symm⟩
theorem nts_len (ws : List Nat) : (nts ws).length = ws.length := by
  unfold nts
  rw [List.length_map]
def Gt.row : Gt → List V
  | .w k ws => .str k :: nts ws
  | .fi b => [.str "fixed", .int (b : Int)]
def Gt.ok (n : Nat) : Gt → Prop
  | .w k ws => (((k = "both" ∨ k = "either" ∨ k = "unlike") ∧ ws.length = 2) ∨ (k = "other" ∧ ws.length = 1)) ∧ ∀ a ∈ ws, a < n
  | .fi b => b ≤ 1
def mx (l : List Int) : Int := l.foldl (fun m x => if x > m then x else m) 0
theorem mx_fold : ∀ (l : List Int) (a : Int), a ≤ l.foldl (fun m x => if x > m then x else m) a ∧ (∀ y ∈ l, y ≤ l.foldl (fun m x => if x > m then x else m) a) ∧ (l.foldl (fun m x => if x > m then x else m) a = a ∨ l.foldl (fun m x => if x > m then x else m) a ∈ l)
  | [], a => ⟨Int.le_refl _, (fun _ z => nomatch z), .inl rfl⟩
  | x :: l, a => by
    obtain ⟨h1, h2, h3⟩ := mx_fold l (if x > a then x else a)
    have e : a ≤ (if x > a then x else a) ∧ x ≤ (if x > a then x else a) ∧ ((if x > a then x else a) = a ∨ (if x > a then x else a) = x) := by split <;> omega
    rw [List.foldl_cons]
    refine ⟨by omega, fun y hy => ?_, ?_⟩
    · rcases List.mem_cons.mp hy with z | z
      · rw [z]
        omega
      · exact h2 y z
    · rcases h3 with z | z
      · rcases e.2.2 with u | u
        · exact .inl (z.trans u)
        · exact .inr (List.mem_cons.mpr (.inl (z.trans u)))
      · exact .inr (List.mem_cons.mpr (.inr z))
theorem mx_is {l : List Int} {m : Int} (h : m ∈ l) (hm : ∀ y ∈ l, y ≤ m) (h0 : ∀ y ∈ l, 0 ≤ y) : mx l = m := by
  obtain ⟨h1, h2, h3⟩ := mx_fold l 0
  have a := h2 m h
  have b := h0 m h
  unfold mx
  rcases h3 with z | z
  · omega
  · have := hm _ z
    omega
theorem mx_nn (l : List Int) : 0 ≤ mx l := (mx_fold l 0).1
def dep (ds : List Int) : Gt → Int
  | .w _ ws => 1 + mx (ws.map fun a => ds.getD a 0)
  | .fi _ => 0
theorem dep_nn (ds : List Int) (g : Gt) : 0 ≤ dep ds g := by
  cases g with
  | w k ws =>
    have := mx_nn (ws.map fun a => ds.getD a 0)
    show 0 ≤ 1 + mx (ws.map fun a => ds.getD a 0)
    omega
  | fi b => exact Int.le_refl _
def dps (m : Nat) (gs : List Gt) : List Int := gs.foldl (fun ds g => ds ++ [dep ds g]) (List.replicate m 0)
theorem dps_snoc (m : Nat) (gs : List Gt) (g : Gt) : dps m (gs ++ [g]) = dps m gs ++ [dep (dps m gs) g] := by
  unfold dps
  rw [List.foldl_append]
  rfl
theorem dps_fold : ∀ (gs : List Gt) (ds : List Int), (∀ d ∈ ds, 0 ≤ d) → (gs.foldl (fun ds g => ds ++ [dep ds g]) ds).length = ds.length + gs.length ∧ ∀ d ∈ gs.foldl (fun ds g => ds ++ [dep ds g]) ds, 0 ≤ d
  | [], ds, h => ⟨rfl, h⟩
  | g :: gs, ds, h => by
    have a := dps_fold gs (ds ++ [dep ds g]) (fun d hd => by
      rcases List.mem_append.mp hd with z | z
      · exact h d z
      · rw [List.mem_singleton.mp z]
        exact dep_nn ds g)
    rw [List.foldl_cons]
    refine ⟨?_, a.2⟩
    rw [a.1, List.length_append, List.length_cons, List.length_cons, List.length_nil]
    omega
theorem dps_len (m : Nat) (gs : List Gt) : (dps m gs).length = m + gs.length := by
  have a := (dps_fold gs (List.replicate m 0) (fun d hd => by rw [List.eq_of_mem_replicate hd]; exact Int.le_refl _)).1
  rw [List.length_replicate] at a
  exact a
theorem dps_nn (m : Nat) (gs : List Gt) : ∀ d ∈ dps m gs, 0 ≤ d := (dps_fold gs (List.replicate m 0) (fun d hd => by rw [List.eq_of_mem_replicate hd]; exact Int.le_refl _)).2
structure NetP where
  x : Addr
  lm : Addr
  ld : Addr
  dn : Addr
def GsAt (Z : List Addr) (H : Hp) (ps : List Addr) (gs : List Gt) : Prop := ps.length = gs.length ∧ ∀ (i : Nat) (q : Addr) (g : Gt), ps[i]? = some q → gs[i]? = some g → q ∉ Z ∧ H q = some (.tup g.row)
def NmAt (Z : List Addr) (H : Hp) (p : NetP) (kvs : List (Key × V)) (nm : List (Str × List Nat)) : Prop :=
  kvs.length = nm.length ∧ (nm.map (·.1)).Nodup ∧ ∀ (i : Nat) (k : Key) (v : V) (n : Str) (ws : List Nat), kvs[i]? = some (k, v) → nm[i]? = some (n, ws) → k = .inr n ∧ ∃ l, v = .ref l ∧ l ∉ Z ∧ l ≠ p.lm ∧ l ≠ p.ld ∧ H l = some (.lst (nts ws))
def NetAt (C : Addr) (Z : List Addr) (H : Hp) (p : NetP) (m : Nat) (gs : List Gt) (nm : List (Str × List Nat)) : Prop :=
  (∀ z ∈ Z, H z ≠ none) ∧ p.lm ≠ p.ld ∧ (p.x ∉ Z ∧ p.lm ∉ Z ∧ p.ld ∉ Z ∧ p.dn ∉ Z) ∧ ∃ dx ps kvs, H p.x = some (.ins C dx [("input_count", .int (m : Int)), ("made", .ref p.lm), ("depths", .ref p.ld), ("by_name", .ref p.dn)]) ∧
    H p.lm = some (.lst (ps.map V.ref)) ∧ H p.ld = some (.lst ((dps m gs).map V.int)) ∧ H p.dn = some (.dK kvs) ∧ GsAt Z H ps gs ∧ NmAt Z H p kvs nm
theorem NetAt.keep {C : Addr} {S Z : List Addr} {H H' : Hp} {p : NetP} {m : Nat} {gs : List Gt} {nm : List (Str × List Nat)} (h : NetAt C Z H p m gs nm) (k : KeepS S H H') (hs : ∀ y ∈ S, y ∈ Z) : NetAt C Z H' p m gs nm := by
  obtain ⟨a, b, ⟨c1, c2, c3, c4⟩, dx, ps, kvs, e1, e2, e3, e4, ⟨g1, g2⟩, n1, n2, n3⟩ := h
  have f : ∀ {y : Addr} {o : HO}, y ∉ Z → H y = some o → H' y = some o := fun n e => k.1 _ _ e (fun z => n (hs _ z))
  refine ⟨fun z hz => k.2 z (a z hz), b, ⟨c1, c2, c3, c4⟩, dx, ps, kvs, f c1 e1, f c2 e2, f c3 e3, f c4 e4, ⟨g1, fun i q g hi hg => ?_⟩, n1, n2, fun i k v n ws hi hn => ?_⟩
  · have := g2 i q g hi hg
    exact ⟨this.1, f this.1 this.2⟩
  · obtain ⟨ek, l, ev, l1, l2, l3, l4⟩ := n3 i k v n ws hi hn
    exact ⟨ek, l, ev, l1, l2, l3, f l1 l4⟩
theorem NetAt.same {C : Addr} {Z : List Addr} {H H' : Hp} {p : NetP} {m : Nat} {gs : List Gt} {nm : List (Str × List Nat)} (h : NetAt C Z H p m gs nm) (s : Same H H') : NetAt C Z H' p m gs nm := h.keep (S := []) (.ofSame s) (fun _ z => nomatch z)
theorem NetAt.keepB {C b : Addr} {Z : List Addr} {H H' : Hp} {p : NetP} {m : Nat} {gs : List Gt} {nm : List (Str × List Nat)} (h : NetAt C Z H p m gs nm) (k : Keep b H H') (hb : H' b ≠ none) (m' : b ∈ Z) : NetAt C Z H' p m gs nm := h.keep (S := [b]) (.ofKeep k (List.mem_singleton.mpr rfl) hb) (fun y hy => by rw [List.mem_singleton.mp hy]; exact m')
theorem BoxAt.some {c : Int} {H : Hp} {b : Addr} (h : BoxAt c H b) : H b ≠ none := by
  obtain ⟨_, _, _, e, _⟩ := h
  exact some_ne e
theorem made {C : Addr} {H : Hp} {x dx : Addr} (nx : H x = none) (nd : H dx = none) (ne : dx ≠ x) {H' : Hp} (k : ∀ p o, (upd (upd H dx (.own x)) x (.ins C dx [])) p = some o → p ≠ x → H' p = some o) : Same H H' := fun p o e =>
  k p o (by rw [upd_ne (ne_of_none e nx), upd_ne (ne_of_none e nd)]; exact e) (ne_of_none e nx)
theorem units1 {k : Nat} {A : Around} (r : Room k A) : A.units + 1 < cLine := by have := r.un; omega
theorem pi_or {X : Cx} {tg e : Expr} {i j : TI} (h1 : PI X tg e i) (h2 : PI X tg e j) : PI X tg e (fun σ H R => i σ H R ∨ j σ H R) := ⟨fun pins s σ H R I h => h.elim (fun a => h1.run pins s σ H R I a) (fun b => h2.run pins s σ H R I b)⟩
structure FT (K : PySem.W.Frag) (mg : Str → Option Value) (C : Addr) : Prop where
  cl : Cls K C
  n_input_count : NoAttr K C "input_count"
  n_made : NoAttr K C "made"
  n_depths : NoAttr K C "depths"
  n_by_name : NoAttr K C "by_name"
  mgC : mg "Net" = some (.ref C)
structure LL (K : PySem.W.Frag) (mg : Str → Option Value) (C : Addr) (za : Nat → Addr) (zl : Nat → FuncData) (E_NoWire I_NoWire E_NoName I_NoName E_Taken I_Taken E_BadForm E_BadText E_BadRow E_Unfit E_TooFew E_NoStep E_Undone E_Busy E_NoPlace E_NoDeed E_NoStage E_BadDeed E_TooMuch E_Stuck : Addr) : Prop where
  F__law_box : Fun K "_law_box" "_law_box" sBox (za 1) (zl 1)
  m__law_box : mg "_law_box" = some (.ref (za 1))
  b__law_box : Binds K (zl 1) ["_law_script", "_law_k"] []
  F__law_take : Fun K "_law_take" "_law_take" sTake (za 2) (zl 2)
  m__law_take : mg "_law_take" = some (.ref (za 2))
  b__law_take : Binds K (zl 2) ["_law_box_here", "_law_size"] []
  F__law_same : Fun K "_law_same" "_law_same" sSame (za 3) (zl 3)
  m__law_same : mg "_law_same" = some (.ref (za 3))
  b__law_same : Binds K (zl 3) ["_law_found", "_law_due"] []
  F__law_classes : Fun K "_law_classes" "_law_classes" s__law_classes (za 4) (zl 4)
  m__law_classes : mg "_law_classes" = some (.ref (za 4))
  b__law_classes : Binds K (zl 4) ["_law_caught"] []
  F__law_names : Fun K "_law_names" "_law_names" s__law_names (za 5) (zl 5)
  m__law_names : mg "_law_names" = some (.ref (za 5))
  b__law_names : Binds K (zl 5) ["_law_box_here", "_law_size"] []
  F__law_gates : Fun K "_law_gates" "_law_gates" s__law_gates (za 6) (zl 6)
  m__law_gates : mg "_law_gates" = some (.ref (za 6))
  b__law_gates : Binds K (zl 6) ["_law_box_here", "_law_wide", "_law_size"] []
  F__law_made : Fun K "_law_made" "_law_made" s__law_made (za 7) (zl 7)
  m__law_made : mg "_law_made" = some (.ref (za 7))
  b__law_made : Binds K (zl 7) ["_law_rows", "_law_wide"] []
  F__law_two : Fun K "_law_two" "_law_two" s__law_two (za 8) (zl 8)
  m__law_two : mg "_law_two" = some (.ref (za 8))
  b__law_two : Binds K (zl 8) ["_law_net", "_law_how", "_law_wires"] []
  F__law_asked : Fun K "_law_asked" "_law_asked" s__law_asked (za 9) (zl 9)
  m__law_asked : mg "_law_asked" = some (.ref (za 9))
  b__law_asked : Binds K (zl 9) ["_law_net", "_law_how", "_law_wires", "_law_name"] []
  F__law_strange : Fun K "_law_strange" "_law_strange" s__law_strange (za 10) (zl 10)
  m__law_strange : mg "_law_strange" = some (.ref (za 10))
  b__law_strange : Binds K (zl 10) ["_law_box_here", "_law_there"] []
  F__law_told : Fun K "_law_told" "_law_told" s__law_told (za 11) (zl 11)
  m__law_told : mg "_law_told" = some (.ref (za 11))
  b__law_told : Binds K (zl 11) ["_law_net"] []
  F__law_ask_right : Fun K "_law_ask_right" "_law_ask_right" s__law_ask_right (za 12) (zl 12)
  m__law_ask_right : mg "_law_ask_right" = some (.ref (za 12))
  b__law_ask_right : Binds K (zl 12) ["_law_box_here", "_law_net", "_law_names_here"] []
  T : FT K mg C
  M : Mk K C (za 13)
  F_Net___init__ : Fun K "__init__" "Net.__init__" s_Net___init__ (za 13) (zl 13)
  b_Net___init__ : Binds K (zl 13) ["self", "many"] []
  F_Net_both : Fun K "both" "Net.both" s_Net_both (za 14) (zl 14)
  b_Net_both : Binds K (zl 14) ["self", "a", "b"] []
  M_Net_both : Meth K C "both" (za 14)
  F_Net_either : Fun K "either" "Net.either" s_Net_either (za 15) (zl 15)
  b_Net_either : Binds K (zl 15) ["self", "a", "b"] []
  M_Net_either : Meth K C "either" (za 15)
  F_Net_unlike : Fun K "unlike" "Net.unlike" s_Net_unlike (za 16) (zl 16)
  b_Net_unlike : Binds K (zl 16) ["self", "a", "b"] []
  M_Net_unlike : Meth K C "unlike" (za 16)
  F_Net_other : Fun K "other" "Net.other" s_Net_other (za 17) (zl 17)
  b_Net_other : Binds K (zl 17) ["self", "a"] []
  M_Net_other : Meth K C "other" (za 17)
  F_Net_fixed : Fun K "fixed" "Net.fixed" s_Net_fixed (za 18) (zl 18)
  b_Net_fixed : Binds K (zl 18) ["self", "bit"] []
  M_Net_fixed : Meth K C "fixed" (za 18)
  F_Net_put : Fun K "put" "Net.put" s_Net_put (za 19) (zl 19)
  b_Net_put : Binds K (zl 19) ["self", "kind", "wires"] []
  M_Net_put : Meth K C "put" (za 19)
  F_Net_put_gate : Fun K "put_gate" "Net.put_gate" s_Net_put_gate (za 20) (zl 20)
  b_Net_put_gate : Binds K (zl 20) ["self", "gate", "depth"] []
  M_Net_put_gate : Meth K C "put_gate" (za 20)
  F_Net_need : Fun K "need" "Net.need" s_Net_need (za 21) (zl 21)
  b_Net_need : Binds K (zl 21) ["self", "wires"] []
  M_Net_need : Meth K C "need" (za 21)
  F_Net_give : Fun K "give" "Net.give" s_Net_give (za 22) (zl 22)
  b_Net_give : Binds K (zl 22) ["self", "name", "wires"] []
  M_Net_give : Meth K C "give" (za 22)
  F_Net_given : Fun K "given" "Net.given" s_Net_given (za 23) (zl 23)
  b_Net_given : Binds K (zl 23) ["self", "name"] []
  M_Net_given : Meth K C "given" (za 23)
  F_Net_names : Fun K "names" "Net.names" s_Net_names (za 24) (zl 24)
  b_Net_names : Binds K (zl 24) ["self"] []
  M_Net_names : Meth K C "names" (za 24)
  F_Net_inputs : Fun K "inputs" "Net.inputs" s_Net_inputs (za 25) (zl 25)
  b_Net_inputs : Binds K (zl 25) ["self"] []
  M_Net_inputs : Meth K C "inputs" (za 25)
  F_Net_gates : Fun K "gates" "Net.gates" s_Net_gates (za 26) (zl 26)
  b_Net_gates : Binds K (zl 26) ["self"] []
  M_Net_gates : Meth K C "gates" (za 26)
  F_Net_depth : Fun K "depth" "Net.depth" s_Net_depth (za 27) (zl 27)
  b_Net_depth : Binds K (zl 27) ["self", "wire"] []
  M_Net_depth : Meth K C "depth" (za 27)
  F_Net___len__ : Fun K "__len__" "Net.__len__" s_Net___len__ (za 28) (zl 28)
  b_Net___len__ : Binds K (zl 28) ["self"] []
  M_Net___len__ : Meth K C "__len__" (za 28)
  z_sorted : mg "sorted" = none
  g_NoWire : mg "NoWire" = some (.ref E_NoWire)
  R_NoWire : PySem.WhX.ErrR K E_NoWire I_NoWire
  x_NoWire : PySem.W.exmOne K (.ref E_NoWire) (.ref E_NoWire) = some true
  g_NoName : mg "NoName" = some (.ref E_NoName)
  R_NoName : PySem.WhX.ErrR K E_NoName I_NoName
  x_NoName : PySem.W.exmOne K (.ref E_NoName) (.ref E_NoName) = some true
  g_Taken : mg "Taken" = some (.ref E_Taken)
  R_Taken : PySem.WhX.ErrR K E_Taken I_Taken
  x_Taken : PySem.W.exmOne K (.ref E_Taken) (.ref E_Taken) = some true
  g_BadForm : mg "BadForm" = some (.ref E_BadForm)
  g_BadText : mg "BadText" = some (.ref E_BadText)
  g_BadRow : mg "BadRow" = some (.ref E_BadRow)
  g_Unfit : mg "Unfit" = some (.ref E_Unfit)
  g_TooFew : mg "TooFew" = some (.ref E_TooFew)
  g_NoStep : mg "NoStep" = some (.ref E_NoStep)
  g_Undone : mg "Undone" = some (.ref E_Undone)
  g_Busy : mg "Busy" = some (.ref E_Busy)
  g_NoPlace : mg "NoPlace" = some (.ref E_NoPlace)
  g_NoDeed : mg "NoDeed" = some (.ref E_NoDeed)
  g_NoStage : mg "NoStage" = some (.ref E_NoStage)
  g_BadDeed : mg "BadDeed" = some (.ref E_BadDeed)
  g_TooMuch : mg "TooMuch" = some (.ref E_TooMuch)
  g_Stuck : mg "Stuck" = some (.ref E_Stuck)
  z_IndexError : mg "IndexError" = none
  z_KeyError : mg "KeyError" = none
  z_LookupError : mg "LookupError" = none
  q_NoWire_BadForm : PySem.W.kitOne K (.ref E_NoWire) (.ref E_BadForm) = some false
  q_NoWire_BadText : PySem.W.kitOne K (.ref E_NoWire) (.ref E_BadText) = some false
  q_NoWire_BadRow : PySem.W.kitOne K (.ref E_NoWire) (.ref E_BadRow) = some false
  q_NoWire_Unfit : PySem.W.kitOne K (.ref E_NoWire) (.ref E_Unfit) = some false
  q_NoWire_TooFew : PySem.W.kitOne K (.ref E_NoWire) (.ref E_TooFew) = some false
  q_NoWire_NoStep : PySem.W.kitOne K (.ref E_NoWire) (.ref E_NoStep) = some false
  q_NoWire_Undone : PySem.W.kitOne K (.ref E_NoWire) (.ref E_Undone) = some false
  q_NoWire_Busy : PySem.W.kitOne K (.ref E_NoWire) (.ref E_Busy) = some false
  q_NoWire_NoWire : PySem.W.kitOne K (.ref E_NoWire) (.ref E_NoWire) = some true
  q_NoWire_NoPlace : PySem.W.kitOne K (.ref E_NoWire) (.ref E_NoPlace) = some false
  q_NoWire_NoDeed : PySem.W.kitOne K (.ref E_NoWire) (.ref E_NoDeed) = some false
  q_NoWire_NoName : PySem.W.kitOne K (.ref E_NoWire) (.ref E_NoName) = some false
  q_NoWire_NoStage : PySem.W.kitOne K (.ref E_NoWire) (.ref E_NoStage) = some false
  q_NoWire_Taken : PySem.W.kitOne K (.ref E_NoWire) (.ref E_Taken) = some false
  q_NoWire_BadDeed : PySem.W.kitOne K (.ref E_NoWire) (.ref E_BadDeed) = some false
  q_NoWire_TooMuch : PySem.W.kitOne K (.ref E_NoWire) (.ref E_TooMuch) = some false
  q_NoWire_Stuck : PySem.W.kitOne K (.ref E_NoWire) (.ref E_Stuck) = some false
  q_NoName_BadForm : PySem.W.kitOne K (.ref E_NoName) (.ref E_BadForm) = some false
  q_NoName_BadText : PySem.W.kitOne K (.ref E_NoName) (.ref E_BadText) = some false
  q_NoName_BadRow : PySem.W.kitOne K (.ref E_NoName) (.ref E_BadRow) = some false
  q_NoName_Unfit : PySem.W.kitOne K (.ref E_NoName) (.ref E_Unfit) = some false
  q_NoName_TooFew : PySem.W.kitOne K (.ref E_NoName) (.ref E_TooFew) = some false
  q_NoName_NoStep : PySem.W.kitOne K (.ref E_NoName) (.ref E_NoStep) = some false
  q_NoName_Undone : PySem.W.kitOne K (.ref E_NoName) (.ref E_Undone) = some false
  q_NoName_Busy : PySem.W.kitOne K (.ref E_NoName) (.ref E_Busy) = some false
  q_NoName_NoWire : PySem.W.kitOne K (.ref E_NoName) (.ref E_NoWire) = some false
  q_NoName_NoPlace : PySem.W.kitOne K (.ref E_NoName) (.ref E_NoPlace) = some false
  q_NoName_NoDeed : PySem.W.kitOne K (.ref E_NoName) (.ref E_NoDeed) = some false
  q_NoName_NoName : PySem.W.kitOne K (.ref E_NoName) (.ref E_NoName) = some true
  q_NoName_NoStage : PySem.W.kitOne K (.ref E_NoName) (.ref E_NoStage) = some false
  q_NoName_Taken : PySem.W.kitOne K (.ref E_NoName) (.ref E_Taken) = some false
  q_NoName_BadDeed : PySem.W.kitOne K (.ref E_NoName) (.ref E_BadDeed) = some false
  q_NoName_TooMuch : PySem.W.kitOne K (.ref E_NoName) (.ref E_TooMuch) = some false
  q_NoName_Stuck : PySem.W.kitOne K (.ref E_NoName) (.ref E_Stuck) = some false
  q_Taken_BadForm : PySem.W.kitOne K (.ref E_Taken) (.ref E_BadForm) = some false
  q_Taken_BadText : PySem.W.kitOne K (.ref E_Taken) (.ref E_BadText) = some false
  q_Taken_BadRow : PySem.W.kitOne K (.ref E_Taken) (.ref E_BadRow) = some false
  q_Taken_Unfit : PySem.W.kitOne K (.ref E_Taken) (.ref E_Unfit) = some false
  q_Taken_TooFew : PySem.W.kitOne K (.ref E_Taken) (.ref E_TooFew) = some false
  q_Taken_NoStep : PySem.W.kitOne K (.ref E_Taken) (.ref E_NoStep) = some false
  q_Taken_Undone : PySem.W.kitOne K (.ref E_Taken) (.ref E_Undone) = some false
  q_Taken_Busy : PySem.W.kitOne K (.ref E_Taken) (.ref E_Busy) = some false
  q_Taken_NoWire : PySem.W.kitOne K (.ref E_Taken) (.ref E_NoWire) = some false
  q_Taken_NoPlace : PySem.W.kitOne K (.ref E_Taken) (.ref E_NoPlace) = some false
  q_Taken_NoDeed : PySem.W.kitOne K (.ref E_Taken) (.ref E_NoDeed) = some false
  q_Taken_NoName : PySem.W.kitOne K (.ref E_Taken) (.ref E_NoName) = some false
  q_Taken_NoStage : PySem.W.kitOne K (.ref E_Taken) (.ref E_NoStage) = some false
  q_Taken_Taken : PySem.W.kitOne K (.ref E_Taken) (.ref E_Taken) = some true
  q_Taken_BadDeed : PySem.W.kitOne K (.ref E_Taken) (.ref E_BadDeed) = some false
  q_Taken_TooMuch : PySem.W.kitOne K (.ref E_Taken) (.ref E_TooMuch) = some false
  q_Taken_Stuck : PySem.W.kitOne K (.ref E_Taken) (.ref E_Stuck) = some false
  q_NoWire_IndexError : PySem.W.kitOne K (.ref E_NoWire) (.type "IndexError") = some true
  q_NoWire_KeyError : PySem.W.kitOne K (.ref E_NoWire) (.type "KeyError") = some false
  q_NoWire_LookupError : PySem.W.kitOne K (.ref E_NoWire) (.type "LookupError") = some true
  q_NoName_IndexError : PySem.W.kitOne K (.ref E_NoName) (.type "IndexError") = some false
  q_NoName_KeyError : PySem.W.kitOne K (.ref E_NoName) (.type "KeyError") = some true
  q_NoName_LookupError : PySem.W.kitOne K (.ref E_NoName) (.type "LookupError") = some true
  q_Taken_IndexError : PySem.W.kitOne K (.ref E_Taken) (.type "IndexError") = some false
  q_Taken_KeyError : PySem.W.kitOne K (.ref E_Taken) (.type "KeyError") = some false
  q_Taken_LookupError : PySem.W.kitOne K (.ref E_Taken) (.type "LookupError") = some true
  y_NoWire_NoName : PySem.W.exmOne K (.ref E_NoWire) (.ref E_NoName) = some false
  y_NoWire_Taken : PySem.W.exmOne K (.ref E_NoWire) (.ref E_Taken) = some false
  y_NoName_NoWire : PySem.W.exmOne K (.ref E_NoName) (.ref E_NoWire) = some false
  y_NoName_Taken : PySem.W.exmOne K (.ref E_NoName) (.ref E_Taken) = some false
  y_Taken_NoWire : PySem.W.exmOne K (.ref E_Taken) (.ref E_NoWire) = some false
  y_Taken_NoName : PySem.W.exmOne K (.ref E_Taken) (.ref E_NoName) = some false
variable {C : Addr} {za : Nat → Addr} {zl : Nat → FuncData} {E_NoWire I_NoWire E_NoName I_NoName E_Taken I_Taken E_BadForm E_BadText E_BadRow E_Unfit E_TooFew E_NoStep E_Undone E_Busy E_NoPlace E_NoDeed E_NoStage E_BadDeed E_TooMuch E_Stuck : Addr}

end
theorem gset_if2 {i : Nat} {v : V} {σ : L2.St} {H : Hp} {c : TT} {t u r : TS} {D : Ends} (h : tIfS c t u { D with nx := r D } (σ.set i (some v)) H) : gName i v σ H ({ D with nx := tSeq (tIfS c t u) r D } : Ends).nx := h
theorem gset_if {σ : L2.St} {H : Hp} {c : TT} {t u r : TS} {D : Ends} (h : tIfS c t u { D with nx := r D } σ H) : tSeq (tIfS c t u) r D σ H := h
theorem ifS_cut {c : TT} {t u : TS} {D : Ends} {σ : L2.St} {H : Hp} (R : L2.St → Hp → Prop) (h : ∀ D' : Ends, (∀ σ' H', R σ' H' → D'.nx σ' H') → tIfS c t u D' σ H) (q : ∀ σ' H', R σ' H' → D.nx σ' H') : tIfS c t u D σ H := h D q
theorem ifS_ev {c : TT} {t u : TS} {D : Ends} {σ : L2.St} {H : Hp} (R : Bool → Hp → Prop) (h : ∀ Q : Bool → Hp → Prop, (∀ z H', R z H' → Q z H') → c σ H Q) (q1 : ∀ H', R true H' → t D σ H') (q2 : ∀ H', R false H' → u D σ H') : tIfS c t u D σ H := h _ fun z H' r => by
  cases z with
  | true => exact q1 H' r
  | false => exact q2 H' r
theorem if_ev {t : TT} {ta tb : TE} {σ : L2.St} {H : Hp} {Q : VK} (R : V → Hp → Prop) (h : ∀ Q : VK, (∀ z H', R z H' → Q z H') → tIf t ta tb σ H Q) (q : ∀ z H', R z H' → Q z H') : tIf t ta tb σ H Q := h Q q
theorem and_ev {ta tb : TE} {σ : L2.St} {H : Hp} {Q : VK} (R : V → Hp → Prop) (h : ∀ Q : VK, (∀ z H', R z H' → Q z H') → tAndV ta tb σ H Q) (q : ∀ z H', R z H' → Q z H') : tAndV ta tb σ H Q := h Q q
theorem or_ev {ta tb : TE} {σ : L2.St} {H : Hp} {Q : VK} (R : V → Hp → Prop) (h : ∀ Q : VK, (∀ z H', R z H' → Q z H') → tOrV ta tb σ H Q) (q : ∀ z H', R z H' → Q z H') : tOrV ta tb σ H Q := h Q q
theorem ifset_ev {c : TT} {e : TE} {k : Nat} {D : Ends} {σ : L2.St} {H : Hp} {old : V} (hσ : σ.set k (some old) = σ) (R : V → Hp → Prop) (h : ∀ Q : VK, (∀ z H', R z H' → Q z H') → c σ H (fun b H1 => if b = true then e σ H1 Q else Q old H1)) (q : ∀ z H', R z H' → D.nx (σ.set k (some z)) H') : tIfS c (tAsg e (gName k)) tNext D σ H := by
  have t := h (fun z H' => D.nx (σ.set k (some z)) H') q
  rw [hσ] at t
  exact t
theorem two_cut {t : TE} {g : TG} {c : TT} {a b r : TS} {D : Ends} {σ : L2.St} {H : Hp} (R : L2.St → Hp → Prop) (h : ∀ D' : Ends, (∀ σ' H', R σ' H' → D'.nx σ' H') → tSeq (tAsg t g) (tIfS c a b) D' σ H) (q : ∀ σ' H', R σ' H' → r D σ' H') : tSeq (tAsg t g) (tSeq (tIfS c a b) r) D σ H := h { D with nx := r D } q
theorem org80 {ta tb : TE} {σ : L2.St} {H : Hp} {Q : VK} {c d : Bool} (ha : ∀ Q : VK, Q (.bl c) H → ta σ H Q) (hb : ∀ Q : VK, Q (.bl d) H → tb σ H Q) (h : Q (.bl (c || d)) H) : tOrV ta tb σ H Q := by
  refine ha _ ⟨c, rfl, ?_⟩
  cases c
  · exact hb _ h
  · exact h
theorem gnext_if18 {σ : L2.St} {H : Hp} {c : TT} {t u : TS} {r : TS} {D : Ends} (h : tIfS c t u { D with nx := r D } σ H) : tNext ({ D with nx := tSeq (tIfS c t u) r D } : Ends) σ H := h
theorem ret_if18 {c : TT} {ta tb : TE} {D : Ends} {σ : L2.St} {H : Hp} (R : Bool → Hp → Prop) (h : ∀ Q : Bool → Hp → Prop, (∀ z H', R z H' → Q z H') → c σ H Q) (q1 : ∀ H', R true H' → ta σ H' D.rt) (q2 : ∀ H', R false H' → tb σ H' D.rt) : tRet (tIf c ta tb) D σ H := h _ fun z H' r => by
  cases z with
  | true => exact q1 H' r
  | false => exact q2 H' r
theorem gset_if3 {i : Nat} {v : V} {σ : L2.St} {H : Hp} {c : TT} {t u r : TS} {D : Ends} (h : tIfS c t u { D with nx := r D } (σ.set i (some v)) H) : gName i v σ H (tSeq (tIfS c t u) r D) := h
theorem asg_ev {t : TE} {i : Nat} {r : TS} {D : Ends} {σ : L2.St} {H : Hp} (R : V → Hp → Prop) (h : ∀ Q : VK, (∀ z H', R z H' → Q z H') → t σ H Q) (q : ∀ z H', R z H' → r D (σ.set i (some z)) H') : tSeq (tAsg t (gName i)) r D σ H := h _ q
/-! ### len(x) of an own __len__ -/
theorem call_lenOwn {X : Cx} {C f : Addr} {fd : FuncData} {ps : List Str} {sp : Sp} {CI : CXT} {n : Nat} {E : XK} (hm : Meth X.K C "__len__" f) (FN : FnOk X.prog X.w X.K X.mg X.base CI n f fd ps sp) (bN : Binds X.K fd ps []) (hr : Room (n + 1) X.A) (hx : Passes CI X E) :
    CallR X (.builtin "len") (fun xs H Q => ∃ (x dx : Addr) (fs : List (Str × V)), xs = [.ref x] ∧ H x = some (.ins C dx fs) ∧ sp [.ref x] H (fun v H' => ∃ k : Int, v = .int k ∧ 0 ≤ k ∧ k < 2 ^ 63 ∧ Q (.int k) H') E) := by
  intro pins s σ H xs us Q I r h
  obtain ⟨a, dx, fs, rfl, ha, hsp⟩ := h
  obtain ⟨u, rfl, ru⟩ := vals1 r
  obtain rfl : u = Value.ref a := ru
  obtain ⟨mA, J, _⟩ := ins_get I.hok ha
  obtain ⟨od, J, _⟩ := J.look
  obtain ⟨m, hF⟩ := I.fr
  have sb : Sub X n X.A.in1 := Sub.in1 ⟨hr, rfl⟩
  refine PySem.W.len_K hF I.ok.mod.kin J hm.at_ hm.fn ?_
  have e0 : Env0 X.prog X.w X.K X.mg X.base X.A.in1 X.stack s H := by
    have e := I.env0
    exact ⟨by rw [sb.fr]; exact e.frames, e.mod, e.bs, e.bsz, e.funs, e.frf, e.hok, e.bare⟩
  have hl := FN.len _ _ _ _ hsp
  have r2 : Vals [V.ref a] [Value.ref a] := .cons rfl .nil
  refine wpAny_call (codeAny_mono (FN.run X.A.in1 X.stack s H ⟨[.ref a], []⟩ [.ref a] [.ref a] _ E sb.room e0 (by
    have := bN s [.ref a] I.kIn (by simpa using hl)
    simpa using this) r2 hsp) fun r s' hq => ?_)
  cases r with
  | error e => exact hx pins σ H s e s' I hq
  | ok fl =>
    cases fl with
    | ret u =>
      obtain ⟨v, H', I', rv, k, rfl, k0, k1, q⟩ := I.after hq
      obtain ⟨t, rfl⟩ := rv
      exact ⟨⟨k0, k1⟩, .int k, H', I'.tok _, ⟨_, rfl⟩, q⟩
    | next => exact False.elim hq
    | brk => exact False.elim hq
    | cont => exact False.elim hq
/-! ### a text so many times -/
def strRep (x : Str) (n : Nat) : Str := ⟨(List.replicate n x.cps).foldl (· ++ ·) #[]⟩
theorem strRep_len (x : Str) (n : Nat) : (strRep x n).length = n * x.length := by
  have key : ∀ (n : Nat) (a : Array Nat), ((List.replicate n x.cps).foldl (· ++ ·) a).size = a.size + n * x.cps.size := by
    intro n
    induction n with
    | zero => intro a; simp
    | succ k ih =>
      intro a
      rw [List.replicate_succ, List.foldl_cons, ih, Array.size_append, Nat.add_mul, Nat.one_mul]
      omega
  have := key n #[]
  show ((List.replicate n x.cps).foldl (· ++ ·) #[]).size = n * x.cps.size
  rw [this]
  simp
theorem op_mul_str {X : Cx} : OpR X (binaryOp .Mult) (fun x y H Q => ∃ (i : Str) (n : Nat), x = .str i ∧ y = .int (n : Int) ∧ i.length ≤ 1000 ∧ n ≤ 1000 ∧ Q (.str (strRep i n)) H) := by
  intro pins s σ H x y v u Q I rx ry h
  obtain ⟨i, n, rfl, rfl, h1, h2, q⟩ := h
  obtain ⟨t, rfl⟩ := rx
  obtain ⟨t', rfl⟩ := ry
  have hm : i.length * n ≤ 1000 * 1000 := Nat.mul_le_mul h1 h2
  refine P.mul_str (by rw [decide_eq_false (by omega), decide_eq_false (by omega)]; rfl) (fun c _ => ?_) (fun c _ => ?_) ?_
  · have : (1 : Int) ≤ n := by omega
    have hd : ((2 ^ 63 - 1 : Int)) / 1000 ≤ (2 ^ 63 - 1) / (n : Int) := by
      refine Int.le_ediv_of_mul_le (by omega) ?_
      have : ((2 ^ 63 - 1 : Int) / 1000) * n ≤ (2 ^ 63 - 1) / 1000 * 1000 := Int.mul_le_mul_of_nonneg_left (by omega) (by decide)
      have e : ((2 ^ 63 - 1 : Int) / 1000) * 1000 ≤ 2 ^ 63 - 1 := by decide
      omega
    have e2 : (1000 : Int) ≤ (2 ^ 63 - 1) / 1000 := by decide
    omega
  · rw [Int.toNat_natCast]
    unfold Builtin.Str.tooLong
    have : (1000 * 1000 : Nat) ≤ sizeLine := by decide
    simp only [decide_eq_false_iff_not]
    omega
  · have fin : ∀ (tk : Nat), EP X pins σ Q (.str (strRep i n) tk) s := fun tk => ⟨.str (strRep i n), H, I, ⟨_, rfl⟩, q⟩
    by_cases c : (n : Int) < 1
    · rw [if_pos c]
      have n0 : n = 0 := by omega
      subst n0
      exact ⟨by decide, ⟨.str (strRep i 0), H, I.tok _, ⟨_, rfl⟩, q⟩⟩
    · rw [if_neg c]
      by_cases c2 : ((n : Int) == 1 || i.length == 0) = true
      · rw [if_pos c2]
        have e : strRep i n = i := by
          rcases Bool.or_eq_true_iff.mp c2 with z | z
          · have n1 : n = 1 := by
              have := beq_iff_eq.mp z
              omega
            subst n1
            show (⟨#[] ++ i.cps⟩ : Str) = i
            rw [Array.empty_append]
          · have l0 : (strRep i n).length = 0 := by rw [strRep_len, beq_iff_eq.mp z, Nat.mul_zero]
            have a : (strRep i n).cps = #[] := Array.eq_empty_of_size_eq_zero l0
            have b : i.cps = #[] := Array.eq_empty_of_size_eq_zero (beq_iff_eq.mp z)
            show strRep i n = i
            cases h5 : strRep i n
            cases i
            rw [h5] at a
            dsimp only at a b
            rw [a, b]
        rw [e] at q
        exact ⟨.str i, H, I, ⟨_, rfl⟩, q⟩
      · rw [if_neg c2]
        refine ⟨?_, ⟨.str (strRep i n), H, I.tok _, ⟨_, rfl⟩, q⟩⟩
        have := strRep_len i n
        have : (1000 * 1000 : Nat) ≤ sizeLine := by decide
        show (strRep i n).length ≤ sizeLine
        rw [strRep_len, Nat.mul_comm]
        omega
/-! ### == and != of things that read as data, whatever their texts -/
theorem op_nePl {X : Cx} (hu : X.A.units + 64 < cLine) : OpR X (compareOp .NotEq) (fun x y H Q => ∃ d e, Dp X.K H x d ∧ Dp X.K H y e ∧ d.plain = true ∧ e.plain = true ∧ d.depth ≤ 64 ∧ Q (.bl (!PyData.eqv d e)) H) := by
  intro pins s σ H x y v u Q I rx ry h
  obtain ⟨d, e, hd, he, sd, se, dd, q⟩ := h
  obtain ⟨as, r1⟩ := Dp.reads I d x v hd rx
  obtain ⟨bs, r2⟩ := Dp.reads I e y u he ry
  refine SeqAt.ne_plain r1 r2 sd se ?_ ⟨.bl _, H, I, rfl, q⟩
  have := Nat.min_le_left d.depth e.depth
  omega
theorem op_eqPl {X : Cx} (hu : X.A.units + 64 < cLine) : OpR X (compareOp .Eq) (fun x y H Q => ∃ d e, Dp X.K H x d ∧ Dp X.K H y e ∧ d.plain = true ∧ e.plain = true ∧ d.depth ≤ 64 ∧ Q (.bl (PyData.eqv d e)) H) := by
  intro pins s σ H x y v u Q I rx ry h
  obtain ⟨d, e, hd, he, sd, se, dd, q⟩ := h
  obtain ⟨as, r1⟩ := Dp.reads I d x v hd rx
  obtain ⟨bs, r2⟩ := Dp.reads I e y u he ry
  refine SeqAt.eq_plain r1 r2 sd se ?_ ⟨.bl _, H, I, rfl, q⟩
  have := Nat.min_le_left d.depth e.depth
  omega
theorem pl_all : ∀ ds : List PyData, (∀ d ∈ ds, d.plain = true ∧ d.depth ≤ 50) → PyData.plainAll ds = true ∧ PyData.depthAll ds ≤ 50
  | [], _ => ⟨rfl, by simp [PyData.depthAll]⟩
  | d :: ds, h => by
    obtain ⟨a, b⟩ := pl_all ds fun e he => h e (List.mem_cons_of_mem _ he)
    obtain ⟨a1, b1⟩ := h d (List.mem_cons_self ..)
    refine ⟨by rw [PyData.plainAll, a1, a]; rfl, ?_⟩
    simp only [PyData.depthAll]
    omega
theorem pl_list {ds : List PyData} (h : ∀ d ∈ ds, d.plain = true ∧ d.depth ≤ 50) : (PyData.list ds).plain = true ∧ (PyData.list ds).depth ≤ 64 := by
  obtain ⟨a, b⟩ := pl_all ds h
  refine ⟨a, ?_⟩
  simp only [PyData.depth]
  omega
section
variable {P : Program} {w : World} {K : PySem.W.Frag} {mg : Str → Option Value} {base : Heap}
variable {C : Addr} {za : Nat → Addr} {zl : Nat → FuncData} {E_NoWire I_NoWire E_NoName I_NoName E_Taken I_Taken E_BadForm E_BadText E_BadRow E_Unfit E_TooFew E_NoStep E_Undone E_Busy E_NoPlace E_NoDeed E_NoStage E_BadDeed E_TooMuch E_Stuck : Addr}
/-! ### a net's gates -/
theorem flat_rep (m : Nat) (v : V) : (List.replicate m [v]).flatten = List.replicate m v := by
  induction m with
  | zero => rfl
  | succ k ih =>
    rw [List.replicate_succ, List.flatten_cons, ih, List.replicate_succ]
    rfl
def spNetI (C : Addr) : Sp := fun vs H Q _ => ∃ (x dx : Addr) (m : Nat), vs = [.ref x, .int (m : Int)] ∧ H x = some (.ins C dx []) ∧ m ≤ 100000 ∧
  ∀ (p : NetP) (H' : Hp), p.x = x → (∀ y o, H y = some o → y ≠ x → H' y = some o) → (H p.lm = none ∧ H p.ld = none ∧ H p.dn = none) → (∀ Z : List Addr, (∀ z ∈ Z, z ≠ x ∧ H z ≠ none) → NetAt C Z H' p m [] []) → Q .non H'
theorem ok_Net___init__ (B : Bl mg) (L : LL K mg C za zl E_NoWire I_NoWire E_NoName I_NoName E_Taken I_Taken E_BadForm E_BadText E_BadRow E_Unfit E_TooFew E_NoStep E_Undone E_Busy E_NoPlace E_NoDeed E_NoStage E_BadDeed E_TooMuch E_Stuck) : FnOk P w K mg base CX0 1 (za 13) (zl 13) ["self", "many"] (spNetI C) := by
  refine L.F_Net___init__.ok sc_Net___init__ (fun vs H Q E h => ?_) (fun cdv A outer s H vs Q E hr h => ?_)
  · obtain ⟨x, dx, m, rfl, _⟩ := h
    rfl
  obtain ⟨x, dx, m, rfl, hx, hm, q⟩ := h
  refine ⟨_, (pss_cons (ps_fld (pv 0) (pv 1) rfl)
    (pss_cons (ps_fld (pv 0) (pe_lst pa_nil) rfl)
    (pss_cons (ps_fld (pv 0) (pe_op op_rep (pe_lst (pa_cons pe_int pa_nil)) (pv 1)) rfl)
    (pss_one (ps_fld (pv 0) pe_dnewK rfl))))), ?_⟩
  refine ⟨_, rfl, _, rfl, x, C, dx, _, rfl, hx, L.T.cl, L.T.n_input_count, (by show 0 < 1000; decide), ?_⟩
  have a1 : (upd H x (.ins C dx (putF "input_count" (.int (m : Int)) []))) x = some (.ins C dx [("input_count", .int (m : Int))]) := upd_same
  have f1 : ∀ y o, H y = some o → y ≠ x → (upd H x (.ins C dx (putF "input_count" (.int (m : Int)) []))) y = some o := fun y o e n => by rw [upd_ne n]; exact e
  generalize upd H x (.ins C dx (putF "input_count" (.int (m : Int)) [])) = H1 at *
  refine ⟨Nat.zero_le _, fun lm nlm => ?_⟩
  have n1 : x ≠ lm := ne_of_none a1 nlm
  refine ⟨_, rfl, x, C, dx, _, rfl, by rw [upd_ne n1]; exact a1, L.T.cl, L.T.n_made, (by show 1 < 1000; decide), ?_⟩
  have a2 : (upd (upd H1 lm (.lst [])) x (.ins C dx (putF "made" (.ref lm) [("input_count", .int (m : Int))]))) x = some (.ins C dx [("input_count", .int (m : Int)), ("made", .ref lm)]) := upd_same
  have b2 : (upd (upd H1 lm (.lst [])) x (.ins C dx (putF "made" (.ref lm) [("input_count", .int (m : Int))]))) lm = some (.lst []) := by rw [upd_ne n1.symm, upd_same]
  have f2 : ∀ y o, H1 y = some o → y ≠ x → (upd (upd H1 lm (.lst [])) x (.ins C dx (putF "made" (.ref lm) [("input_count", .int (m : Int))]))) y = some o := fun y o e n => by rw [upd_ne n, upd_ne (ne_of_none e nlm)]; exact e
  generalize upd (upd H1 lm (.lst [])) x (.ins C dx (putF "made" (.ref lm) [("input_count", .int (m : Int))])) = H2 at *
  refine ⟨(by show 1 ≤ sizeLine; decide), fun z nz => ?_⟩
  refine ⟨_, rfl, z, (m : Int), _, rfl, rfl, upd_same, by omega, by omega, (by show 1 * ((m : Int)).toNat ≤ _; rw [Int.toNat_natCast, Nat.one_mul]; exact Nat.le_trans hm (by decide)), fun ld nld => ?_⟩
  have e0 : (List.replicate ((m : Int)).toNat [V.int 0]).flatten = (dps m []).map V.int := by
    rw [Int.toNat_natCast]
    show _ = (List.replicate m 0).map V.int
    rw [List.map_replicate]
    exact flat_rep m _
  rw [e0]
  have z1 := ne_of_none a2 nz
  have z2 := ne_of_none b2 nz
  have sz := same_upd (o := .lst [V.int 0]) nz
  have sd := same_upd (o := .lst ((dps m []).map V.int)) nld
  have l1 := ne_of_none (sz _ _ a2) nld
  have l2 := ne_of_none (sz _ _ b2) nld
  refine ⟨_, rfl, x, C, dx, _, rfl, sd _ _ (sz _ _ a2), L.T.cl, L.T.n_depths, (by show 2 < 1000; decide), ?_⟩
  have sA := sz.trans sd
  have b3 := sd _ _ (sz _ _ b2)
  have d3 : (upd (upd H2 z (.lst [V.int 0])) ld (.lst ((dps m []).map V.int))) ld = some (.lst ((dps m []).map V.int)) := upd_same
  generalize upd (upd H2 z (.lst [V.int 0])) ld (.lst ((dps m []).map V.int)) = H3 at *
  have a4 : (upd H3 x (.ins C dx (putF "depths" (.ref ld) [("input_count", .int (m : Int)), ("made", .ref lm)]))) x = some (.ins C dx [("input_count", .int (m : Int)), ("made", .ref lm), ("depths", .ref ld)]) := upd_same
  have f4 : ∀ y o, H3 y = some o → y ≠ x → (upd H3 x (.ins C dx (putF "depths" (.ref ld) [("input_count", .int (m : Int)), ("made", .ref lm)]))) y = some o := fun y o e n => by rw [upd_ne n]; exact e
  have b4 := f4 _ _ b3 n1.symm
  have d4 := f4 _ _ d3 l1.symm
  generalize upd H3 x (.ins C dx (putF "depths" (.ref ld) [("input_count", .int (m : Int)), ("made", .ref lm)])) = H4 at *
  refine fun dn ndn => ?_
  have a5 := ne_of_none a4 ndn
  have b5 := ne_of_none b4 ndn
  have d5 := ne_of_none d4 ndn
  have s5 := same_upd (o := .dK []) ndn
  refine ⟨_, rfl, x, C, dx, _, rfl, s5 _ _ a4, L.T.cl, L.T.n_by_name, (by show 3 < 1000; decide), ?_⟩
  have nn : ∀ (y : Addr), (∀ o, H y = some o → y ≠ x → False) → y ≠ x → H y = none := fun y h n => by
    cases e : H y with
    | none => rfl
    | some o => exact (h o e n).elim
  refine q ⟨x, lm, ld, dn⟩ _ rfl (fun y o e n => ?_) ⟨nn lm (fun o e n => by have := f1 _ _ e n; rw [nlm] at this; cases this) n1.symm, nn ld (fun o e n => by have := sz _ _ (f2 _ _ (f1 _ _ e n) n); rw [nld] at this; cases this) l1.symm, nn dn (fun o e n => by have := f4 _ _ (sA _ _ (f2 _ _ (f1 _ _ e n) n)) n; rw [ndn] at this; cases this) a5.symm⟩ (fun Z hZ => ?_)
  · rw [upd_ne n]
    exact s5 _ _ (f4 _ _ (sA _ _ (f2 _ _ (f1 _ _ e n) n)) n)
  have zz : ∀ a ∈ Z, a ≠ x ∧ a ≠ lm ∧ a ≠ ld ∧ a ≠ dn ∧ H4 a ≠ none := fun a ha => by
    obtain ⟨nx, h0⟩ := hZ a ha
    cases e : H a with
    | none => exact absurd e h0
    | some o =>
      have e1 := f1 _ _ e nx
      have e2 := f2 _ _ e1 nx
      have e4 := f4 _ _ (sA _ _ e2) nx
      exact ⟨nx, ne_of_none e1 nlm, ne_of_none (sz _ _ e2) nld, ne_of_none e4 ndn, some_ne e4⟩
  refine ⟨fun a ha => ?_, l2, ⟨fun h => (zz _ h).1 rfl, fun h => (zz _ h).2.1 rfl, fun h => (zz _ h).2.2.1 rfl, fun h => (zz _ h).2.2.2.1 rfl⟩, dx, [], [], upd_same, ?_, ?_, ?_, ⟨rfl, fun i q g h => by simp at h⟩, rfl, List.nodup_nil, fun i k v n ws h => by simp at h⟩
  · rw [upd_ne (zz a ha).1, upd_ne (zz a ha).2.2.2.1]
    exact (zz a ha).2.2.2.2
  · show (upd (upd H4 dn (.dK [])) x _) lm = _
    rw [upd_ne n1.symm]
    exact s5 _ _ b4
  · show (upd (upd H4 dn (.dK [])) x _) ld = _
    rw [upd_ne l1.symm]
    exact s5 _ _ d4
  · show (upd (upd H4 dn (.dK [])) x _) dn = _
    rw [upd_ne a5.symm, upd_same]
/-! ### gates laid -/
def spNeed (K : PySem.W.Frag) (C : Addr) : Sp := fun vs H Q _ => ∃ (Z : List Addr) (p : NetP) (m : Nat) (gs : List Gt) (nm : List (Str × List Nat)) (t : Addr) (ws : List Nat), vs = [.ref p.x, .ref t] ∧ NetAt C Z H p m gs nm ∧ (SqL K H t (nts ws) ∨ SqT K H t (nts ws)) ∧ (∀ a ∈ ws, a < m + gs.length) ∧
  ∀ H', Same H H' → Q .non H'
theorem ok_Net_need (B : Bl mg) (L : LL K mg C za zl E_NoWire I_NoWire E_NoName I_NoName E_Taken I_Taken E_BadForm E_BadText E_BadRow E_Unfit E_TooFew E_NoStep E_Undone E_Busy E_NoPlace E_NoDeed E_NoStage E_BadDeed E_TooMuch E_Stuck) : FnOk P w K mg base CX0 1 (za 21) (zl 21) ["self", "wires"] (spNeed K C) := by
  refine L.F_Net_need.ok sc_Net_need (fun vs H Q E h => ?_) (fun cdv A outer s H vs Q E hr h => ?_)
  · obtain ⟨Z, p, m, gs, nm, t, ws, rfl, _⟩ := h
    rfl
  obtain ⟨Z, p, m, gs, nm, t, ws, rfl, hN, hT, hw, q⟩ := h
  refine ⟨_, (pss_one (ps_for PassesOwn.never rfl (pi_or (pi_list (pv 1)) (pi_tup (pv 1))) (pg_name (i := 2) sc_Net_need.nd rfl (.inl rfl)) (pss_one (ps_if (pt_not (pt_chain op_le op_lt pe_int (pv 2) (pe_callB call_len_seq (by rfl) B.len PySem.boot_len (pa_cons (pe_fld (pv 0) rfl) pa_nil)))) (pss_one ps_never) pss_nil)))), ?_⟩
  have turn : ∀ (a : Nat), a ∈ ws → ∀ (H9 : Hp) (y : Option V) (T : TS) (D : Ends), Same H H9 → D.nx [some (.ref p.x), some (.ref t), some (.int (a : Int))] H9 → True := fun _ _ _ _ _ _ _ _ => trivial
  rcases hT with hT | hT
  · refine .inl ⟨_, rfl, t, rfl, ⟨_, hT⟩, ?_⟩
    refine for_it (walk_list (K := K) (a := t) (xs := nts ws)) (fun j σ H9 => ∃ y : Option V, σ = [some (.ref p.x), some (.ref t), y] ∧ Same H H9) ⟨_, rfl, Same.refl _⟩ (fun j σ H9 _ ⟨_, _, s9⟩ => s9.seq hT) ?_ ?_
    · rintro j v σ H9 H10 hj ⟨y, rfl, s9⟩ ⟨rfl, hz⟩
      obtain ⟨a, ha, rfl⟩ := nts_at hz
      have la := hw a (List.mem_of_getElem? ha)
      obtain ⟨_, _, _, dx, ps, kvs, e1, e2, e3, _⟩ := hN.same s9
      dsimp only [gName]
      try simp only [L2.start, List.map_cons, List.map_nil, List.length_cons, List.length_nil, List.replicate_succ, List.replicate_zero, List.cons_append, List.nil_append, List.set_cons_succ, List.set_cons_zero, Nat.reduceAdd, Nat.reduceSub, Nat.zero_add]
      refine ⟨_, rfl, _, _, rfl, rfl, _, rfl, ?_⟩
      rw [if_pos (decide_eq_true (by omega))]
      refine ⟨_, rfl, p.x, C, dx, _, _, rfl, e1, L.T.cl, L.T.n_depths, rfl, ?_⟩
      refine ⟨p.ld, _, rfl, .inl (SqL.of e3), _, _, rfl, rfl, _, rfl, ?_⟩
      have lt : decide ((a : Int) < ((((dps m gs).map V.int).length : Nat) : Int)) = true := decide_eq_true (by rw [List.length_map, dps_len]; omega)
      rw [lt]
      refine iteF ?_
      exact ⟨_, rfl, s9⟩
    · rintro σ H9 ⟨y, rfl, s9⟩
      exact q _ s9
  · refine .inr ⟨_, rfl, t, rfl, ⟨_, hT⟩, ?_⟩
    refine for_it (walk_tup (K := K) (a := t) (xs := nts ws)) (fun j σ H9 => ∃ y : Option V, σ = [some (.ref p.x), some (.ref t), y] ∧ Same H H9) ⟨_, rfl, Same.refl _⟩ (fun j σ H9 _ ⟨_, _, s9⟩ => Same.seqT s9 hT) ?_ ?_
    · rintro j v σ H9 H10 hj ⟨y, rfl, s9⟩ ⟨rfl, hz⟩
      obtain ⟨a, ha, rfl⟩ := nts_at hz
      have la := hw a (List.mem_of_getElem? ha)
      obtain ⟨_, _, _, dx, ps, kvs, e1, e2, e3, _⟩ := hN.same s9
      dsimp only [gName]
      try simp only [L2.start, List.map_cons, List.map_nil, List.length_cons, List.length_nil, List.replicate_succ, List.replicate_zero, List.cons_append, List.nil_append, List.set_cons_succ, List.set_cons_zero, Nat.reduceAdd, Nat.reduceSub, Nat.zero_add]
      refine ⟨_, rfl, _, _, rfl, rfl, _, rfl, ?_⟩
      rw [if_pos (decide_eq_true (by omega))]
      refine ⟨_, rfl, p.x, C, dx, _, _, rfl, e1, L.T.cl, L.T.n_depths, rfl, ?_⟩
      refine ⟨p.ld, _, rfl, .inl (SqL.of e3), _, _, rfl, rfl, _, rfl, ?_⟩
      have lt : decide ((a : Int) < ((((dps m gs).map V.int).length : Nat) : Int)) = true := decide_eq_true (by rw [List.length_map, dps_len]; omega)
      rw [lt]
      refine iteF ?_
      exact ⟨_, rfl, s9⟩
    · rintro σ H9 ⟨y, rfl, s9⟩
      exact q _ s9
theorem refs_inj : ∀ {as bs : List Addr}, as.map V.ref = bs.map V.ref → as = bs
  | [], [], _ => rfl
  | [], b :: bs, h => by simp at h
  | a :: as, [], h => by simp at h
  | a :: as, b :: bs, h => by
    rw [List.map_cons, List.map_cons] at h
    injection h with h1 h2
    rw [V.ref.inj h1, refs_inj h2]
theorem NetAt.laid {C : Addr} {Z : List Addr} {H : Hp} {p : NetP} {m : Nat} {gs : List Gt} {nm : List (Str × List Nat)} {q : Addr} {g : Gt} {ps : List Addr}
    (h : NetAt C Z H p m gs nm) (eq : H q = some (.tup g.row)) (nq : q ∉ Z) (em : H p.lm = some (.lst (ps.map V.ref))) :
    NetAt C Z (upd (upd H p.lm (.lst (ps.map V.ref ++ [.ref q]))) p.ld (.lst ((dps m gs).map V.int ++ [.int (dep (dps m gs) g)]))) p m (gs ++ [g]) nm := by
  obtain ⟨a, b, ⟨c1, c2, c3, c4⟩, dx, ps', kvs, e1, e2, e3, e4, ⟨g1, g2⟩, n1, n2, n3⟩ := h
  have hps : ps' = ps := by
    rw [e2] at em
    have := HO.lst.inj (Option.some.inj em)
    exact refs_inj this
  subst hps
  have f : ∀ {y : Addr} {o : HO}, H y = some o → y ≠ p.lm → y ≠ p.ld → (upd (upd H p.lm (.lst (ps'.map V.ref ++ [.ref q]))) p.ld (.lst ((dps m gs).map V.int ++ [.int (dep (dps m gs) g)]))) y = some o := fun e x1 x2 => by
    rw [upd_ne x2, upd_ne x1]
    exact e
  have tn : ∀ {y : Addr} {xs : List V}, H y = some (.tup xs) → y ≠ p.lm ∧ y ≠ p.ld := fun e => ⟨(fun z => by rw [z, e2] at e; cases e), (fun z => by rw [z, e3] at e; cases e)⟩
  refine ⟨fun z hz => ?_, b, ⟨c1, c2, c3, c4⟩, dx, ps' ++ [q], kvs, f e1 (fun z => by rw [z, e2] at e1; cases e1) (fun z => by rw [z, e3] at e1; cases e1), ?_, ?_, f e4 (fun z => by rw [z, e2] at e4; cases e4) (fun z => by rw [z, e3] at e4; cases e4), ⟨?_, fun i r g' hi hg => ?_⟩, n1, n2, fun i k v n ws hi hn => ?_⟩
  · have z1 : z ≠ p.lm := fun y => c2 (y ▸ hz)
    have z2 : z ≠ p.ld := fun y => c3 (y ▸ hz)
    rw [upd_ne z2, upd_ne z1]
    exact a z hz
  · rw [upd_ne b, upd_same, List.map_append]
    rfl
  · rw [upd_same, dps_snoc, List.map_append]
    rfl
  · rw [List.length_append, List.length_append, g1]
    rfl
  · by_cases c : i < ps'.length
    · rw [List.getElem?_append_left c] at hi
      rw [List.getElem?_append_left (by omega)] at hg
      have := g2 i r g' hi hg
      exact ⟨this.1, f this.2 (tn this.2).1 (tn this.2).2⟩
    · have i0 : i = ps'.length := by
        have := (List.getElem?_eq_some_iff.mp hi).1
        rw [List.length_append, List.length_cons, List.length_nil] at this
        omega
      rw [List.getElem?_append_right (by omega), i0, Nat.sub_self] at hi
      rw [List.getElem?_append_right (by omega), i0, g1, Nat.sub_self] at hg
      cases hi
      cases hg
      exact ⟨nq, f eq (tn eq).1 (tn eq).2⟩
  · obtain ⟨ek, l, ev, l1, l2, l3, l4⟩ := n3 i k v n ws hi hn
    exact ⟨ek, l, ev, l1, l2, l3, f l4 l2 l3⟩
def spPutG (C : Addr) : Sp := fun vs H Q _ => ∃ (Z : List Addr) (p : NetP) (m : Nat) (gs : List Gt) (nm : List (Str × List Nat)) (q : Addr) (g : Gt), vs = [.ref p.x, .ref q, .int (dep (dps m gs) g)] ∧ NetAt C Z H p m gs nm ∧ H q = some (.tup g.row) ∧ q ∉ Z ∧ m + gs.length ≤ 500000 ∧
  ∀ H', KeepS [p.lm, p.ld] H H' → NetAt C Z H' p m (gs ++ [g]) nm → Q (.int ((m + gs.length : Nat) : Int)) H'
theorem ok_Net_put_gate (B : Bl mg) (L : LL K mg C za zl E_NoWire I_NoWire E_NoName I_NoName E_Taken I_Taken E_BadForm E_BadText E_BadRow E_Unfit E_TooFew E_NoStep E_Undone E_Busy E_NoPlace E_NoDeed E_NoStage E_BadDeed E_TooMuch E_Stuck) : FnOk P w K mg base CX0 1 (za 20) (zl 20) ["self", "gate", "depth"] (spPutG C) := by
  refine L.F_Net_put_gate.ok sc_Net_put_gate (fun vs H Q E h => ?_) (fun cdv A outer s H vs Q E hr h => ?_)
  · obtain ⟨Z, p, m, gs, nm, q, g, rfl, _⟩ := h
    rfl
  obtain ⟨Z, p, m, gs, nm, a, g, rfl, hN, ea, na, hl, q⟩ := h
  refine ⟨_, (pss_cons (ps_expr (pe_bm PySem.F.plainAttrs_list PySem.F.slot_list_append PySem.F.type_list_append mt_append (pe_fld (pv 0) rfl) (pa_cons (pv 1) pa_nil)))
    (pss_cons (ps_expr (pe_bm PySem.F.plainAttrs_list PySem.F.slot_list_append PySem.F.type_list_append mt_append (pe_fld (pv 0) rfl) (pa_cons (pv 2) pa_nil)))
    (pss_one (ps_ret (pe_op op_sub (pe_callB call_len_seq (by rfl) B.len PySem.boot_len (pa_cons (pe_fld (pv 0) rfl) pa_nil)) pe_int))))), ?_⟩
  obtain ⟨hz, b, _, dx, ps, kvs, e1, e2, e3, e4, g0⟩ := id hN
  have lps : ps.length = gs.length := g0.1.1
  have nx : p.x ≠ p.lm := fun z => by rw [z, e2] at e1; cases e1
  have nx' : p.x ≠ p.ld := fun z => by rw [z, e3] at e1; cases e1
  refine ⟨_, rfl, p.x, C, dx, _, _, rfl, e1, L.T.cl, L.T.n_made, rfl, .inl ⟨rfl, _, SqL.of e2⟩, _, rfl, p.lm, _, _, rfl, rfl, e2, by rw [List.length_map]; exact Nat.lt_of_le_of_lt (by omega) (show 500000 < sizeLine by decide), ?_⟩
  have f1 : (upd H p.lm (.lst (ps.map V.ref ++ [.ref a]))) p.x = _ := (upd_ne nx).trans e1
  have f3 : (upd H p.lm (.lst (ps.map V.ref ++ [.ref a]))) p.ld = _ := (upd_ne b.symm).trans e3
  refine ⟨_, rfl, p.x, C, dx, _, _, rfl, f1, L.T.cl, L.T.n_depths, rfl, .inl ⟨rfl, _, SqL.of f3⟩, _, rfl, p.ld, _, _, rfl, rfl, f3, by rw [List.length_map, dps_len]; exact Nat.lt_of_le_of_lt (by omega) (show 500000 < sizeLine by decide), ?_⟩
  have f1' : (upd (upd H p.lm (.lst (ps.map V.ref ++ [.ref a]))) p.ld (.lst ((dps m gs).map V.int ++ [.int (dep (dps m gs) g)]))) p.x = _ := (upd_ne nx').trans f1
  refine ⟨_, rfl, p.x, C, dx, _, _, rfl, f1', L.T.cl, L.T.n_depths, rfl, ?_⟩
  refine ⟨p.ld, _, rfl, .inl (SqL.of upd_same), _, _, rfl, rfl, ?_⟩
  have w := q _ ⟨fun y o e n => ?_, fun y e => ?_⟩ (hN.laid ea na e2)
  · have ev : (((((dps m gs).map V.int ++ [V.int (dep (dps m gs) g)]).length : Nat) : Int) - 1) = ((m + gs.length : Nat) : Int) := by
      rw [List.length_append, List.length_map, dps_len, List.length_cons, List.length_nil]
      omega
    rw [← ev] at w
    exact w
  · simp only [List.mem_cons, List.not_mem_nil, or_false, not_or] at n
    rw [upd_ne n.2, upd_ne n.1]
    exact e
  · exact ((KeepS.upd (S := [p.lm]) (by simp)).2 y e) |> fun h => (KeepS.upd (S := [p.ld]) (by simp)).2 y h
def spFixed (C : Addr) : Sp := fun vs H Q _ => ∃ (Z : List Addr) (p : NetP) (m : Nat) (gs : List Gt) (nm : List (Str × List Nat)) (b : Nat), vs = [.ref p.x, .int (b : Int)] ∧ NetAt C Z H p m gs nm ∧ m + gs.length ≤ 500000 ∧
  ∀ H', KeepS [p.lm, p.ld] H H' → NetAt C Z H' p m (gs ++ [.fi b]) nm → Q (.int ((m + gs.length : Nat) : Int)) H'
theorem ok_Net_fixed (B : Bl mg) (L : LL K mg C za zl E_NoWire I_NoWire E_NoName I_NoName E_Taken I_Taken E_BadForm E_BadText E_BadRow E_Unfit E_TooFew E_NoStep E_Undone E_Busy E_NoPlace E_NoDeed E_NoStage E_BadDeed E_TooMuch E_Stuck) : FnOk P w K mg base CX0 2 (za 18) (zl 18) ["self", "bit"] (spFixed C) := by
  have G_Net_put_gate : FnOk P w K mg base CX0 1 (za 20) (zl 20) ["self", "gate", "depth"] (spPutG C) := (ok_Net_put_gate B L).mono (by decide)
  refine L.F_Net_fixed.ok sc_Net_fixed (fun vs H Q E h => ?_) (fun cdv A outer s H vs Q E hr h => ?_)
  · obtain ⟨Z, p, m, gs, nm, b, rfl, _⟩ := h
    rfl
  obtain ⟨Z, p, m, gs, nm, b, rfl, hN, hl, q⟩ := h
  refine ⟨_, (pss_one (ps_ret (pe_meth (pv 0) L.T.cl L.M_Net_put_gate G_Net_put_gate hr L.b_Net_put_gate .nil pass0 (pa_cons (pe_tup (pa_cons pe_str (pa_cons (pv 1) pa_nil))) (pa_cons pe_int pa_nil))))), ?_⟩
  obtain ⟨hz, _, _, dx, _, _, e1, _⟩ := id hN
  refine ⟨_, rfl, p.x, dx, _, rfl, e1, rfl, _, rfl, (by show 2 ≤ sizeLine; decide), fun a na => ?_⟩
  have sa := same_upd (o := .tup (Gt.fi b).row) na
  refine ⟨Z, p, m, gs, nm, a, .fi b, rfl, hN.same sa, upd_same, fun z => hz a z na, hl, fun H' k N' => q H' (.trans (.ofSame sa) k) N'⟩
def spPut (K : PySem.W.Frag) (C : Addr) : Sp := fun vs H Q _ => ∃ (Z : List Addr) (p : NetP) (m : Nat) (gs : List Gt) (nm : List (Str × List Nat)) (k : Str) (t : Addr) (ws : List Nat), vs = [.ref p.x, .str k, .ref t] ∧ NetAt C Z H p m gs nm ∧ SqT K H t (nts ws) ∧ ws ≠ [] ∧ ws.length ≤ 2 ∧ (∀ a ∈ ws, a < m + gs.length) ∧ m + gs.length ≤ 500000 ∧
  ∀ H', KeepS [p.lm, p.ld] H H' → NetAt C Z H' p m (gs ++ [.w k ws]) nm → Q (.int ((m + gs.length : Nat) : Int)) H'
theorem ok_Net_put (B : Bl mg) (L : LL K mg C za zl E_NoWire I_NoWire E_NoName I_NoName E_Taken I_Taken E_BadForm E_BadText E_BadRow E_Unfit E_TooFew E_NoStep E_Undone E_Busy E_NoPlace E_NoDeed E_NoStage E_BadDeed E_TooMuch E_Stuck) : FnOk P w K mg base CX0 3 (za 19) (zl 19) ["self", "kind", "wires"] (spPut K C) := by
  have G_Net_put_gate : FnOk P w K mg base CX0 2 (za 20) (zl 20) ["self", "gate", "depth"] (spPutG C) := (ok_Net_put_gate B L).mono (by decide)
  have G_Net_need : FnOk P w K mg base CX0 2 (za 21) (zl 21) ["self", "wires"] (spNeed K C) := (ok_Net_need B L).mono (by decide)
  refine L.F_Net_put.ok sc_Net_put (fun vs H Q E h => ?_) (fun cdv A outer s H vs Q E hr h => ?_)
  · obtain ⟨Z, p, m, gs, nm, k, t, ws, rfl, _⟩ := h
    rfl
  obtain ⟨Z, p, m, gs, nm, k, t, ws, rfl, hN, hT, w0, w2, hw, hl, q⟩ := h
  refine ⟨_, (pss_cons (ps_expr (pe_meth (pv 0) L.T.cl L.M_Net_need G_Net_need hr L.b_Net_need .nil pass0 (pa_cons (pv 2) pa_nil)))
    (pss_cons (ps_set (i := 3) sc_Net_put.nd rfl (.inl rfl) (pe_op op_add pe_int (pe_callB (cr_max rfl) (by rfl) B.max boot_max (pa_cons (pe_lc (own := [("wire", 4)]) (by rfl) sc_Net_put.nd (pi_tup (pv 2)) (blkOk_by (own := [("wire", 4)]) (N := ["self", "kind", "wires", "depth", "wire"]) (sc := defScope s_Net_put) (by decide +kernel)) (fun _ _ _ _ _ => pg_name (i := 4) sc_Net_put.nd rfl (Or.inl rfl)) (fun _ _ _ _ _ => pts_nil) (fun _ _ _ _ _ => (pe_ix (ix_listK (K := K)) (pe_fldK (K := K) (pv 0) rfl) (pv 4) (fun _ _ => rfl)))) pa_nil))))
    (pss_one (ps_ret (pe_meth (pv 0) L.T.cl L.M_Net_put_gate G_Net_put_gate hr L.b_Net_put_gate .nil pass0 (pa_cons (pe_tup (pa_cons (pv 1) (StX.pa_star (pv 2) pa_nil))) (pa_cons (pv 3) pa_nil))))))), ?_⟩
  obtain ⟨hz, _, _, dx, _, _, e1, _⟩ := id hN
  refine ⟨_, rfl, p.x, dx, _, rfl, e1, rfl, _, rfl, Z, p, m, gs, nm, t, ws, rfl, hN, .inr hT, hw, fun H1 s1 => ?_⟩
  have N1 := hN.same s1
  obtain ⟨_, _, _, _, ps, kvs, f1, f2, f3, _⟩ := id N1
  have hT1 := Same.seqT s1 hT
  refine ⟨_, rfl, t, rfl, ⟨_, hT1⟩, fun D nD => ?_⟩
  refine lc_it (walk_tup (K := K) (a := t) (xs := nts ws)) (fun i H9 => Same H1 H9 ∧ H9 D = some (.lst ((ws.take i).map fun a => V.int ((dps m gs).getD a 0)))) ⟨same_upd nD, upd_same⟩ (fun i H9 _ ⟨s9, _⟩ => Same.seqT s9 hT1) ?_ ?_
  · rintro j z H9 H10 hj ⟨s9, eD⟩ ⟨rfl, hz⟩
    obtain ⟨a, ha, rfl⟩ := nts_at hz
    have la := hw a (List.mem_of_getElem? ha)
    refine ⟨rfl, yesT ?_⟩
    have e1' := s9 _ _ f1
    have e3' := s9 _ _ f3
    have hat : atI ((dps m gs).map V.int) (a : Int) = some (.int ((dps m gs).getD a 0)) := atI_nat (by
      rw [List.getElem?_map, List.getElem?_eq_getElem (by rw [dps_len]; exact la)]
      simp [List.getD, List.getElem?_eq_getElem (show a < (dps m gs).length by rw [dps_len]; exact la)])
    refine ⟨_, rfl, p.x, C, _, _, _, rfl, e1', L.T.cl, L.T.n_depths, rfl, _, rfl, p.ld, _, _, _, rfl, rfl, SqL.of e3', hat, ?_⟩
    refine ⟨_, eD, ?_, fun y u e => ?_, ?_⟩
    · rw [List.length_map, List.length_take]
      exact Nat.lt_of_le_of_lt (Nat.min_le_right _ _) (small1000 (by omega))
    · rw [upd_ne (ne_of_none e nD)]
      exact s9 _ _ e
    · rw [upd_same, List.take_add_one, ha, List.map_append]
      rfl
  rintro H2 ⟨s2, eD⟩
  rw [nts_len, List.take_length] at eD
  have mx1 : ∀ y ∈ ws.map (fun a => (dps m gs).getD a 0), 0 ≤ y := fun y hy => by
    obtain ⟨a, ha, rfl⟩ := List.mem_map.mp hy
    have la := hw a ha
    have := dps_nn m gs ((dps m gs)[a]'(by rw [dps_len]; exact la)) (List.getElem_mem _)
    simp only [List.getD, List.getElem?_eq_getElem (show a < (dps m gs).length by rw [dps_len]; exact la), Option.getD_some]
    exact this
  refine ⟨D, ws.map (fun a => (dps m gs).getD a 0), rfl, SqL.of (by rw [List.map_map]; exact eD), by rw [List.length_map]; exact List.length_pos_iff.mpr w0, fun M hM hL => ?_⟩
  have eM := mx_is hM hL mx1
  refine ⟨_, _, rfl, rfl, ?_⟩
  try simp only [L2.start, List.map_cons, List.map_nil, List.length_cons, List.length_nil, List.replicate_succ, List.replicate_zero, List.cons_append, List.nil_append, List.set_cons_succ, List.set_cons_zero, Nat.reduceAdd, Nat.reduceSub, Nat.zero_add]
  have e1' := s2 _ _ f1
  have hT2 := Same.seqT s2 hT1
  refine ⟨_, rfl, p.x, _, _, rfl, e1', rfl, ?_⟩
  try simp only [L2.start, List.map_cons, List.map_nil, List.length_cons, List.length_nil, List.replicate_succ, List.replicate_zero, List.cons_append, List.nil_append, List.set_cons_succ, List.set_cons_zero, Nat.reduceAdd, Nat.reduceSub, Nat.zero_add]
  refine ⟨_, rfl, _, rfl, t, _, rfl, .inl hT2, ?_⟩
  dsimp only [tNil]
  rw [List.append_nil]
  refine ⟨by rw [List.length_cons, nts_len]; exact Nat.le_trans (show ws.length + 1 ≤ 3 by omega) (by decide), fun g ng => ?_⟩
  have sg := same_upd (o := .tup (Gt.w k ws).row) ng
  have ed : (1 + M : Int) = dep (dps m gs) (.w k ws) := by
    show _ = 1 + mx _
    rw [eM]
  have N2 := (N1.same s2).same sg
  refine ⟨_, rfl, Z, p, m, gs, nm, g, .w k ws, by rw [ed]; rfl, N2, upd_same, fun z => N1.1 g z (by
    cases e : H1 g with
    | none => rfl
    | some o =>
      rw [s2 _ _ e] at ng
      cases ng), hl, fun H' k' N' => q H' (.trans (.ofSame ((s1.trans s2).trans sg)) k') N'⟩
def spG2 (C : Addr) (k : Str) : Sp := fun vs H Q _ => ∃ (Z : List Addr) (p : NetP) (m : Nat) (gs : List Gt) (nm : List (Str × List Nat)) (a b : Nat), vs = [.ref p.x, .int (a : Int), .int (b : Int)] ∧ NetAt C Z H p m gs nm ∧ a < m + gs.length ∧ b < m + gs.length ∧ m + gs.length ≤ 500000 ∧
  ∀ H', KeepS [p.lm, p.ld] H H' → NetAt C Z H' p m (gs ++ [.w k [a, b]]) nm → Q (.int ((m + gs.length : Nat) : Int)) H'
theorem ok_Net_both (B : Bl mg) (L : LL K mg C za zl E_NoWire I_NoWire E_NoName I_NoName E_Taken I_Taken E_BadForm E_BadText E_BadRow E_Unfit E_TooFew E_NoStep E_Undone E_Busy E_NoPlace E_NoDeed E_NoStage E_BadDeed E_TooMuch E_Stuck) : FnOk P w K mg base CX0 4 (za 14) (zl 14) ["self", "a", "b"] (spG2 C "both") := by
  have G_Net_put : FnOk P w K mg base CX0 3 (za 19) (zl 19) ["self", "kind", "wires"] (spPut K C) := (ok_Net_put B L).mono (by decide)
  refine L.F_Net_both.ok sc_Net_both (fun vs H Q E h => ?_) (fun cdv A outer s H vs Q E hr h => ?_)
  · obtain ⟨Z, p, m, gs, nm, a, b, rfl, _⟩ := h
    rfl
  obtain ⟨Z, p, m, gs, nm, a, b, rfl, hN, ha, hb, hl, q⟩ := h
  refine ⟨_, (pss_one (ps_ret (pe_meth (pv 0) L.T.cl L.M_Net_put G_Net_put hr L.b_Net_put .nil pass0 (pa_cons pe_str (pa_cons (pe_tup (pa_cons (pv 1) (pa_cons (pv 2) pa_nil))) pa_nil))))), ?_⟩
  obtain ⟨hz, _, _, dx, _, _, e1, _⟩ := id hN
  refine ⟨_, rfl, p.x, dx, _, rfl, e1, rfl, _, rfl, _, rfl, (by show 2 ≤ sizeLine; decide), fun t nt => ?_⟩
  have st := same_upd (o := .tup [.int (a : Int), .int (b : Int)]) nt
  refine ⟨Z, p, m, gs, nm, "both", t, [a, b], rfl, hN.same st, .inl (.inl upd_same), (fun z => nomatch z), (Nat.le_of_ble_eq_true rfl), fun x hx => ?_, hl, fun H' k N' => q H' (.trans (.ofSame st) k) N'⟩
  simp only [List.mem_cons, List.not_mem_nil, or_false] at hx
  rcases hx with z | z <;> rw [z] <;> assumption
theorem ok_Net_either (B : Bl mg) (L : LL K mg C za zl E_NoWire I_NoWire E_NoName I_NoName E_Taken I_Taken E_BadForm E_BadText E_BadRow E_Unfit E_TooFew E_NoStep E_Undone E_Busy E_NoPlace E_NoDeed E_NoStage E_BadDeed E_TooMuch E_Stuck) : FnOk P w K mg base CX0 4 (za 15) (zl 15) ["self", "a", "b"] (spG2 C "either") := by
  have G_Net_put : FnOk P w K mg base CX0 3 (za 19) (zl 19) ["self", "kind", "wires"] (spPut K C) := (ok_Net_put B L).mono (by decide)
  refine L.F_Net_either.ok sc_Net_either (fun vs H Q E h => ?_) (fun cdv A outer s H vs Q E hr h => ?_)
  · obtain ⟨Z, p, m, gs, nm, a, b, rfl, _⟩ := h
    rfl
  obtain ⟨Z, p, m, gs, nm, a, b, rfl, hN, ha, hb, hl, q⟩ := h
  refine ⟨_, (pss_one (ps_ret (pe_meth (pv 0) L.T.cl L.M_Net_put G_Net_put hr L.b_Net_put .nil pass0 (pa_cons pe_str (pa_cons (pe_tup (pa_cons (pv 1) (pa_cons (pv 2) pa_nil))) pa_nil))))), ?_⟩
  obtain ⟨hz, _, _, dx, _, _, e1, _⟩ := id hN
  refine ⟨_, rfl, p.x, dx, _, rfl, e1, rfl, _, rfl, _, rfl, (by show 2 ≤ sizeLine; decide), fun t nt => ?_⟩
  have st := same_upd (o := .tup [.int (a : Int), .int (b : Int)]) nt
  refine ⟨Z, p, m, gs, nm, "either", t, [a, b], rfl, hN.same st, .inl (.inl upd_same), (fun z => nomatch z), (Nat.le_of_ble_eq_true rfl), fun x hx => ?_, hl, fun H' k N' => q H' (.trans (.ofSame st) k) N'⟩
  simp only [List.mem_cons, List.not_mem_nil, or_false] at hx
  rcases hx with z | z <;> rw [z] <;> assumption
theorem ok_Net_unlike (B : Bl mg) (L : LL K mg C za zl E_NoWire I_NoWire E_NoName I_NoName E_Taken I_Taken E_BadForm E_BadText E_BadRow E_Unfit E_TooFew E_NoStep E_Undone E_Busy E_NoPlace E_NoDeed E_NoStage E_BadDeed E_TooMuch E_Stuck) : FnOk P w K mg base CX0 4 (za 16) (zl 16) ["self", "a", "b"] (spG2 C "unlike") := by
  have G_Net_put : FnOk P w K mg base CX0 3 (za 19) (zl 19) ["self", "kind", "wires"] (spPut K C) := (ok_Net_put B L).mono (by decide)
  refine L.F_Net_unlike.ok sc_Net_unlike (fun vs H Q E h => ?_) (fun cdv A outer s H vs Q E hr h => ?_)
  · obtain ⟨Z, p, m, gs, nm, a, b, rfl, _⟩ := h
    rfl
  obtain ⟨Z, p, m, gs, nm, a, b, rfl, hN, ha, hb, hl, q⟩ := h
  refine ⟨_, (pss_one (ps_ret (pe_meth (pv 0) L.T.cl L.M_Net_put G_Net_put hr L.b_Net_put .nil pass0 (pa_cons pe_str (pa_cons (pe_tup (pa_cons (pv 1) (pa_cons (pv 2) pa_nil))) pa_nil))))), ?_⟩
  obtain ⟨hz, _, _, dx, _, _, e1, _⟩ := id hN
  refine ⟨_, rfl, p.x, dx, _, rfl, e1, rfl, _, rfl, _, rfl, (by show 2 ≤ sizeLine; decide), fun t nt => ?_⟩
  have st := same_upd (o := .tup [.int (a : Int), .int (b : Int)]) nt
  refine ⟨Z, p, m, gs, nm, "unlike", t, [a, b], rfl, hN.same st, .inl (.inl upd_same), (fun z => nomatch z), (Nat.le_of_ble_eq_true rfl), fun x hx => ?_, hl, fun H' k N' => q H' (.trans (.ofSame st) k) N'⟩
  simp only [List.mem_cons, List.not_mem_nil, or_false] at hx
  rcases hx with z | z <;> rw [z] <;> assumption
def spG1 (C : Addr) : Sp := fun vs H Q _ => ∃ (Z : List Addr) (p : NetP) (m : Nat) (gs : List Gt) (nm : List (Str × List Nat)) (a : Nat), vs = [.ref p.x, .int (a : Int)] ∧ NetAt C Z H p m gs nm ∧ a < m + gs.length ∧ m + gs.length ≤ 500000 ∧
  ∀ H', KeepS [p.lm, p.ld] H H' → NetAt C Z H' p m (gs ++ [.w "other" [a]]) nm → Q (.int ((m + gs.length : Nat) : Int)) H'
theorem ok_Net_other (B : Bl mg) (L : LL K mg C za zl E_NoWire I_NoWire E_NoName I_NoName E_Taken I_Taken E_BadForm E_BadText E_BadRow E_Unfit E_TooFew E_NoStep E_Undone E_Busy E_NoPlace E_NoDeed E_NoStage E_BadDeed E_TooMuch E_Stuck) : FnOk P w K mg base CX0 4 (za 17) (zl 17) ["self", "a"] (spG1 C) := by
  have G_Net_put : FnOk P w K mg base CX0 3 (za 19) (zl 19) ["self", "kind", "wires"] (spPut K C) := (ok_Net_put B L).mono (by decide)
  refine L.F_Net_other.ok sc_Net_other (fun vs H Q E h => ?_) (fun cdv A outer s H vs Q E hr h => ?_)
  · obtain ⟨Z, p, m, gs, nm, a, rfl, _⟩ := h
    rfl
  obtain ⟨Z, p, m, gs, nm, a, rfl, hN, ha, hl, q⟩ := h
  refine ⟨_, (pss_one (ps_ret (pe_meth (pv 0) L.T.cl L.M_Net_put G_Net_put hr L.b_Net_put .nil pass0 (pa_cons pe_str (pa_cons (pe_tup (pa_cons (pv 1) pa_nil)) pa_nil))))), ?_⟩
  obtain ⟨hz, _, _, dx, _, _, e1, _⟩ := id hN
  refine ⟨_, rfl, p.x, dx, _, rfl, e1, rfl, _, rfl, (by show 1 ≤ sizeLine; decide), fun t nt => ?_⟩
  have st := same_upd (o := .tup [.int (a : Int)]) nt
  refine ⟨Z, p, m, gs, nm, "other", t, [a], rfl, hN.same st, .inl (.inl upd_same), (fun z => nomatch z), (Nat.le_of_ble_eq_true rfl), fun x hx => ?_, hl, fun H' k N' => q H' (.trans (.ofSame st) k) N'⟩
  rw [List.mem_singleton.mp hx]
  exact ha
end
section
variable {P : Program} {w : World} {K : PySem.W.Frag} {mg : Str → Option Value} {base : Heap}
variable {C : Addr} {za : Nat → Addr} {zl : Nat → FuncData} {E_NoWire I_NoWire E_NoName I_NoName E_Taken I_Taken E_BadForm E_BadText E_BadRow E_Unfit E_TooFew E_NoStep E_Undone E_Busy E_NoPlace E_NoDeed E_NoStage E_BadDeed E_TooMuch E_Stuck : Addr}
/-! ### names of a net -/
theorem NmAt.keys {Z : List Addr} {H : Hp} {p : NetP} {kvs : List (Key × V)} {nm : List (Str × List Nat)} (h : NmAt Z H p kvs nm) : kvs.map (·.1) = nm.map fun x => (Sum.inr x.1 : Key) := by
  obtain ⟨h1, h2, h3⟩ := h
  refine List.ext_getElem? fun i => ?_
  rw [List.getElem?_map, List.getElem?_map]
  by_cases c : i < kvs.length
  · have c' : i < nm.length := by omega
    rw [List.getElem?_eq_getElem c, List.getElem?_eq_getElem c']
    have := (h3 i kvs[i].1 kvs[i].2 nm[i].1 nm[i].2 (List.getElem?_eq_getElem c) (List.getElem?_eq_getElem c')).1
    show some kvs[i].1 = some _
    rw [this]
  · rw [List.getElem?_eq_none (by omega), List.getElem?_eq_none (by omega)]
    rfl
theorem valV_out {kvs : List (Key × V)} {k : Key} (h : k ∉ kvs.map (·.1)) : valV kvs k = none := by
  have e := valV_any k kvs
  cases q : valV kvs k with
  | none => rfl
  | some v =>
    rw [q] at e
    obtain ⟨x, hx, hd⟩ := List.any_eq_true.mp e
    exact absurd (List.mem_map.mpr ⟨x, hx, of_decide_eq_true hd⟩) h
theorem valV_at : ∀ {kvs : List (Key × V)} {i : Nat} {k : Key} {v : V}, (kvs.map (·.1)).Nodup → kvs[i]? = some (k, v) → valV kvs k = some v
  | [], i, k, v, _, h => by simp at h
  | q :: kvs, 0, k, v, _, h => by
    cases Option.some.inj h
    exact valV_pos rfl
  | q :: kvs, i + 1, k, v, hn, h => by
    rw [List.map_cons, List.nodup_cons] at hn
    have h' : kvs[i]? = some (k, v) := h
    have : k ∈ kvs.map (·.1) := List.mem_map.mpr ⟨_, List.mem_of_getElem? h', rfl⟩
    rw [valV_neg (fun z => hn.1 (z ▸ this))]
    exact valV_at hn.2 h'
theorem NmAt.nodup {Z : List Addr} {H : Hp} {p : NetP} {kvs : List (Key × V)} {nm : List (Str × List Nat)} (h : NmAt Z H p kvs nm) : (kvs.map (·.1)).Nodup := by
  rw [h.keys]
  have := h.2.1
  rw [show (nm.map fun x => (Sum.inr x.1 : Key)) = (nm.map (·.1)).map Sum.inr from by rw [List.map_map]; rfl]
  exact List.Pairwise.map _ (fun a b n z => n (Sum.inr.inj z)) this
theorem NmAt.out {Z : List Addr} {H : Hp} {p : NetP} {kvs : List (Key × V)} {nm : List (Str × List Nat)} {n : Str} (h : NmAt Z H p kvs nm) (hn : n ∉ nm.map (·.1)) : valV kvs (.inr n) = none := by
  refine valV_out ?_
  rw [h.keys]
  intro z
  obtain ⟨x, hx, e⟩ := List.mem_map.mp z
  exact hn (List.mem_map.mpr ⟨x, hx, Sum.inr.inj e⟩)
theorem NmAt.in_ {Z : List Addr} {H : Hp} {p : NetP} {kvs : List (Key × V)} {nm : List (Str × List Nat)} {i : Nat} {n : Str} {ws : List Nat} (h : NmAt Z H p kvs nm) (hn : nm[i]? = some (n, ws)) : ∃ l, valV kvs (.inr n) = some (.ref l) ∧ H l = some (.lst (nts ws)) := by
  have c : i < kvs.length := by
    have := (List.getElem?_eq_some_iff.mp hn).1
    rw [h.1]
    exact this
  obtain ⟨ek, l, ev, _, _, _, el⟩ := h.2.2 i kvs[i].1 kvs[i].2 n ws (List.getElem?_eq_getElem c) hn
  refine ⟨l, ?_, el⟩
  rw [← ev, ← ek]
  exact valV_at h.nodup (List.getElem?_eq_getElem c)
def spGive (K : PySem.W.Frag) (C : Addr) : Sp := fun vs H Q _ => ∃ (Z : List Addr) (p : NetP) (m : Nat) (gs : List Gt) (nm : List (Str × List Nat)) (n : Str) (t : Addr) (ws : List Nat), vs = [.ref p.x, .str n, .ref t] ∧ NetAt C Z H p m gs nm ∧ n ∉ nm.map (·.1) ∧ (SqL K H t (nts ws) ∨ SqT K H t (nts ws)) ∧ (∀ a ∈ ws, a < m + gs.length) ∧ nm.length ≤ 900 ∧
  ∀ H', KeepS [p.dn] H H' → NetAt C Z H' p m gs (nm ++ [(n, ws)]) → Q .non H'
theorem ok_Net_give (B : Bl mg) (L : LL K mg C za zl E_NoWire I_NoWire E_NoName I_NoName E_Taken I_Taken E_BadForm E_BadText E_BadRow E_Unfit E_TooFew E_NoStep E_Undone E_Busy E_NoPlace E_NoDeed E_NoStage E_BadDeed E_TooMuch E_Stuck) : FnOk P w K mg base CX0 2 (za 22) (zl 22) ["self", "name", "wires"] (spGive K C) := by
  have G_Net_need : FnOk P w K mg base CX0 1 (za 21) (zl 21) ["self", "wires"] (spNeed K C) := (ok_Net_need B L).mono (by decide)
  refine L.F_Net_give.ok sc_Net_give (fun vs H Q E h => ?_) (fun cdv A outer s H vs Q E hr h => ?_)
  · obtain ⟨Z, p, m, gs, nm, n, t, ws, rfl, _⟩ := h
    rfl
  obtain ⟨Z, p, m, gs, nm, n, t, ws, rfl, hN, hn, hT, hw, hl, q⟩ := h
  refine ⟨_, (pss_cons (ps_if (pt_cmp (pc_din (units1 hr) (pv 1) (pe_fld (pv 0) rfl)) (by rfl)) (pss_one ps_never) pss_nil)
    (pss_cons (ps_expr (pe_meth (pv 0) L.T.cl L.M_Net_need G_Net_need hr L.b_Net_need .nil pass0 (pa_cons (pv 2) pa_nil)))
    (pss_one (ps_dput (units1 hr) (pe_fld (pv 0) rfl) (pv 1) (pe_callTy call_list_of (by rfl) B.list PyProof.Rows.boot_list (pa_cons (pv 2) pa_nil)) rfl)))), ?_⟩
  obtain ⟨hz, hb, _, dx, ps, kvs, e1, e2, e3, e4, g0, n0⟩ := id hN
  refine ⟨_, rfl, _, rfl, p.x, C, dx, _, _, rfl, e1, L.T.cl, L.T.n_by_name, rfl, p.dn, _, rfl, DGet.k (k := .inr n) e4, ?_⟩
  rw [n0.out hn]
  refine ⟨_, rfl, iteF ?_⟩
  dsimp only [tNext]
  refine ⟨_, rfl, p.x, dx, _, rfl, e1, rfl, _, rfl, Z, p, m, gs, nm, t, ws, rfl, hN, hT, hw, fun H1 s1 => ?_⟩
  have N1 := hN.same s1
  obtain ⟨_, _, ⟨c1, c2, c3, c4⟩, dx1, ps1, kvs1, f1, f2, f3, f4, g1, n1⟩ := id N1
  have hT1 : SqL K H1 t (nts ws) ∨ SqT K H1 t (nts ws) := hT.elim (fun y => .inl (s1.seq y)) (fun y => .inr (Same.seqT s1 y))
  refine ⟨_, rfl, t, _, rfl, hT1, fun l nl => ?_⟩
  have sl := same_upd (o := .lst (nts ws)) nl
  refine ⟨_, rfl, p.x, C, dx1, _, _, rfl, sl _ _ f1, L.T.cl, L.T.n_by_name, rfl, _, rfl, p.dn, _, rfl, DPut.k (k := .inr n) (sl _ _ f4) (by rw [n1.1]; exact Nat.lt_of_le_of_lt hl (by decide)), ?_⟩
  rw [putK_new _ (n1.out hn)]
  have nlZ : l ∉ Z := fun z => N1.1 l z nl
  have nlm : l ≠ p.lm := (ne_of_none f2 nl).symm
  have nld : l ≠ p.ld := (ne_of_none f3 nl).symm
  have nln : l ≠ p.dn := (ne_of_none f4 nl).symm
  have N2 := N1.same sl
  have k2 : KeepS [p.dn] (upd H1 l (.lst (nts ws))) (upd (upd H1 l (.lst (nts ws))) p.dn (.dK (kvs1 ++ [(.inr n, .ref l)]))) := .upd (by simp)
  refine q _ ((KeepS.ofSame (s1.trans sl)).trans k2) ?_
  have fr : ∀ {y : Addr} {o : HO}, (upd H1 l (.lst (nts ws))) y = some o → y ≠ p.dn → (upd (upd H1 l (.lst (nts ws))) p.dn (.dK (kvs1 ++ [(.inr n, .ref l)]))) y = some o := fun e z => by
    rw [upd_ne z]
    exact e
  have g4 := sl _ _ f4
  refine ⟨fun z hz' => k2.2 z (N2.1 z hz'), hb, ⟨c1, c2, c3, c4⟩, dx1, ps1, kvs1 ++ [(.inr n, .ref l)], fr (sl _ _ f1) (fun z => by rw [z, f4] at f1; cases f1), fr (sl _ _ f2) (fun z => by rw [z, f4] at f2; cases f2), fr (sl _ _ f3) (fun z => by rw [z, f4] at f3; cases f3), upd_same, ⟨g1.1, fun i r g' hi hg => ?_⟩, ?_⟩
  · have := g1.2 i r g' hi hg
    exact ⟨this.1, fr (sl _ _ this.2) (fun z => by
      have := this.2
      rw [z, f4] at this
      cases this)⟩
  · refine ⟨by rw [List.length_append, List.length_append, n1.1]; rfl, ?_, fun i k v n' ws' hi hn' => ?_⟩
    · rw [List.map_append, List.nodup_append]
      refine ⟨n1.2.1, by simp, fun a ha b hb' => ?_⟩
      have hb' : b = n := by simpa using hb'
      rw [hb']
      exact fun z => hn (z ▸ ha)
    · by_cases c : i < kvs1.length
      · rw [List.getElem?_append_left c] at hi
        rw [List.getElem?_append_left (by rw [← n1.1]; exact c)] at hn'
        obtain ⟨ek, l', ev, l1, l2, l3, l4⟩ := n1.2.2 i k v n' ws' hi hn'
        exact ⟨ek, l', ev, l1, l2, l3, fr (sl _ _ l4) (fun z => by rw [z, f4] at l4; cases l4)⟩
      · have i0 : i = kvs1.length := by
          have := (List.getElem?_eq_some_iff.mp hi).1
          rw [List.length_append, List.length_cons, List.length_nil] at this
          omega
        rw [List.getElem?_append_right (by omega), i0, Nat.sub_self] at hi
        rw [List.getElem?_append_right (by rw [i0, n1.1]; exact Nat.le_refl _), i0, n1.1, Nat.sub_self] at hn'
        cases hi
        cases hn'
        exact ⟨rfl, l, rfl, nlZ, nlm, nld, fr upd_same nln⟩
def spGiven (C : Addr) : Sp := fun vs H Q _ => ∃ (Z : List Addr) (p : NetP) (m : Nat) (gs : List Gt) (nm : List (Str × List Nat)) (i : Nat) (n : Str) (ws : List Nat), vs = [.ref p.x, .str n] ∧ NetAt C Z H p m gs nm ∧ nm[i]? = some (n, ws) ∧
  ∀ t, H t = none → Q (.ref t) (upd H t (.lst (nts ws)))
theorem ok_Net_given (B : Bl mg) (L : LL K mg C za zl E_NoWire I_NoWire E_NoName I_NoName E_Taken I_Taken E_BadForm E_BadText E_BadRow E_Unfit E_TooFew E_NoStep E_Undone E_Busy E_NoPlace E_NoDeed E_NoStage E_BadDeed E_TooMuch E_Stuck) : FnOk P w K mg base CX0 1 (za 23) (zl 23) ["self", "name"] (spGiven C) := by
  refine L.F_Net_given.ok sc_Net_given (fun vs H Q E h => ?_) (fun cdv A outer s H vs Q E hr h => ?_)
  · obtain ⟨Z, p, m, gs, nm, i, n, ws, rfl, _⟩ := h
    rfl
  obtain ⟨Z, p, m, gs, nm, i, n, ws, rfl, hN, hn, q⟩ := h
  refine ⟨_, (pss_cons (ps_if (pt_cmp (pc_dnotin (units1 hr) (pv 1) (pe_fld (pv 0) rfl)) (by rfl)) (pss_one ps_never) pss_nil)
    (pss_one (ps_ret (pe_callTy call_list_of (by rfl) B.list PyProof.Rows.boot_list (pa_cons (pe_dget (units1 hr) (pe_fld (pv 0) rfl) (pv 1) (fun _ _ => rfl)) pa_nil))))), ?_⟩
  obtain ⟨hz, hb, _, dx, ps, kvs, e1, e2, e3, e4, g0, n0⟩ := id hN
  obtain ⟨l, ev, el⟩ := n0.in_ hn
  refine ⟨_, rfl, _, rfl, p.x, C, dx, _, _, rfl, e1, L.T.cl, L.T.n_by_name, rfl, p.dn, _, rfl, DGet.k (k := .inr n) e4, ?_⟩
  rw [ev]
  refine ⟨_, rfl, iteF ?_⟩
  dsimp only [tNext]
  refine ⟨_, rfl, p.x, C, dx, _, _, rfl, e1, L.T.cl, L.T.n_by_name, rfl, _, rfl, p.dn, .ref l, rfl, ?_, ?_⟩
  · rw [← ev]
    exact DGet.k (k := .inr n) e4
  exact ⟨l, _, rfl, .inl (SqL.of el), fun t nt => q t nt⟩
def spNames (C : Addr) : Sp := fun vs H Q _ => ∃ (Z : List Addr) (p : NetP) (m : Nat) (gs : List Gt) (nm : List (Str × List Nat)), vs = [.ref p.x] ∧ NetAt C Z H p m gs nm ∧ nm.length < 64 ∧
  ∀ (ys : List Str) (t : Addr) (H' : Hp), ys.Perm (nm.map (·.1)) → sortedS ys = true → Same H H' → H t = none → H' t = some (.lst (ys.map V.str)) → Q (.ref t) H'
theorem ok_Net_names (B : Bl mg) (L : LL K mg C za zl E_NoWire I_NoWire E_NoName I_NoName E_Taken I_Taken E_BadForm E_BadText E_BadRow E_Unfit E_TooFew E_NoStep E_Undone E_Busy E_NoPlace E_NoDeed E_NoStage E_BadDeed E_TooMuch E_Stuck) : FnOk P w K mg base CX0 1 (za 24) (zl 24) ["self"] (spNames C) := by
  refine L.F_Net_names.ok sc_Net_names (fun vs H Q E h => ?_) (fun cdv A outer s H vs Q E hr h => ?_)
  · obtain ⟨Z, p, m, gs, nm, rfl, _⟩ := h
    rfl
  obtain ⟨Z, p, m, gs, nm, rfl, hN, hl, q⟩ := h
  refine ⟨_, (pss_one (ps_ret (pe_callB cr_sortedS (by rfl) L.z_sorted boot_sorted (pa_cons (pe_callTy (call_listD rfl) (by rfl) B.list PyProof.Rows.boot_list (pa_cons (pe_fld (pv 0) rfl) pa_nil)) pa_nil)))), ?_⟩
  obtain ⟨hz, hb, _, dx, ps, kvs, e1, e2, e3, e4, g0, n0⟩ := id hN
  refine ⟨_, rfl, p.x, C, dx, _, _, rfl, e1, L.T.cl, L.T.n_by_name, rfl, p.dn, kvs, rfl, .inl e4, fun l nl => ?_⟩
  have ek : (kvs.map fun kv => kV kv.1) = (nm.map (·.1)).map V.str := by
    rw [show (kvs.map fun kv => kV kv.1) = (kvs.map (·.1)).map kV from by rw [List.map_map]; rfl, n0.keys, List.map_map, List.map_map]
    rfl
  rw [ek]
  have sl := same_upd (o := .lst ((nm.map (·.1)).map V.str)) nl
  refine ⟨l, _, rfl, SqL.of upd_same, by rw [List.length_map]; exact hl, fun ys t hp hs nt => ?_⟩
  refine q ys t _ hp hs (sl.trans (same_upd nt)) ?_ upd_same
  cases e : H t with
  | none => rfl
  | some o =>
    rw [sl _ _ e] at nt
    cases nt
def spInputs (C : Addr) : Sp := fun vs H Q _ => ∃ (Z : List Addr) (p : NetP) (m : Nat) (gs : List Gt) (nm : List (Str × List Nat)), vs = [.ref p.x] ∧ NetAt C Z H p m gs nm ∧ Q (.int (m : Int)) H
theorem ok_Net_inputs (B : Bl mg) (L : LL K mg C za zl E_NoWire I_NoWire E_NoName I_NoName E_Taken I_Taken E_BadForm E_BadText E_BadRow E_Unfit E_TooFew E_NoStep E_Undone E_Busy E_NoPlace E_NoDeed E_NoStage E_BadDeed E_TooMuch E_Stuck) : FnOk P w K mg base CX0 1 (za 25) (zl 25) ["self"] (spInputs C) := by
  refine L.F_Net_inputs.ok sc_Net_inputs (fun vs H Q E h => ?_) (fun cdv A outer s H vs Q E hr h => ?_)
  · obtain ⟨Z, p, m, gs, nm, rfl, _⟩ := h
    rfl
  obtain ⟨Z, p, m, gs, nm, rfl, hN, q⟩ := h
  refine ⟨_, (pss_one (ps_ret (pe_fld (pv 0) rfl))), ?_⟩
  obtain ⟨hz, hb, _, dx, ps, kvs, e1, _⟩ := id hN
  exact ⟨_, rfl, p.x, C, dx, _, _, rfl, e1, L.T.cl, L.T.n_input_count, rfl, q⟩
def spGates (C : Addr) : Sp := fun vs H Q _ => ∃ (Z : List Addr) (p : NetP) (m : Nat) (gs : List Gt) (nm : List (Str × List Nat)), vs = [.ref p.x] ∧ NetAt C Z H p m gs nm ∧
  ∀ (t : Addr) (ps : List Addr) , H t = none → ps.length = gs.length → (∀ (i : Nat) (r : Addr) (g : Gt), ps[i]? = some r → gs[i]? = some g → H r = some (.tup g.row)) → Q (.ref t) (upd H t (.lst (ps.map V.ref)))
theorem ok_Net_gates (B : Bl mg) (L : LL K mg C za zl E_NoWire I_NoWire E_NoName I_NoName E_Taken I_Taken E_BadForm E_BadText E_BadRow E_Unfit E_TooFew E_NoStep E_Undone E_Busy E_NoPlace E_NoDeed E_NoStage E_BadDeed E_TooMuch E_Stuck) : FnOk P w K mg base CX0 1 (za 26) (zl 26) ["self"] (spGates C) := by
  refine L.F_Net_gates.ok sc_Net_gates (fun vs H Q E h => ?_) (fun cdv A outer s H vs Q E hr h => ?_)
  · obtain ⟨Z, p, m, gs, nm, rfl, _⟩ := h
    rfl
  obtain ⟨Z, p, m, gs, nm, rfl, hN, q⟩ := h
  refine ⟨_, (pss_one (ps_ret (pe_callTy call_list_of (by rfl) B.list PyProof.Rows.boot_list (pa_cons (pe_fld (pv 0) rfl) pa_nil)))), ?_⟩
  obtain ⟨hz, hb, _, dx, ps, kvs, e1, e2, e3, e4, g0, n0⟩ := id hN
  exact ⟨_, rfl, p.x, C, dx, _, _, rfl, e1, L.T.cl, L.T.n_made, rfl, p.lm, _, rfl, .inl (SqL.of e2), fun t nt => q t ps nt g0.1 (fun i r g hi hg => (g0.2 i r g hi hg).2)⟩
end
section
variable {P : Program} {w : World} {K : PySem.W.Frag} {mg : Str → Option Value} {base : Heap}
variable {C : Addr} {za : Nat → Addr} {zl : Nat → FuncData} {E_NoWire I_NoWire E_NoName I_NoName E_Taken I_Taken E_BadForm E_BadText E_BadRow E_Unfit E_TooFew E_NoStep E_Undone E_Busy E_NoPlace E_NoDeed E_NoStage E_BadDeed E_TooMuch E_Stuck : Addr}
def dpW (m : Nat) (gs : List Gt) (w : Nat) : Int := (dps m gs).getD w 0
def spLenN (C : Addr) : Sp := fun vs H Q _ => ∃ (Z : List Addr) (p : NetP) (m : Nat) (gs : List Gt) (nm : List (Str × List Nat)), vs = [.ref p.x] ∧ NetAt C Z H p m gs nm ∧ Q (.int (gs.length : Nat)) H
theorem ok_Net___len__ (B : Bl mg) (L : LL K mg C za zl E_NoWire I_NoWire E_NoName I_NoName E_Taken I_Taken E_BadForm E_BadText E_BadRow E_Unfit E_TooFew E_NoStep E_Undone E_Busy E_NoPlace E_NoDeed E_NoStage E_BadDeed E_TooMuch E_Stuck) : FnOk P w K mg base CX0 1 (za 28) (zl 28) ["self"] (spLenN C) := by
  refine L.F_Net___len__.ok sc_Net___len__ (fun vs H Q E h => ?_) (fun cdv A outer s H vs Q E hr h => ?_)
  · obtain ⟨Z, p, m, gs, nm, rfl, _⟩ := h
    rfl
  obtain ⟨Z, p, m, gs, nm, rfl, hN, q⟩ := h
  refine ⟨_, (pss_one (ps_ret (pe_callB call_len_seq (by rfl) B.len PySem.boot_len (pa_cons (pe_fld (pv 0) rfl) pa_nil)))), ?_⟩
  obtain ⟨_, _, _, dx, ps, kvs, e1, e2, e3, _, ⟨g1, _⟩, _⟩ := id hN
  refine ⟨_, rfl, p.x, C, dx, _, _, rfl, e1, L.T.cl, L.T.n_made, rfl, p.lm, _, rfl, .inl (SqL.of e2), ?_⟩
  rw [List.length_map, g1]
  exact q
def spDepth (C : Addr) : Sp := fun vs H Q _ => ∃ (Z : List Addr) (p : NetP) (m : Nat) (gs : List Gt) (nm : List (Str × List Nat)) (a : Nat), vs = [.ref p.x, .int (a : Int)] ∧ NetAt C Z H p m gs nm ∧ a < m + gs.length ∧
  ∀ H', Same H H' → Q (.int (dpW m gs a)) H'
theorem ok_Net_depth (B : Bl mg) (L : LL K mg C za zl E_NoWire I_NoWire E_NoName I_NoName E_Taken I_Taken E_BadForm E_BadText E_BadRow E_Unfit E_TooFew E_NoStep E_Undone E_Busy E_NoPlace E_NoDeed E_NoStage E_BadDeed E_TooMuch E_Stuck) : FnOk P w K mg base CX0 2 (za 27) (zl 27) ["self", "wire"] (spDepth C) := by
  have G_Net_need : FnOk P w K mg base CX0 1 (za 21) (zl 21) ["self", "wires"] (spNeed K C) := (ok_Net_need B L).mono (by decide)
  refine L.F_Net_depth.ok sc_Net_depth (fun vs H Q E h => ?_) (fun cdv A outer s H vs Q E hr h => ?_)
  · obtain ⟨Z, p, m, gs, nm, a, rfl, _⟩ := h
    rfl
  obtain ⟨Z, p, m, gs, nm, a, rfl, hN, ha, q⟩ := h
  refine ⟨_, (pss_cons (ps_expr (pe_meth (pv 0) L.T.cl L.M_Net_need G_Net_need hr L.b_Net_need .nil pass0 (pa_cons (pe_tup (pa_cons (pv 1) pa_nil)) pa_nil)))
    (pss_one (ps_ret (pe_ix ix_list (pe_fld (pv 0) rfl) (pv 1) (fun _ _ => rfl))))), ?_⟩
  obtain ⟨_, _, _, dx, ps, kvs, e1, e2, e3, _⟩ := id hN
  refine ⟨_, rfl, p.x, dx, _, rfl, e1, rfl, _, rfl, (by show 1 ≤ sizeLine; decide), fun t nt => ?_⟩
  have st := same_upd (o := .tup [.int (a : Int)]) nt
  refine ⟨Z, p, m, gs, nm, t, [a], rfl, hN.same st, .inr (.inl (.inl upd_same)), (fun x hx => by rw [List.mem_singleton.mp hx]; exact ha), fun H' s' => ?_⟩
  have e1' := s' _ _ (st _ _ e1)
  have e3' := s' _ _ (st _ _ e3)
  refine ⟨_, rfl, p.x, C, dx, _, _, rfl, e1', L.T.cl, L.T.n_depths, rfl, ?_⟩
  refine ⟨_, rfl, p.ld, _, _, _, rfl, rfl, SqL.of e3', atI_nat (by
    rw [List.getElem?_map, List.getElem?_eq_getElem (by rw [dps_len]; exact ha)]
    rfl), ?_⟩
  have ed : (dps m gs)[a]'(by rw [dps_len]; exact ha) = dpW m gs a := by
    unfold dpW
    simp [List.getD, List.getElem?_eq_getElem (show a < (dps m gs).length by rw [dps_len]; exact ha)]
  rw [ed]
  exact q _ (st.trans s')
theorem Gt.row0 (k : Str) (ws : List Nat) : atI (Gt.w k ws).row 0 = some (.str k) := atI_nat (j := 0) rfl
end
section
variable {P : Program} {w : World} {K : PySem.W.Frag} {mg : Str → Option Value} {base : Heap}
variable {C : Addr} {za : Nat → Addr} {zl : Nat → FuncData} {E_NoWire I_NoWire E_NoName I_NoName E_Taken I_Taken E_BadForm E_BadText E_BadRow E_Unfit E_TooFew E_NoStep E_Undone E_Busy E_NoPlace E_NoDeed E_NoStage E_BadDeed E_TooMuch E_Stuck : Addr}
/-! ### drawn gates -/
def GsOk (m : Nat) (gs : List Gt) : Prop := ∀ (i : Nat) (g : Gt), gs[i]? = some g → g.ok (m + i)
def RowsAt46 (H : Hp) (R : Addr) (gs : List Gt) : Prop := ∃ ts : List Addr, ts.length = gs.length ∧ H R = some (.lst (ts.map V.ref)) ∧ ∀ (i : Nat) (t : Addr) (g : Gt), ts[i]? = some t → gs[i]? = some g → H t = some (.tup g.row)
def spGatesL : Sp := fun vs H Q _ => ∃ (b : Addr) (c : Int) (m n : Nat), vs = [.ref b, .int (m : Int), .int (n : Int)] ∧ BoxAt c H b ∧ c ≤ 800000000 ∧ 1 ≤ m ∧ m ≤ 100 ∧ n ≤ 200 ∧
  ∀ (R : Addr) (gs : List Gt) (H' : Hp), gs.length = n → GsOk m gs → R ≠ b → RowsAt46 H' R gs → BoxAt (c + 10 * n) H' b → Keep b H H' → Q (.ref R) H'
theorem at3s {r : Int} (h0 : 0 ≤ r) (h1 : r < 6) : ∃ w : Str, atI ([.str "both", .str "either", .str "unlike"] : List V) (r % 3) = some (.str w) ∧ (w = "both" ∨ w = "either" ∨ w = "unlike") := by
  have : r = 0 ∨ r = 1 ∨ r = 2 ∨ r = 3 ∨ r = 4 ∨ r = 5 := by omega
  rcases this with z | z | z | z | z | z <;> subst z
  · exact ⟨_, rfl, .inl rfl⟩
  · exact ⟨_, rfl, .inr (.inl rfl)⟩
  · exact ⟨_, rfl, .inr (.inr rfl)⟩
  · exact ⟨_, rfl, .inl rfl⟩
  · exact ⟨_, rfl, .inr (.inl rfl)⟩
  · exact ⟨_, rfl, .inr (.inr rfl)⟩
theorem ok__law_gates (B : Bl mg) (L : LL K mg C za zl E_NoWire I_NoWire E_NoName I_NoName E_Taken I_Taken E_BadForm E_BadText E_BadRow E_Unfit E_TooFew E_NoStep E_Undone E_Busy E_NoPlace E_NoDeed E_NoStage E_BadDeed E_TooMuch E_Stuck) : FnOk P w K mg base CX0 2 (za 6) (zl 6) ["_law_box_here", "_law_wide", "_law_size"] spGatesL := by
  have G__law_take : FnOk P w K mg base CX0 1 (za 2) (zl 2) ["_law_box_here", "_law_size"] (spTake 1) := (ok_take L.F__law_take L.b__law_take L.m__law_take B 1).mono (by decide)
  refine L.F__law_gates.ok sc__law_gates (fun vs H Q E h => ?_) (fun cdv A outer s H vs Q E hr h => ?_)
  · obtain ⟨b, c, m, n, rfl, _⟩ := h
    rfl
  obtain ⟨b, c, m, n, rfl, hB, hc, m1, m9, hn, q⟩ := h
  refine ⟨_, (pss_cons (ps_set (i := 3) sc__law_gates.nd rfl (.inl rfl) (pe_lst pa_nil))
    (pss_cons (ps_for PassesOwn.never rfl (pi_range1 (by rfl) B.range (pa_cons (pv 2) pa_nil)) (pg_name (i := 4) sc__law_gates.nd rfl (.inl rfl)) (pss_cons (ps_par (by rfl) sc__law_gates.nd (i := 5) (j := 6) rfl rfl (by decide) rfl rfl (pa_cons (pe_op op_add (pv 1) (pv 4)) (pa_cons (pe_call G__law_take hr (by rfl) L.m__law_take L.F__law_take.kp L.b__law_take .nil pass0 (pa_cons (pv 0) (pa_cons pe_int pa_nil))) pa_nil)) (by rfl))
    (pss_cons (ps_par (by rfl) sc__law_gates.nd (i := 7) (j := 8) rfl rfl (by decide) rfl rfl (pa_cons (pe_call G__law_take hr (by rfl) L.m__law_take L.F__law_take.kp L.b__law_take .nil pass0 (pa_cons (pv 0) (pa_cons (pv 5) pa_nil))) (pa_cons (pe_op op_sub (pe_op op_sub (pv 5) pe_int) (pe_call G__law_take hr (by rfl) L.m__law_take L.F__law_take.kp L.b__law_take .nil pass0 (pa_cons (pv 0) (pa_cons (pe_callB (call_min2 rfl) (by rfl) B.min boot_min (pa_cons (pv 5) (pa_cons pe_int pa_nil))) pa_nil)))) pa_nil)) (by rfl))
    (pss_one (ps_if (pt_cmpR op_lt (pv 6) pe_int (nomark _)) (pss_one (ps_expr (pe_bm PySem.F.plainAttrs_list PySem.F.slot_list_append PySem.F.type_list_append mt_append (pv 3) (pa_cons (pe_op op_catT (pe_tup (pa_cons (pe_ix ix_list (pe_lst (pa_cons pe_str (pa_cons pe_str (pa_cons pe_str pa_nil)))) (pe_op op_mod (pv 6) pe_int) (fun _ _ => rfl)) pa_nil)) (pe_ifExp (pt_cmpR op_lt (pv 6) pe_int (nomark _)) (pe_tup (pa_cons (pv 7) (pa_cons (pv 8) pa_nil))) (pe_tup (pa_cons (pv 8) (pa_cons (pv 7) pa_nil))))) pa_nil)))) (pss_one (ps_expr (pe_bm PySem.F.plainAttrs_list PySem.F.slot_list_append PySem.F.type_list_append mt_append (pv 3) (pa_cons (pe_ix ix_list (pe_lst (pa_cons (pe_tup (pa_cons pe_str (pa_cons (pv 8) pa_nil))) (pa_cons (pe_tup (pa_cons pe_str (pa_cons (pe_op op_mod (pv 7) pe_int) pa_nil))) (pa_cons (pe_tup (pa_cons pe_str (pa_cons (pv 8) (pa_cons (pv 8) pa_nil)))) pa_nil)))) (pe_op op_sub (pv 6) pe_int) (fun _ _ => rfl)) pa_nil)))))))))
    (pss_one (ps_ret (pv 3))))), ?_⟩
  refine ⟨Nat.zero_le _, fun R nR => ?_⟩
  have nRb : R ≠ b := (hB.ne nR).symm
  have sR := same_upd (o := .lst []) nR
  try simp only [L2.start, List.map_cons, List.map_nil, List.length_cons, List.length_nil, List.replicate_succ, List.replicate_zero, List.cons_append, List.nil_append, List.set_cons_succ, List.set_cons_zero, Nat.reduceAdd, Nat.reduceSub, Nat.zero_add]
  refine ⟨_, rfl, _, rfl, by omega, by omega, ?_⟩
  rw [Int.toNat_natCast]
  refine for_range (n := n) (fun j σ H5 => ∃ (gs : List Gt) (y4 y5 y6 y7 y8 : Option V), σ = [some (.ref b), some (.int (m : Int)), some (.int (n : Int)), some (.ref R), y4, y5, y6, y7, y8] ∧ gs.length = j ∧ GsOk m gs ∧ RowsAt46 H5 R gs ∧ BoxAt (c + 10 * j) H5 b ∧ Keep b H H5) ⟨[], none, none, none, none, none, rfl, rfl, (fun i g h => by simp at h), ⟨[], rfl, upd_same, fun i t g h => by simp at h⟩, (hB.same sR).mono (by omega), Keep.ofSame sR⟩ ?_ ?_
  · rintro j σ H5 hj ⟨gs, y4, y5, y6, y7, y8, rfl, lg, ok, ⟨ts, lt, eR, hts⟩, B5, k5⟩
    try simp only [L2.start, List.map_cons, List.map_nil, List.length_cons, List.length_nil, List.replicate_succ, List.replicate_zero, List.cons_append, List.nil_append, List.set_cons_succ, List.set_cons_zero, Nat.reduceAdd, Nat.reduceSub, Nat.zero_add]
    refine ⟨_, rfl, _, rfl, _, _, rfl, rfl, _, rfl, b, _, _, rfl, B5, by decide, by decide, by decide, by omega, by decide, fun r1 H6 u1 v1 B6 k6 => ?_⟩
    replace B6 := bx1 B6
    refine ⟨_, _, rfl, ?_⟩
    try simp only [L2.start, List.map_cons, List.map_nil, List.length_cons, List.length_nil, List.replicate_succ, List.replicate_zero, List.cons_append, List.nil_append, List.set_cons_succ, List.set_cons_zero, Nat.reduceAdd, Nat.reduceSub, Nat.zero_add]
    have hM : (m : Int) + (0 + (j : Int)) = ((m + j : Nat) : Int) := by omega
    rw [hM]
    refine ⟨_, rfl, _, rfl, b, _, _, rfl, B6, by omega, by omega, by omega, by omega, by decide, fun r2 H7 u2 v2 B7 k7 => ?_⟩
    replace B7 := bx1 B7
    obtain ⟨mn, emn, n1, n6⟩ : ∃ mn : Int, (if (6 : Int) < ((m + j : Nat) : Int) then (6 : Int) else ((m + j : Nat) : Int)) = mn ∧ 1 ≤ mn ∧ mn ≤ ((m + j : Nat) : Int) ∧ mn ≤ 6 := ⟨_, rfl, by split <;> omega, by split <;> omega⟩
    refine ⟨_, rfl, _, _, rfl, rfl, _, rfl, _, rfl, _, _, rfl, ?_⟩
    rw [emn]
    refine ⟨b, _, _, rfl, B7, by omega, by omega, by omega, by omega, by decide, fun r3 H8 u3 v3 B8 k8 => ?_⟩
    replace B8 := bx1 B8
    refine ⟨_, _, rfl, rfl, ?_⟩
    refine ⟨_, _, rfl, ?_⟩
    try simp only [L2.start, List.map_cons, List.map_nil, List.length_cons, List.length_nil, List.replicate_succ, List.replicate_zero, List.cons_append, List.nil_append, List.set_cons_succ, List.set_cons_zero, Nat.reduceAdd, Nat.reduceSub, Nat.zero_add]
    have kA := (k6.trans k7).trans k8
    have eR8 := kA _ _ eR nRb
    have hts8 : ∀ (i : Nat) (t : Addr) (g : Gt), ts[i]? = some t → gs[i]? = some g → H8 t = some (.tup g.row) := fun i t g hi hg => kA _ _ (hts i t g hi hg) (fun z => by
      obtain ⟨_, _, _, eb, _⟩ := B5
      have := hts i t g hi hg
      rw [z, eb] at this
      cases this)
    obtain ⟨a, ea⟩ : ∃ a : Nat, r2 = (a : Int) := ⟨r2.toNat, by omega⟩
    obtain ⟨a', ea'⟩ : ∃ a : Nat, ((m + j : Nat) : Int) - 1 - r3 = (a : Int) := ⟨(((m + j : Nat) : Int) - 1 - r3).toNat, by omega⟩
    rw [ea', ea]
    have la : a < m + j := by omega
    have la' : a' < m + j := by omega
    have fin : ∀ (g : Gt) (T : Addr) (HT : Hp) (z4 z5 z6 z7 z8 : Option V), g.ok (m + j) → Same H8 HT → HT T = some (.tup g.row) → HT R = some (.lst (ts.map V.ref)) → ∃ (gs : List Gt) (y4 y5 y6 y7 y8 : Option V), [some (.ref b), some (.int (m : Int)), some (.int (n : Int)), some (.ref R), z4, z5, z6, z7, z8] = [some (.ref b), some (.int (m : Int)), some (.int (n : Int)), some (.ref R), y4, y5, y6, y7, y8] ∧ gs.length = j + 1 ∧ GsOk m gs ∧ RowsAt46 (upd HT R (.lst (ts.map V.ref ++ [.ref T]))) R gs ∧ BoxAt (c + 10 * (j + 1 : Nat)) (upd HT R (.lst (ts.map V.ref ++ [.ref T]))) b ∧ Keep b H (upd HT R (.lst (ts.map V.ref ++ [.ref T]))) := fun g T HT z4 z5 z6 z7 z8 hg sT eT eRT => by
      have nTR : T ≠ R := fun z => by
        rw [z, eRT] at eT
        cases eT
      refine ⟨gs ++ [g], _, _, _, _, _, rfl, by rw [List.length_append, lg]; rfl, fun i g' h => ?_, ⟨ts ++ [T], by rw [List.length_append, List.length_append, lt]; rfl, by rw [upd_same, List.map_append]; rfl, fun i t' g' hi hg' => ?_⟩, BoxAt.mono ((B8.same sT).at (upd_ne nRb.symm)) (by omega), fun y u e ny => ?_⟩
      · by_cases d : i < gs.length
        · rw [List.getElem?_append_left d] at h
          exact ok i g' h
        · have i0 : i = gs.length := by
            have := (List.getElem?_eq_some_iff.mp h).1
            rw [List.length_append, List.length_cons, List.length_nil] at this
            omega
          rw [List.getElem?_append_right (by omega), i0, Nat.sub_self] at h
          cases h
          rw [i0, lg]
          exact hg
      · by_cases d : i < ts.length
        · rw [List.getElem?_append_left d] at hi
          rw [List.getElem?_append_left (by omega)] at hg'
          have e1 := sT _ _ (hts8 i t' g' hi hg')
          rw [upd_ne (fun z => by rw [z, eRT] at e1; cases e1)]
          exact e1
        · have i0 : i = ts.length := by
            have := (List.getElem?_eq_some_iff.mp hi).1
            rw [List.length_append, List.length_cons, List.length_nil] at this
            omega
          rw [List.getElem?_append_right (by omega), i0, Nat.sub_self] at hi
          rw [List.getElem?_append_right (by omega), i0, lt, Nat.sub_self] at hg'
          cases hi
          cases hg'
          rw [upd_ne nTR]
          exact eT
      · rw [upd_ne (ne_of_none e nR)]
        exact sT _ _ (kA _ _ (k5 _ _ e ny) ny)
    have lts : (ts.map V.ref).length < sizeLine := by
      rw [List.length_map, lt, lg]
      exact Nat.lt_of_le_of_lt (show j ≤ 200 by omega) (by decide)
    refine ⟨_, rfl, _, _, rfl, rfl, _, rfl, ite2 (fun c6 => ?_) (fun c6 => ?_)⟩
    · have c6 : r1 < 6 := of_decide_eq_true c6
      obtain ⟨k, ek, hk⟩ := at3s u1 c6
      refine ⟨_, rfl, .inl ⟨rfl, _, SqL.of eR8⟩, ?_⟩
      refine ⟨(by show 3 ≤ sizeLine; decide), fun K3 nK3 => ?_⟩
      have s3 := same_upd (o := .lst [.str "both", .str "either", .str "unlike"]) nK3
      refine ⟨_, rfl, _, _, rfl, rfl, (by show (0 : Int) < 3; decide), K3, _, _, _, rfl, rfl, SqL.of upd_same, ek, ?_⟩
      refine ⟨(by show 1 ≤ sizeLine; decide), fun T1 nT1 => ?_⟩
      have s4 := same_upd (o := .tup [.str k]) nT1
      refine ⟨_, rfl, _, _, rfl, rfl, _, rfl, ite2 (fun c3 => ?_) (fun c3 => ?_)⟩
      · refine ⟨_, rfl, _, rfl, (by show 2 ≤ sizeLine; decide), fun T2 nT2 => ?_⟩
        have s5 := same_upd (o := .tup [.int (a : Int), .int (a' : Int)]) nT2
        refine ⟨T1, T2, _, _, rfl, rfl, .inl (.inl (s5 _ _ upd_same)), .inl (.inl upd_same), (fun z => nomatch z), (by show 3 ≤ sizeLine; decide), (fun z => nomatch z), fun _ T nT => ?_⟩
        have s6 := same_upd (o := .tup ([.str k] ++ [.int (a : Int), .int (a' : Int)])) nT
        have sZ := ((s3.trans s4).trans s5).trans s6
        refine ⟨R, _, _, rfl, rfl, sZ _ _ eR8, lts, ?_⟩
        refine fin (.w k [a, a']) T _ _ _ _ _ _ ⟨.inl ⟨hk, rfl⟩, fun x hx => ?_⟩ sZ upd_same (sZ _ _ eR8)
        simp only [List.mem_cons, List.not_mem_nil, or_false] at hx
        rcases hx with z | z <;> rw [z] <;> assumption
      · refine ⟨_, rfl, _, rfl, (by show 2 ≤ sizeLine; decide), fun T2 nT2 => ?_⟩
        have s5 := same_upd (o := .tup [.int (a' : Int), .int (a : Int)]) nT2
        refine ⟨T1, T2, _, _, rfl, rfl, .inl (.inl (s5 _ _ upd_same)), .inl (.inl upd_same), (fun z => nomatch z), (by show 3 ≤ sizeLine; decide), (fun z => nomatch z), fun _ T nT => ?_⟩
        have s6 := same_upd (o := .tup ([.str k] ++ [.int (a' : Int), .int (a : Int)])) nT
        have sZ := ((s3.trans s4).trans s5).trans s6
        refine ⟨R, _, _, rfl, rfl, sZ _ _ eR8, lts, ?_⟩
        refine fin (.w k [a', a]) T _ _ _ _ _ _ ⟨.inl ⟨hk, rfl⟩, fun x hx => ?_⟩ sZ upd_same (sZ _ _ eR8)
        simp only [List.mem_cons, List.not_mem_nil, or_false] at hx
        rcases hx with z | z <;> rw [z] <;> assumption
    · have c6 : ¬ r1 < 6 := fun z => c6 (decide_eq_true z)
      refine ⟨_, rfl, .inl ⟨rfl, _, SqL.of eR8⟩, ?_⟩
      refine ⟨_, rfl, (by show 2 ≤ sizeLine; decide), fun P1 nP1 => ?_⟩
      have s1 := same_upd (o := .tup [.str "other", .int (a' : Int)]) nP1
      refine ⟨_, rfl, _, _, rfl, rfl, (by show (0 : Int) < 2; decide), (by show 2 ≤ sizeLine; decide), fun P2 nP2 => ?_⟩
      have s2 := same_upd (o := .tup [.str "fixed", .int ((a : Int) % 2)]) nP2
      refine ⟨_, rfl, _, rfl, (by show 3 ≤ sizeLine; decide), fun P3 nP3 => ?_⟩
      have s3 := same_upd (o := .tup [.str "unlike", .int (a' : Int), .int (a' : Int)]) nP3
      refine ⟨(by show 3 ≤ sizeLine; decide), fun PL nPL => ?_⟩
      have s4 := same_upd (o := .lst [.ref P1, .ref P2, .ref P3]) nPL
      have sZ := ((s1.trans s2).trans s3).trans s4
      have g1 := s4 _ _ (s3 _ _ (s2 _ _ (upd_same (H := H8) (a := P1) (o := .tup [.str "other", .int (a' : Int)]))))
      have g2 := s4 _ _ (s3 _ _ (upd_same (H := upd H8 P1 (.tup [.str "other", .int (a' : Int)])) (a := P2) (o := .tup [.str "fixed", .int ((a : Int) % 2)])))
      have g3 := s4 _ _ (upd_same (H := upd (upd H8 P1 (.tup [.str "other", .int (a' : Int)])) P2 (.tup [.str "fixed", .int ((a : Int) % 2)])) (a := P3) (o := .tup [.str "unlike", .int (a' : Int), .int (a' : Int)]))
      have r678 : r1 - 6 = 0 ∨ r1 - 6 = 1 ∨ r1 - 6 = 2 := by omega
      refine ⟨_, rfl, _, _, rfl, rfl, ?_⟩
      dsimp only
      rcases r678 with z | z | z <;> rw [z]
      · refine ⟨PL, _, _, _, rfl, rfl, SqL.of upd_same, rfl, ?_⟩
        refine ⟨R, _, _, rfl, rfl, sZ _ _ eR8, lts, ?_⟩
        exact fin (.w "other" [a']) P1 _ _ _ _ _ _ ⟨.inr ⟨rfl, rfl⟩, fun x hx => by rw [List.mem_singleton.mp hx]; exact la'⟩ sZ g1 (sZ _ _ eR8)
      · refine ⟨PL, _, _, _, rfl, rfl, SqL.of upd_same, rfl, ?_⟩
        refine ⟨R, _, _, rfl, rfl, sZ _ _ eR8, lts, ?_⟩
        exact fin (.fi (a % 2)) P2 _ _ _ _ _ _ (show a % 2 ≤ 1 by omega) sZ g2 (sZ _ _ eR8)
      · refine ⟨PL, _, _, _, rfl, rfl, SqL.of upd_same, rfl, ?_⟩
        refine ⟨R, _, _, rfl, rfl, sZ _ _ eR8, lts, ?_⟩
        refine fin (.w "unlike" [a', a']) P3 _ _ _ _ _ _ ⟨.inl ⟨.inr (.inr rfl), rfl⟩, fun x hx => ?_⟩ sZ g3 (sZ _ _ eR8)
        simp only [List.mem_cons, List.not_mem_nil, or_false] at hx
        rcases hx with z | z <;> rw [z] <;> assumption
  · rintro σ H5 ⟨gs, y4, y5, y6, y7, y8, rfl, lg, ok, hR, B5, k5⟩
    exact ⟨_, rfl, q R gs _ lg ok nRb hR B5 k5⟩
def spMadeL (C : Addr) : Sp := fun vs H Q _ => ∃ (Z : List Addr) (R : Addr) (m : Nat) (gs : List Gt), vs = [.ref R, .int (m : Int)] ∧ (∀ z ∈ Z, H z ≠ none) ∧ RowsAt46 H R gs ∧ GsOk m gs ∧ m ≤ 100 ∧ gs.length ≤ 200 ∧
  ∀ (p : NetP) (H' : Hp), Same H H' → NetAt C Z H' p m gs [] → (H p.x = none ∧ H p.lm = none ∧ H p.ld = none ∧ H p.dn = none) → Q (.ref p.x) H'
theorem ok__law_made (B : Bl mg) (L : LL K mg C za zl E_NoWire I_NoWire E_NoName I_NoName E_Taken I_Taken E_BadForm E_BadText E_BadRow E_Unfit E_TooFew E_NoStep E_Undone E_Busy E_NoPlace E_NoDeed E_NoStage E_BadDeed E_TooMuch E_Stuck) : FnOk P w K mg base CX0 5 (za 7) (zl 7) ["_law_rows", "_law_wide"] (spMadeL C) := by
  have G_Net___init__ : FnOk P w K mg base CX0 3 (za 13) (zl 13) ["self", "many"] (spNetI C) := (ok_Net___init__ B L).mono (by decide)
  have G_Net_both : FnOk P w K mg base CX0 4 (za 14) (zl 14) ["self", "a", "b"] (spG2 C "both") := (ok_Net_both B L).mono (by decide)
  have G_Net_either : FnOk P w K mg base CX0 4 (za 15) (zl 15) ["self", "a", "b"] (spG2 C "either") := (ok_Net_either B L).mono (by decide)
  have G_Net_unlike : FnOk P w K mg base CX0 4 (za 16) (zl 16) ["self", "a", "b"] (spG2 C "unlike") := (ok_Net_unlike B L).mono (by decide)
  have G_Net_other : FnOk P w K mg base CX0 4 (za 17) (zl 17) ["self", "a"] (spG1 C) := (ok_Net_other B L).mono (by decide)
  have G_Net_fixed : FnOk P w K mg base CX0 4 (za 18) (zl 18) ["self", "bit"] (spFixed C) := (ok_Net_fixed B L).mono (by decide)
  refine L.F__law_made.ok sc__law_made (fun vs H Q E h => ?_) (fun cdv A outer s H vs Q E hr h => ?_)
  · obtain ⟨Z, R, m, gs, rfl, _⟩ := h
    rfl
  obtain ⟨Z, R, m, gs, rfl, hZ, ⟨ts, lt, eR, hts⟩, ok, hm, hg, q⟩ := h
  refine ⟨_, (pss_cons (ps_set (i := 2) sc__law_made.nd rfl (.inl rfl) (pe_make L.M G_Net___init__ hr (by rfl) L.T.mgC L.b_Net___init__ .nil pass0 (pa_cons (pv 1) pa_nil)))
    (pss_cons (ps_for PassesOwn.never rfl (pi_list (pv 0)) (pg_name (i := 3) sc__law_made.nd rfl (.inl rfl)) (pss_one (ps_if (pt_cmpR op_eq (pe_ix ix_tup (pv 3) pe_int (fun _ _ => rfl)) pe_str (nomark _)) (pss_one (ps_expr (pe_meth (pv 2) L.T.cl L.M_Net_both G_Net_both hr L.b_Net_both .nil pass0 (pa_cons (pe_ix ix_tup (pv 3) pe_int (fun _ _ => rfl)) (pa_cons (pe_ix ix_tup (pv 3) pe_int (fun _ _ => rfl)) pa_nil))))) (pss_one (ps_if (pt_cmpR op_eq (pe_ix ix_tup (pv 3) pe_int (fun _ _ => rfl)) pe_str (nomark _)) (pss_one (ps_expr (pe_meth (pv 2) L.T.cl L.M_Net_either G_Net_either hr L.b_Net_either .nil pass0 (pa_cons (pe_ix ix_tup (pv 3) pe_int (fun _ _ => rfl)) (pa_cons (pe_ix ix_tup (pv 3) pe_int (fun _ _ => rfl)) pa_nil))))) (pss_one (ps_if (pt_cmpR op_eq (pe_ix ix_tup (pv 3) pe_int (fun _ _ => rfl)) pe_str (nomark _)) (pss_one (ps_expr (pe_meth (pv 2) L.T.cl L.M_Net_unlike G_Net_unlike hr L.b_Net_unlike .nil pass0 (pa_cons (pe_ix ix_tup (pv 3) pe_int (fun _ _ => rfl)) (pa_cons (pe_ix ix_tup (pv 3) pe_int (fun _ _ => rfl)) pa_nil))))) (pss_one (ps_if (pt_cmpR op_eq (pe_ix ix_tup (pv 3) pe_int (fun _ _ => rfl)) pe_str (nomark _)) (pss_one (ps_expr (pe_meth (pv 2) L.T.cl L.M_Net_other G_Net_other hr L.b_Net_other .nil pass0 (pa_cons (pe_ix ix_tup (pv 3) pe_int (fun _ _ => rfl)) pa_nil)))) (pss_one (ps_expr (pe_meth (pv 2) L.T.cl L.M_Net_fixed G_Net_fixed hr L.b_Net_fixed .nil pass0 (pa_cons (pe_ix ix_tup (pv 3) pe_int (fun _ _ => rfl)) pa_nil)))))))))))))
    (pss_one (ps_ret (pv 2))))), ?_⟩
  refine ⟨_, rfl, fun x dx nx ndx ne => ?_⟩
  refine ⟨x, dx, m, rfl, upd_same, by omega, fun p H1 px fr ⟨n1, n2, n3⟩ N0 => ⟨rfl, ?_⟩⟩
  have s1 : Same H H1 := made nx ndx ne fr
  subst px
  have up : ∀ {y : Addr}, (upd (upd H dx (.own p.x)) p.x (.ins C dx [])) y = none → H y = none := fun {y} e => by
    cases h : H y with
    | none => rfl
    | some o =>
      rw [upd_ne (ne_of_none h nx), upd_ne (ne_of_none h ndx), h] at e
      cases e
  have N1 := N0 Z (fun z hz => by
    have h := hZ z hz
    have a : z ≠ p.x := fun y => h (by rw [y]; exact nx)
    have b : z ≠ dx := fun y => h (by rw [y]; exact ndx)
    exact ⟨a, by rw [upd_ne a, upd_ne b]; exact h⟩)
  have m1 := up n1
  have m2 := up n2
  have m3 := up n3
  try simp only [L2.start, List.map_cons, List.map_nil, List.length_cons, List.length_nil, List.replicate_succ, List.replicate_zero, List.cons_append, List.nil_append, List.set_cons_succ, List.set_cons_zero, Nat.reduceAdd, Nat.reduceSub, Nat.zero_add]
  have eR1 := s1 _ _ eR
  refine ⟨_, rfl, R, rfl, ⟨_, SqL.of eR1⟩, ?_⟩
  refine for_it (walk_list (K := K) (a := R) (xs := ts.map V.ref)) (fun j σ H9 => ∃ y : Option V, σ = [some (.ref R), some (.int (m : Int)), some (.ref p.x), y] ∧ Same H H9 ∧ NetAt C Z H9 p m (gs.take j) []) ⟨_, rfl, s1, N1⟩ (fun j σ H9 _ ⟨_, _, s9, _⟩ => SqL.of (s9 _ _ eR)) ?_ ?_
  · rintro j z σ H9 H10 hj ⟨y, rfl, s9, N9⟩ ⟨rfl, hz⟩
    rw [List.getElem?_map] at hz
    have hj' : j < ts.length := by
      rw [List.length_map] at hj
      exact hj
    rw [List.getElem?_eq_getElem hj'] at hz
    cases hz
    have hgj : gs[j]? = some (gs[j]'(by omega)) := List.getElem?_eq_getElem (by omega)
    have et := s9 _ _ (hts j _ _ (List.getElem?_eq_getElem hj') hgj)
    have okj := ok j _ hgj
    have lj : (gs.take j).length = j := by
      rw [List.length_take]
      omega
    have tk : gs.take (j + 1) = gs.take j ++ [gs[j]'(by omega)] := by
      rw [List.take_add_one, hgj]
      rfl
    obtain ⟨_, _, _, dx9, _, _, e1, _⟩ := id N9
    have kp : ∀ {H' : Hp}, KeepS [p.lm, p.ld] H10 H' → Same H H' := fun k y o e => k.1 y o (s9 _ _ e) (fun z => by
      simp only [List.mem_cons, List.not_mem_nil, or_false] at z
      rcases z with z | z
      · rw [z, m1] at e
        cases e
      · rw [z, m2] at e
        cases e)
    generalize gs[j]'(by omega) = g at et okj tk
    try simp only [L2.start, List.map_cons, List.map_nil, List.length_cons, List.length_nil, List.replicate_succ, List.replicate_zero, List.cons_append, List.nil_append, List.set_cons_succ, List.set_cons_zero, Nat.reduceAdd, Nat.reduceSub, Nat.zero_add]
    have nS : ∀ {x y : Str}, ¬ x = y → ¬ decide (V.str x = V.str y) = true := fun h z => h (V.str.inj (of_decide_eq_true z))
    dsimp only [gName]
    try simp only [L2.start, List.map_cons, List.map_nil, List.length_cons, List.length_nil, List.replicate_succ, List.replicate_zero, List.cons_append, List.nil_append, List.set_cons_succ, List.set_cons_zero, Nat.reduceAdd, Nat.reduceSub, Nat.zero_add]
    cases g with
    | fi b =>
      have r0 : atI (Gt.fi b).row 0 = some (.str "fixed") := rfl
      refine ⟨_, rfl, ts[j], _, _, _, rfl, rfl, .inl (.inl et), r0, rfl, _, rfl, ite2 (fun z => absurd z (nS (by decide +kernel))) (fun _ => ?_)⟩
      refine ⟨_, rfl, ts[j], _, _, _, rfl, rfl, .inl (.inl et), r0, rfl, _, rfl, ite2 (fun z => absurd z (nS (by decide +kernel))) (fun _ => ?_)⟩
      refine ⟨_, rfl, ts[j], _, _, _, rfl, rfl, .inl (.inl et), r0, rfl, _, rfl, ite2 (fun z => absurd z (nS (by decide +kernel))) (fun _ => ?_)⟩
      refine ⟨_, rfl, ts[j], _, _, _, rfl, rfl, .inl (.inl et), r0, rfl, _, rfl, ite2 (fun z => absurd z (nS (by decide +kernel))) (fun _ => ?_)⟩
      refine ⟨_, rfl, p.x, dx9, _, rfl, e1, rfl, _, rfl, ts[j], _, _, _, rfl, rfl, .inl (.inl et), rfl, Z, p, m, gs.take j, [], b, rfl, N9, by rw [lj]; omega, fun H' k' N' => ?_⟩
      exact ⟨_, rfl, kp k', by rw [tk]; exact N'⟩
    | w k ws =>
      have r0 := Gt.row0 k ws
      rcases okj.1 with ⟨hk, l2⟩ | ⟨rfl, l1⟩
      · obtain ⟨a, b, rfl⟩ : ∃ a b, ws = [a, b] := by
          match ws, l2 with
          | [a, b], _ => exact ⟨_, _, rfl⟩
        rcases hk with rfl | rfl | rfl
        · refine ⟨_, rfl, ts[j], _, _, _, rfl, rfl, .inl (.inl et), r0, rfl, _, rfl, ite2 (fun _ => ?_) (fun z => absurd (decide_eq_true rfl) z)⟩
          refine ⟨_, rfl, p.x, dx9, _, rfl, e1, rfl, _, rfl, ts[j], _, _, _, rfl, rfl, .inl (.inl et), rfl, _, rfl, ts[j], _, _, _, rfl, rfl, .inl (.inl et), rfl, Z, p, m, gs.take j, [], a, b, rfl, N9, by rw [lj]; exact okj.2 a (by simp), by rw [lj]; exact okj.2 b (by simp), by rw [lj]; omega, fun H' k' N' => ?_⟩
          exact ⟨_, rfl, kp k', by rw [tk]; exact N'⟩
        · refine ⟨_, rfl, ts[j], _, _, _, rfl, rfl, .inl (.inl et), r0, rfl, _, rfl, ite2 (fun z => absurd z (nS (by decide +kernel))) (fun _ => ?_)⟩
          refine ⟨_, rfl, ts[j], _, _, _, rfl, rfl, .inl (.inl et), r0, rfl, _, rfl, ite2 (fun _ => ?_) (fun z => absurd (decide_eq_true rfl) z)⟩
          refine ⟨_, rfl, p.x, dx9, _, rfl, e1, rfl, _, rfl, ts[j], _, _, _, rfl, rfl, .inl (.inl et), rfl, _, rfl, ts[j], _, _, _, rfl, rfl, .inl (.inl et), rfl, Z, p, m, gs.take j, [], a, b, rfl, N9, by rw [lj]; exact okj.2 a (by simp), by rw [lj]; exact okj.2 b (by simp), by rw [lj]; omega, fun H' k' N' => ?_⟩
          exact ⟨_, rfl, kp k', by rw [tk]; exact N'⟩
        · refine ⟨_, rfl, ts[j], _, _, _, rfl, rfl, .inl (.inl et), r0, rfl, _, rfl, ite2 (fun z => absurd z (nS (by decide +kernel))) (fun _ => ?_)⟩
          refine ⟨_, rfl, ts[j], _, _, _, rfl, rfl, .inl (.inl et), r0, rfl, _, rfl, ite2 (fun z => absurd z (nS (by decide +kernel))) (fun _ => ?_)⟩
          refine ⟨_, rfl, ts[j], _, _, _, rfl, rfl, .inl (.inl et), r0, rfl, _, rfl, ite2 (fun _ => ?_) (fun z => absurd (decide_eq_true rfl) z)⟩
          refine ⟨_, rfl, p.x, dx9, _, rfl, e1, rfl, _, rfl, ts[j], _, _, _, rfl, rfl, .inl (.inl et), rfl, _, rfl, ts[j], _, _, _, rfl, rfl, .inl (.inl et), rfl, Z, p, m, gs.take j, [], a, b, rfl, N9, by rw [lj]; exact okj.2 a (by simp), by rw [lj]; exact okj.2 b (by simp), by rw [lj]; omega, fun H' k' N' => ?_⟩
          exact ⟨_, rfl, kp k', by rw [tk]; exact N'⟩
      · obtain ⟨a, rfl⟩ : ∃ a, ws = [a] := by
          match ws, l1 with
          | [a], _ => exact ⟨_, rfl⟩
        refine ⟨_, rfl, ts[j], _, _, _, rfl, rfl, .inl (.inl et), r0, rfl, _, rfl, ite2 (fun z => absurd z (nS (by decide +kernel))) (fun _ => ?_)⟩
        refine ⟨_, rfl, ts[j], _, _, _, rfl, rfl, .inl (.inl et), r0, rfl, _, rfl, ite2 (fun z => absurd z (nS (by decide +kernel))) (fun _ => ?_)⟩
        refine ⟨_, rfl, ts[j], _, _, _, rfl, rfl, .inl (.inl et), r0, rfl, _, rfl, ite2 (fun z => absurd z (nS (by decide +kernel))) (fun _ => ?_)⟩
        refine ⟨_, rfl, ts[j], _, _, _, rfl, rfl, .inl (.inl et), r0, rfl, _, rfl, ite2 (fun _ => ?_) (fun z => absurd (decide_eq_true rfl) z)⟩
        refine ⟨_, rfl, p.x, dx9, _, rfl, e1, rfl, _, rfl, ts[j], _, _, _, rfl, rfl, .inl (.inl et), rfl, Z, p, m, gs.take j, [], a, rfl, N9, by rw [lj]; exact okj.2 a (by simp), by rw [lj]; omega, fun H' k' N' => ?_⟩
        exact ⟨_, rfl, kp k', by rw [tk]; exact N'⟩
  · rintro σ H9 ⟨y, rfl, s9, N9⟩
    rw [List.length_map, List.take_of_length_le (by omega)] at N9
    exact ⟨_, rfl, q p H9 s9 N9 ⟨nx, m1, m2, m3⟩⟩
end
section
variable {P : Program} {w : World} {K : PySem.W.Frag} {mg : Str → Option Value} {base : Heap}
variable {C : Addr} {za : Nat → Addr} {zl : Nat → FuncData} {E_NoWire I_NoWire E_NoName I_NoName E_Taken I_Taken E_BadForm E_BadText E_BadRow E_Unfit E_TooFew E_NoStep E_Undone E_Busy E_NoPlace E_NoDeed E_NoStage E_BadDeed E_TooMuch E_Stuck : Addr}
theorem big_lt {n : Nat} (h : n ≤ 500000) : n < sizeLine := Nat.lt_of_le_of_lt h (by decide)
theorem rep_flat (x : V) : ∀ n : Nat, (List.replicate n [x]).flatten = List.replicate n x
  | 0 => rfl
  | n + 1 => by rw [List.replicate_succ, List.flatten_cons, rep_flat x n]; rfl
def Sd (m : Nat) (d : PyData) : Prop := d.canLay0 = true ∧ d.depth ≤ m
theorem sdA {m : Nat} : ∀ ds : List PyData, (∀ d ∈ ds, Sd m d) → PyData.canLayAll0 ds = true ∧ PyData.depthAll ds ≤ m
  | [], _ => ⟨rfl, Nat.zero_le _⟩
  | d :: ds, h => by
    obtain ⟨a, b⟩ := sdA ds (fun e he => h e (List.mem_cons_of_mem _ he))
    obtain ⟨c, e⟩ := h d List.mem_cons_self
    exact ⟨by unfold PyData.canLayAll0; rw [c, a]; rfl, by unfold PyData.depthAll; exact Nat.max_le.mpr ⟨e, b⟩⟩
theorem Sd.lst {m : Nat} {ds : List PyData} (h : ∀ d ∈ ds, Sd m d) : Sd (m + 1) (.list ds) := by
  obtain ⟨a, b⟩ := sdA ds h
  exact ⟨by unfold PyData.canLay0; exact a, by unfold PyData.depth; exact Nat.succ_le_succ b⟩
theorem Sd.tup {m : Nat} {ds : List PyData} (h : ∀ d ∈ ds, Sd m d) : Sd (m + 1) (.tuple ds) := by
  obtain ⟨a, b⟩ := sdA ds h
  exact ⟨by unfold PyData.canLay0; exact a, by unfold PyData.depth; exact Nat.succ_le_succ b⟩
theorem Sd.int {m : Nat} (i : Int) : Sd m (.int i) := ⟨rfl, Nat.zero_le _⟩
theorem Sd.str {m : Nat} {x : Str} (h : PyData.strOk x = true) : Sd m (.str x) := ⟨h, Nat.zero_le _⟩
theorem Sd.up {m k : Nat} {d : PyData} (h : Sd m d) (l : m ≤ k) : Sd k d := ⟨h.1, Nat.le_trans h.2 l⟩
theorem Sd.sh {m : Nat} {d : PyData} (h : Sd m d) (l : m ≤ 64) : PySem.SeqAt.shaped d = true := by
  unfold PySem.SeqAt.shaped
  rw [h.1, decide_eq_true (Nat.le_trans h.2 l)]
  rfl
theorem Sd.self {m : Nat} {d : PyData} (h : Sd m d) : PyData.eqv d d = true := PySem.SeqAt.eqv_refl _ h.1
theorem NetAt.nin {C : Addr} {Z : List Addr} {H : Hp} {p : NetP} {m : Nat} {gs : List Gt} {nm : List (Str × List Nat)} (h : NetAt C Z H p m gs nm) {a : Addr} (n : H a = none) : a ∉ [p.lm, p.ld] := by
  obtain ⟨_, _, _, dx, ps, kvs, e1, e2, e3, _⟩ := h
  intro z
  rcases List.mem_cons.mp z with rfl | z
  · rw [e2] at n; cases n
  · rw [List.mem_singleton.mp z, e3] at n; cases n
theorem NetAt.add {C : Addr} {Z : List Addr} {H : Hp} {p : NetP} {m : Nat} {gs : List Gt} {nm : List (Str × List Nat)} {D : Addr} {o : HO} (h : NetAt C Z H p m gs nm) (n : H D = none) : NetAt C (D :: Z) (upd H D o) p m gs nm := by
  have k := same_upd (o := o) n
  obtain ⟨a, b, ⟨c1, c2, c3, c4⟩, dx, ps, kvs, e1, e2, e3, e4, ⟨g1, g2⟩, n1, n2, n3⟩ := h
  have ne : ∀ {y : Addr} {u : HO}, H y = some u → y ≠ D := fun e z => by rw [z, n] at e; cases e
  have ni : ∀ {y : Addr} {u : HO}, H y = some u → y ∉ Z → y ∉ D :: Z := fun e z y => by
    rcases List.mem_cons.mp y with w | w
    · exact ne e w
    · exact z w
  refine ⟨fun z hz => ?_, b, ⟨ni e1 c1, ni e2 c2, ni e3 c3, ni e4 c4⟩, dx, ps, kvs, k _ _ e1, k _ _ e2, k _ _ e3, k _ _ e4, ⟨g1, fun i q g hi hg => ?_⟩, n1, n2, fun i k' v n' ws hi hn => ?_⟩
  · rcases List.mem_cons.mp hz with w | w
    · rw [w, upd_same]
      exact fun z => nomatch z
    · exact (KeepS.ofSame (S := []) k).2 z (a z w)
  · have := g2 i q g hi hg
    exact ⟨ni this.2 this.1, k _ _ this.2⟩
  · obtain ⟨ek, l, ev, l1, l2, l3, l4⟩ := n3 i k' v n' ws hi hn
    exact ⟨ek, l, ev, ni l4 l1, l2, l3, k _ _ l4⟩
theorem NetAt.less {C : Addr} {Z : List Addr} {H : Hp} {p : NetP} {m : Nat} {gs : List Gt} {nm : List (Str × List Nat)} {D : Addr} (h : NetAt C (D :: Z) H p m gs nm) : NetAt C Z H p m gs nm := by
  obtain ⟨a, b, ⟨c1, c2, c3, c4⟩, dx, ps, kvs, e1, e2, e3, e4, ⟨g1, g2⟩, n1, n2, n3⟩ := h
  have ni : ∀ {y : Addr}, y ∉ D :: Z → y ∉ Z := fun z y => z (List.mem_cons_of_mem _ y)
  refine ⟨fun z hz => a z (List.mem_cons_of_mem _ hz), b, ⟨ni c1, ni c2, ni c3, ni c4⟩, dx, ps, kvs, e1, e2, e3, e4, ⟨g1, fun i q g hi hg => ?_⟩, n1, n2, fun i k' v n' ws hi hn => ?_⟩
  · have := g2 i q g hi hg
    exact ⟨ni this.1, this.2⟩
  · obtain ⟨ek, l, ev, l1, l2, l3, l4⟩ := n3 i k' v n' ws hi hn
    exact ⟨ek, l, ev, ni l1, l2, l3, l4⟩
theorem NetAt.put {C : Addr} {Z : List Addr} {H : Hp} {p : NetP} {m : Nat} {gs : List Gt} {nm : List (Str × List Nat)} {D : Addr} {o : HO} (h : NetAt C Z H p m gs nm) (hD : D ∈ Z) : NetAt C Z (upd H D o) p m gs nm := h.keep (S := [D]) (.upd (List.mem_singleton.mpr rfl)) (fun y hy => by rw [List.mem_singleton.mp hy]; exact hD)
def SG : Str := "abcdefghijklmnoprstuvwxyzABCXYZ 0123456789_-.:/~!\"#"
theorem SG51 : SG.length = 51 := by decide +kernel
theorem SGl : SG.cps.toList.length = 51 := by decide +kernel
theorem atSG {r : Int} (h0 : 0 ≤ r) (h1 : r < 51) : ∃ c, atI SG.cps.toList r = some c := by
  obtain ⟨n, rfl⟩ : ∃ n : Nat, r = (n : Int) := ⟨r.toNat, by omega⟩
  exact ⟨_, atI_nat (List.getElem?_eq_getElem (by rw [SGl]; omega))⟩
theorem keepN {b a : Addr} {H H' : Hp} (k : Keep b H H') (n : a ≠ b) (h : H' a = none) : H a = none := by
  cases e : H a with
  | none => rfl
  | some o =>
    rw [k _ _ e n] at h
    cases h
theorem joinL_len : ∀ ys : List (List Nat), (TL.joinL [] ys).length = (ys.map List.length).sum
  | [] => rfl
  | [p] => by simp [TL.joinL]
  | p :: q :: r => by
    show (p ++ ([] ++ TL.joinL [] (q :: r))).length = _
    rw [List.nil_append, List.length_append, joinL_len (q :: r)]
    rfl
def chAt (i : Nat) : Nat := SG.cps.toList.getD (i % 25) 0
theorem noq : ∀ c ∈ SG.cps.toList, c ≠ 113 := by decide +kernel
/-- a text whose signs are signs of Unicode -/
def Tx (s : Str) : Prop := ∀ c ∈ s.cps.toList, c < 1114112
theorem Tx.ok {s : Str} (h : Tx s) : PyData.strOk s = true := by
  unfold PyData.strOk
  rw [Array.all_eq_true]
  intro i hi
  exact decide_eq_true (h _ (by simp))
theorem Tx.app {a b : Str} (h : Tx a) (k : Tx b) : Tx (a ++ b) := fun c hc => by
  have e : (a ++ b).cps.toList = a.cps.toList ++ b.cps.toList := by
    show (a.cps ++ b.cps).toList = _
    rw [Array.toList_append]
  rw [e] at hc
  exact (List.mem_append.mp hc).elim (h c) (k c)
theorem Tx.rep {a : Str} (h : Tx a) (n : Nat) : Tx (strRep a n) := by
  have key : ∀ (n : Nat) (b : Array Nat), (∀ c ∈ b.toList, c < 1114112) → ∀ c ∈ ((List.replicate n a.cps).foldl (· ++ ·) b).toList, c < 1114112 := by
    intro n
    induction n with
    | zero => intro b hb c hc; exact hb c hc
    | succ k ih =>
      intro b hb c hc
      rw [List.replicate_succ, List.foldl_cons] at hc
      refine ih (b ++ a.cps) (fun x hx => ?_) c hc
      rw [Array.toList_append] at hx
      exact (List.mem_append.mp hx).elim (hb x) (h x)
  exact fun c hc => key n #[] (fun x hx => nomatch hx) c hc
theorem sgB : ∀ c ∈ SG.cps.toList, c < 1114112 := by decide +kernel
theorem sgA {r : Int} {c : Nat} (h : atI SG.cps.toList r = some c) : c < 1114112 := sgB c (by
  unfold atI at h
  cases e : ixN SG.cps.toList.length r with
  | none => rw [e] at h; cases h
  | some i => rw [e] at h; exact List.mem_of_getElem? h)
theorem Tx.one {c : Nat} (h : c < 1114112) : Tx (⟨#[c]⟩ : Str) := fun x hx => by
  rw [List.mem_singleton.mp (show x ∈ [c] from hx)]
  exact h
theorem noqA {r : Int} {c : Nat} (h : atI SG.cps.toList r = some c) : c ≠ 113 := noq c (by
  unfold atI at h
  cases e : ixN SG.cps.toList.length r with
  | none => rw [e] at h; cases h
  | some i => rw [e] at h; exact List.mem_of_getElem? h)
theorem chAt_ne : ∀ i, i < 25 → ∀ k, k < 25 → chAt i = chAt k → i = k := by decide +kernel
theorem chAt_noq : ∀ i, i < 25 → chAt i ≠ 113 := by decide +kernel
def NmF (jn : List Nat) (ss : List Str) : Prop := ∀ (i : Nat) (s : Str), ss[i]? = some s → ∃ r : List Nat, s.cps.toList = jn ++ chAt i :: r
theorem NmF.nodup {jn : List Nat} {ss : List Str} (h : NmF jn ss) (l : ss.length ≤ 25) : ss.Nodup := by
  refine List.pairwise_iff_getElem.mpr fun i k hi hk hik e => ?_
  obtain ⟨r, hr⟩ := h i _ (List.getElem?_eq_getElem hi)
  obtain ⟨r2, hr2⟩ := h k _ (List.getElem?_eq_getElem hk)
  rw [e, hr2] at hr
  have := List.append_cancel_left hr
  have := chAt_ne k (by omega) i (by omega) (List.cons.inj this).1
  omega
theorem NmF.noq {jn : List Nat} {ss : List Str} (h : NmF jn ss) (l : ss.length ≤ 25) (hj : ∀ c ∈ jn, c ≠ 113) : ∀ s ∈ ss, s.cps.toList.head? ≠ some 113 := fun s hs => by
  obtain ⟨i, hi⟩ := List.mem_iff_getElem?.mp hs
  obtain ⟨r, hr⟩ := h i s hi
  have li := (List.getElem?_eq_some_iff.mp hi).1
  rw [hr]
  cases jn with
  | nil => exact fun z => chAt_noq i (by omega) (Option.some.inj z)
  | cons c jn => exact fun z => hj c (by simp) (Option.some.inj z)
theorem NmF.ne {jn : List Nat} {ss : List Str} (h : NmF jn ss) : ∀ s ∈ ss, s ≠ Str.ofString "" := fun s hs e => by
  obtain ⟨i, hi⟩ := List.mem_iff_getElem?.mp hs
  obtain ⟨r, hr⟩ := h i s hi
  rw [e] at hr
  have : (Str.ofString "").cps.toList = [] := by decide +kernel
  rw [this] at hr
  cases jn <;> cases hr
theorem joinL_mem : ∀ (ys : List (List Nat)) (x : Nat), x ∈ TL.joinL [] ys → ∃ y ∈ ys, x ∈ y
  | [], x, h => by cases h
  | [p], x, h => ⟨p, by simp, by simpa [TL.joinL] using h⟩
  | p :: q :: r, x, h => by
    have h : x ∈ p ++ ([] ++ TL.joinL [] (q :: r)) := h
    rw [List.nil_append] at h
    rcases List.mem_append.mp h with z | z
    · exact ⟨p, by simp, z⟩
    · obtain ⟨y, hy, hx⟩ := joinL_mem (q :: r) x z
      exact ⟨y, List.mem_cons_of_mem _ hy, hx⟩
def spNmsL : Sp := fun vs H Q _ => ∃ (b : Addr) (c : Int) (n : Nat), vs = [.ref b, .int (n : Int)] ∧ BoxAt c H b ∧ c ≤ 800000000 ∧ n ≤ 20 ∧
  ∀ (ss : List Str) (D : Addr) (H' : Hp), ss.length ≤ n + 1 → (∀ s ∈ ss, s.length ≤ 10 ∧ Tx s) → ss.Nodup → (∀ s ∈ ss, s.cps.toList.head? ≠ some 113) → n ≤ ss.length → H D = none → H' D = some (.lst (ss.map V.str)) → BoxAt (c + 40 + 20 * n) H' b → Keep b H H' → Q (.ref D) H'
theorem ok__law_names (B : Bl mg) (L : LL K mg C za zl E_NoWire I_NoWire E_NoName I_NoName E_Taken I_Taken E_BadForm E_BadText E_BadRow E_Unfit E_TooFew E_NoStep E_Undone E_Busy E_NoPlace E_NoDeed E_NoStage E_BadDeed E_TooMuch E_Stuck) : FnOk P w K mg base CX0 2 (za 5) (zl 5) ["_law_box_here", "_law_size"] spNmsL := by
  have G__law_take : FnOk P w K mg base CX0 1 (za 2) (zl 2) ["_law_box_here", "_law_size"] (spTake 1) := (ok_take L.F__law_take L.b__law_take L.m__law_take B 1).mono (by decide)
  refine L.F__law_names.ok sc__law_names (fun vs H Q E h => ?_) (fun cdv A outer s H vs Q E hr h => ?_)
  · obtain ⟨b, c, n, rfl, _⟩ := h
    rfl
  obtain ⟨b, c, n, rfl, hB, hc, hn, q⟩ := h
  refine ⟨_, (pss_cons (ps_set (i := 2) sc__law_names.nd rfl (.inr rfl) pe_str)
    (pss_cons (ps_setLc (i := 3) (own := [("_law_k", 5)]) (by rfl) sc__law_names.nd rfl rfl (sw_true rfl rfl rfl (by decide +kernel)) (pi_range1 (by rfl) B.range (pa_cons (pe_call G__law_take hr (by rfl) L.m__law_take L.F__law_take.kp L.b__law_take .nil pass0 (pa_cons (pv 0) (pa_cons pe_int pa_nil))) pa_nil)) (blkOk_by (own := [("_law_k", 5)]) (N := ["_law_box_here", "_law_size", "_law_signs", "_law_first", "_law_found", "_law_k", "_law_last"]) (sc := defScope s__law_names) (by decide +kernel)) (fun _ _ _ _ _ => pg_name (i := 5) sc__law_names.nd rfl (Or.inl rfl)) (fun _ _ _ _ _ => pts_nil) (fun _ _ _ _ _ => (pe_ix ix_str (pv 2) (pe_call G__law_take hr (by rfl) L.m__law_take L.F__law_take.kp L.b__law_take .nil pass0 (pa_cons (pv 0) (pa_cons (pe_callB call_len_str (by rfl) B.len PySem.boot_len (pa_cons (pv 2) pa_nil)) pa_nil))) (fun _ _ => rfl))))
    (pss_cons (ps_set (i := 4) sc__law_names.nd rfl (.inl rfl) (pe_lst pa_nil))
    (pss_cons (ps_for PassesOwn.never rfl (pi_range1 (by rfl) B.range (pa_cons (pv 1) pa_nil)) (pg_name (i := 5) sc__law_names.nd rfl (.inl rfl)) (pss_cons (ps_set (i := 6) sc__law_names.nd rfl (.inl rfl) (pe_op op_mul_str (pe_ix ix_str (pv 2) (pe_op op_add pe_int (pe_call G__law_take hr (by rfl) L.m__law_take L.F__law_take.kp L.b__law_take .nil pass0 (pa_cons (pv 0) (pa_cons pe_int pa_nil)))) (fun _ _ => rfl)) (pe_call G__law_take hr (by rfl) L.m__law_take L.F__law_take.kp L.b__law_take .nil pass0 (pa_cons (pv 0) (pa_cons pe_int pa_nil)))))
    (pss_one (ps_expr (pe_bm PySem.F.plainAttrs_list PySem.F.slot_list_append PySem.F.type_list_append mt_append (pv 4) (pa_cons (pe_op op_add_str (pe_op op_add_str (pe_op op_add_str (pe_bm PySem.F.plainAttrs_str PySem.F.slot_str_join PySem.F.type_str_join mt_join pe_str (pa_cons (pv 3) pa_nil)) (pe_ix ix_str (pv 2) (pe_op op_mod (pv 5) pe_int) (fun _ _ => rfl))) (pe_op op_mul_str pe_str (pe_op op_fdiv (pv 5) pe_int))) (pv 6)) pa_nil))))))
    (pss_one (ps_ret (pe_op op_cat (pe_op op_rep (pe_lst (pa_cons pe_str pa_nil)) (pe_callTy call_int1 (by rfl) B.int PyProof.Rows.boot_int (pa_cons (pe_and (pe_cmpR op_gt (pv 1) pe_int (nomark _)) (pe_one (pe_cmpR op_eq (pe_call G__law_take hr (by rfl) L.m__law_take L.F__law_take.kp L.b__law_take .nil pass0 (pa_cons (pv 0) (pa_cons pe_int pa_nil))) pe_int (nomark _)))) pa_nil))) (pv 4)))))))), ?_⟩
  have sg : (Str.ofString "abcdefghijklmnoprstuvwxyzABCXYZ 0123456789_-.:/~!\"#") = SG := rfl
  rw [sg]
  try simp only [L2.start, List.map_cons, List.map_nil, List.length_cons, List.length_nil, List.replicate_succ, List.replicate_zero, List.cons_append, List.nil_append, List.set_cons_succ, List.set_cons_zero, Nat.reduceAdd, Nat.reduceSub, Nat.zero_add]
  refine ⟨_, rfl, b, _, _, rfl, hB, by decide, by decide, by decide, by omega, by decide, fun r1 H1 u1 v1 B1 k1 => ?_⟩
  replace B1 := bx1 B1
  obtain ⟨j1, rfl⟩ : ∃ j1 : Nat, r1 = (j1 : Int) := ⟨r1.toNat, by omega⟩
  refine ⟨_, rfl, by omega, by omega, fun D nD => ?_⟩
  have nDb : D ≠ b := (B1.ne nD).symm
  rw [Int.toNat_natCast]
  refine lc_range (n := j1) (fun j H9 => ∃ cs : List Nat, cs.length = j ∧ (∀ x ∈ cs, x ≠ 113 ∧ x < 1114112) ∧ Keep b H1 H9 ∧ BoxAt (c + 2 + 2 * j) H9 b ∧ H9 D = some (.lst ((cs.map fun c => SX.S [c]).map V.str))) ⟨[], rfl, (fun _ z => nomatch z), Keep.new nD, (B1.same (same_upd nD)).mono (by omega), upd_same⟩ ?_ ?_
  · rintro j H9 hj ⟨cs, lc, hcs, k9, B9, eD⟩
    dsimp only [gName]
    refine ⟨rfl, yesT ?_⟩
    try simp only [L2.start, List.map_cons, List.map_nil, List.length_cons, List.length_nil, List.replicate_succ, List.replicate_zero, List.cons_append, List.nil_append, List.set_cons_succ, List.set_cons_zero, Nat.reduceAdd, Nat.reduceSub, Nat.zero_add]
    refine ⟨_, rfl, _, rfl, _, rfl, SG, rfl, by rw [SG51]; decide, ?_⟩
    rw [SG51]
    refine ⟨b, _, _, rfl, B9, by decide, by decide, by decide, by omega, by decide, fun r2 H2 u2 v2 B2 k2 => ?_⟩
    replace B2 := bx1 B2
    obtain ⟨ch, hch⟩ := atSG u2 v2
    refine ⟨SG, r2, ch, rfl, rfl, by rw [SG51]; decide, hch, ?_⟩
    refine ⟨_, k2 _ _ eD nDb, by rw [List.length_map, List.length_map, lc]; exact big_lt (by omega), cs ++ [ch], by rw [List.length_append, lc]; rfl, (fun x hx => by
      rcases List.mem_append.mp hx with z | z
      · exact hcs x z
      · rw [List.mem_singleton.mp z]
        exact ⟨noqA hch, sgA hch⟩), fun y o e ny => ?_, BoxAt.mono (B2.at (upd_ne nDb.symm)) (by omega), by rw [upd_same, List.map_append, List.map_append]; rfl⟩
    rw [upd_ne (ne_of_none e nD)]
    exact k2 _ _ (k9 _ _ e ny) ny
  rintro H9 ⟨cs, lc, hcs, k9, B9, eD⟩
  dsimp only [gName]
  try simp only [L2.start, List.map_cons, List.map_nil, List.length_cons, List.length_nil, List.replicate_succ, List.replicate_zero, List.cons_append, List.nil_append, List.set_cons_succ, List.set_cons_zero, Nat.reduceAdd, Nat.reduceSub, Nat.zero_add]
  have k09 := k1.trans k9
  have nDH : H D = none := by
    cases e : H D with
    | none => rfl
    | some o =>
      rw [k1 _ _ e nDb] at nD
      cases nD
  refine ⟨Nat.zero_le _, fun F nF => ?_⟩
  have nFb : F ≠ b := (B9.ne nF).symm
  have nFD : F ≠ D := fun z => by rw [z, eD] at nF; cases nF
  have nFH : H F = none := by
    cases e : H F with
    | none => rfl
    | some o =>
      rw [k09 _ _ e nFb] at nF
      cases nF
  have sF := same_upd (o := .lst []) nF
  have eF : (upd H9 F (.lst [])) F = some (.lst []) := upd_same
  have BF := B9.same sF
  have eDF := sF _ _ eD
  have k0F : Keep b H _ := k09.trans (Keep.ofSame sF)
  generalize upd H9 F (.lst []) = HF at *
  try simp only [L2.start, List.map_cons, List.map_nil, List.length_cons, List.length_nil, List.replicate_succ, List.replicate_zero, List.cons_append, List.nil_append, List.set_cons_succ, List.set_cons_zero, Nat.reduceAdd, Nat.reduceSub, Nat.zero_add]
  refine ⟨_, rfl, _, rfl, by omega, by omega, ?_⟩
  rw [Int.toNat_natCast]
  refine for_range (n := n) (fun j σ H5 => ∃ (ss : List Str) (y5 y6 : Option V), σ = [some (.ref b), some (.int (n : Int)), some (.str SG), some (.ref D), some (.ref F), y5, y6] ∧ ss.length = j ∧ (∀ s ∈ ss, s.length ≤ 10 ∧ Tx s) ∧ NmF (TL.joinL [] (cs.map fun c => [c])) ss ∧ H5 F = some (.lst (ss.map V.str)) ∧ H5 D = some (.lst ((cs.map fun c => SX.S [c]).map V.str)) ∧ BoxAt (c + 10 + 10 * j) H5 b ∧ Keep b H H5) ⟨[], _, _, rfl, rfl, (fun _ z => nomatch z), (fun i s h => by simp at h), eF, eDF, BF.mono (by omega), k0F⟩ ?_ ?_
  · rintro j σ H5 hj ⟨ss, y5, y6, rfl, lss, hss, hnf, eF5, eD5, B5, k5⟩
    dsimp only [gName]
    try simp only [L2.start, List.map_cons, List.map_nil, List.length_cons, List.length_nil, List.replicate_succ, List.replicate_zero, List.cons_append, List.nil_append, List.set_cons_succ, List.set_cons_zero, Nat.reduceAdd, Nat.reduceSub, Nat.zero_add]
    refine ⟨_, rfl, _, rfl, b, _, _, rfl, B5, by decide, by decide, by decide, by omega, by decide, fun r3 H3 u3 v3 B3 k3 => ?_⟩
    replace B3 := bx1 B3
    obtain ⟨ch, hch⟩ := atSG (r := 25 + r3) (by omega) (by omega)
    refine ⟨_, _, rfl, rfl, SG, _, ch, rfl, rfl, by rw [SG51]; decide, hch, ?_⟩
    refine ⟨_, rfl, b, _, _, rfl, B3, by decide, by decide, by decide, by omega, by decide, fun r4 H4 u4 v4 B4 k4 => ?_⟩
    replace B4 := bx1 B4
    obtain ⟨n4, rfl⟩ : ∃ n4 : Nat, r4 = (n4 : Int) := ⟨r4.toNat, by omega⟩
    have l1 : (⟨#[ch]⟩ : Str).length = 1 := rfl
    refine ⟨⟨#[ch]⟩, n4, rfl, rfl, by rw [l1]; decide, by omega, ?_⟩
    have ll : (strRep ⟨#[ch]⟩ n4).length ≤ 1 := by rw [strRep_len, l1]; omega
    have tl : Tx (strRep ⟨#[ch]⟩ n4) := (Tx.one (sgA hch)).rep n4
    generalize strRep ⟨#[ch]⟩ n4 = last at *
    have k34 := k3.trans k4
    have eF4 := k34 _ _ eF5 nFb
    have eD4 := k34 _ _ eD5 nDb
    dsimp only [gName]
    try simp only [L2.start, List.map_cons, List.map_nil, List.length_cons, List.length_nil, List.replicate_succ, List.replicate_zero, List.cons_append, List.nil_append, List.set_cons_succ, List.set_cons_zero, Nat.reduceAdd, Nat.reduceSub, Nat.zero_add]
    refine ⟨_, rfl, .inl ⟨rfl, _, SqL.of eF4⟩, ?_⟩
    have eJ : Txt.join (Str.ofString "") (cs.map fun c => SX.S [c]) = SX.S (TL.joinL [] (cs.map fun c => [c])) := by
      have := SX.join_S [] (cs.map fun c => [c])
      rw [List.map_map] at this
      exact this
    have lJ : (SX.S (TL.joinL [] (cs.map fun c => [c]))).length ≤ 3 := by
      show (TL.joinL [] (cs.map fun c => [c])).toArray.size ≤ 3
      rw [List.size_toArray, joinL_len, List.map_map]
      have : ((List.length ∘ fun c => [c]) : Nat → Nat) = fun _ => 1 := rfl
      rw [this]
      have k : ∀ l : List Nat, (l.map fun _ => 1).sum = l.length := by
        intro l
        induction l with
        | nil => rfl
        | cons a l ih => rw [List.map_cons, List.sum_cons, ih, List.length_cons]; omega
      rw [k]
      omega
    have lsum : ((cs.map fun c => SX.S [c]).map (·.length)).sum ≤ 3 := by
      rw [List.map_map]
      have k : ∀ l : List Nat, (l.map ((·.length) ∘ fun c => SX.S [c])).sum = l.length := by
        intro l
        induction l with
        | nil => rfl
        | cons a l ih =>
          rw [List.map_cons, List.sum_cons, ih, List.length_cons]
          show 1 + _ = _
          omega
      rw [k]
      omega
    obtain ⟨ch2, hch2⟩ := atSG (r := ((j : Nat) : Int) % 25) (by omega) (by omega)
    have lz : (Str.ofString "z").length = 1 := by decide +kernel
    have l0 : (Str.ofString "").length = 0 := by decide +kernel
    refine ⟨rfl, _, rfl, Str.ofString "", D, cs.map fun c => SX.S [c], rfl, rfl, .inl (SqL.of eD4), by rw [l0, Nat.mul_zero]; omega, ?_⟩
    rw [eJ]
    have hjn : (SX.S (TL.joinL [] (cs.map fun c => [c]))).cps.toList = TL.joinL [] (cs.map fun c => [c]) := rfl
    have tj : Tx (SX.S (TL.joinL [] (cs.map fun c => [c]))) := fun x hx => by
      rw [hjn] at hx
      obtain ⟨y, hy, hxy⟩ := joinL_mem _ _ hx
      obtain ⟨z, hz, rfl⟩ := List.mem_map.mp hy
      rw [List.mem_singleton.mp hxy]
      exact (hcs z hz).2
    generalize SX.S (TL.joinL [] (cs.map fun c => [c])) = jn at *
    refine ⟨_, rfl, _, rfl, _, _, rfl, rfl, (by show (0 : Int) < 25; decide), SG, _, ch2, rfl, rfl, by rw [SG51]; decide, by rw [Int.zero_add]; exact hch2, ?_⟩
    have lc2 : (⟨#[ch2]⟩ : Str).length = 1 := rfl
    refine ⟨_, _, rfl, rfl, by rw [lc2]; exact Nat.le_of_lt (big_lt (by omega)), ?_⟩
    have la1 : (jn ++ (⟨#[ch2]⟩ : Str)).length ≤ 4 := by
      show (jn.cps ++ #[ch2]).size ≤ 4
      rw [Array.size_append]
      show jn.length + 1 ≤ 4
      omega
    have hce : ch2 = chAt j := by
      rw [show ((j : Nat) : Int) % 25 = ((j % 25 : Nat) : Int) by omega] at hch2
      have hl : j % 25 < SG.cps.toList.length := by rw [SGl]; omega
      have e := atI_nat (List.getElem?_eq_getElem hl)
      rw [e] at hch2
      have e2 : SG.cps.toList.getD (j % 25) 0 = SG.cps.toList[j % 25] := by simp [List.getD, List.getElem?_eq_getElem hl]
      unfold chAt
      rw [e2]
      exact (Option.some.inj hch2).symm
    have hs1 : (jn ++ (⟨#[ch2]⟩ : Str)).cps.toList = TL.joinL [] (cs.map fun c => [c]) ++ [chAt j] := by
      show (jn.cps ++ #[ch2]).toList = _
      rw [Array.toList_append, hjn, hce]
    have t1 : Tx (jn ++ (⟨#[ch2]⟩ : Str)) := tj.app (Tx.one (sgA hch2))
    generalize jn ++ (⟨#[ch2]⟩ : Str) = s1 at *
    refine ⟨_, rfl, _, _, rfl, rfl, ⟨by decide, by decide⟩, Str.ofString "z", j / 25, rfl, congrArg V.int (by omega), by rw [lz]; decide, by omega, ?_⟩
    have lr : (strRep (Str.ofString "z") (j / 25)).length ≤ 1 := by
      rw [strRep_len, lz]
      omega
    have t2 : Tx (strRep (Str.ofString "z") (j / 25)) := Tx.rep (by unfold Tx; decide +kernel) _
    generalize strRep (Str.ofString "z") (j / 25) = s2 at *
    refine ⟨_, _, rfl, rfl, Nat.le_of_lt (big_lt (by omega)), ?_⟩
    have la2 : (s1 ++ s2).length ≤ 5 := by
      show (s1.cps ++ s2.cps).size ≤ 5
      rw [Array.size_append]
      show s1.length + s2.length ≤ 5
      omega
    have hs3 : ∃ r, (s1 ++ s2).cps.toList = (TL.joinL [] (cs.map fun c => [c]) ++ [chAt j]) ++ r := ⟨s2.cps.toList, by
      show (s1.cps ++ s2.cps).toList = _
      rw [Array.toList_append, hs1]⟩
    have t3 := t1.app t2
    generalize s1 ++ s2 = s3 at *
    refine ⟨_, rfl, _, _, rfl, rfl, Nat.le_of_lt (big_lt (by omega)), ?_⟩
    have la3 : (s3 ++ last).length ≤ 10 := by
      show (s3.cps ++ last.cps).size ≤ 10
      rw [Array.size_append]
      show s3.length + last.length ≤ 10
      omega
    have hs4 : ∃ r, (s3 ++ last).cps.toList = TL.joinL [] (cs.map fun c => [c]) ++ chAt j :: r := by
      obtain ⟨r, hr⟩ := hs3
      refine ⟨r ++ last.cps.toList, ?_⟩
      show (s3.cps ++ last.cps).toList = _
      rw [Array.toList_append, hr]
      simp
    have t4 := t3.app tl
    generalize s3 ++ last = s4 at *
    refine ⟨F, _, _, rfl, rfl, eF4, by rw [List.length_map, lss]; exact big_lt (by omega), ?_⟩
    refine ⟨ss ++ [s4], _, _, rfl, by rw [List.length_append, lss]; rfl, fun x hx => ?_, fun i' x hi' => ?_, by rw [upd_same, List.map_append]; rfl, by rw [upd_ne nFD.symm]; exact eD4, BoxAt.mono (B4.at (upd_ne nFb.symm)) (by omega), fun y o e ny => ?_⟩
    · rcases List.mem_append.mp hx with z | z
      · exact hss x z
      · rw [List.mem_singleton.mp z]
        exact ⟨la3, t4⟩
    · by_cases c : i' < ss.length
      · rw [List.getElem?_append_left c] at hi'
        exact hnf i' x hi'
      · have i0 : i' = ss.length := by
          have := (List.getElem?_eq_some_iff.mp hi').1
          rw [List.length_append, List.length_cons, List.length_nil] at this
          omega
        rw [List.getElem?_append_right (by omega), i0, Nat.sub_self] at hi'
        cases hi'
        rw [i0, lss]
        exact hs4
    · rw [upd_ne (ne_of_none e nFH)]
      exact k34 _ _ (k5 _ _ e ny) ny
  · rintro σ H5 ⟨ss, y5, y6, rfl, lss, hss, hnf, eF5, eD5, B5, k5⟩
    refine ⟨(by show 1 ≤ sizeLine; decide), fun L1 nL1 => ?_⟩
    have s1 := same_upd (o := .lst [.str (Str.ofString "")]) nL1
    have e1 : (upd H5 L1 (.lst [.str (Str.ofString "")])) L1 = some (.lst [.str (Str.ofString "")]) := upd_same
    have nL1b : L1 ≠ b := (B5.ne nL1).symm
    have eF6 := s1 _ _ eF5
    have B6 := B5.same s1
    have k6 := k5.trans (Keep.ofSame s1)
    generalize upd H5 L1 (.lst [.str (Str.ofString "")]) = H6 at *
    refine and_ev (fun z G => ∃ bb : Bool, z = .bl bb ∧ BoxAt (c + 20 + 10 * n) G b ∧ Keep b H6 G) (fun Q' q' => ?_) ?_
    · refine ⟨_, rfl, _, _, rfl, rfl, _, rfl, ite2 (fun _ => ?_) (fun _ => q' _ _ ⟨false, rfl, B6.mono (by omega), Keep.refl _ _⟩)⟩
      exact ⟨_, rfl, b, _, _, rfl, B6, by decide, by decide, by decide, by omega, by decide, fun r7 H7 u7 v7 B7 k7 => ⟨rfl, q' _ _ ⟨_, rfl, BoxAt.mono (bx1 B7) (by omega), k7⟩⟩⟩
    · rintro z G ⟨bb, rfl, BG, kG⟩
      have e1G := kG _ _ e1 nL1b
      have eFG := kG _ _ eF6 nFb
      obtain ⟨w1, hw1, ew⟩ : ∃ w1 : Nat, w1 ≤ 1 ∧ (if bb = true then (1 : Int) else 0) = (w1 : Int) := by
        cases bb
        · exact ⟨0, by decide, rfl⟩
        · exact ⟨1, by decide, rfl⟩
      refine .inr ⟨bb, rfl, ?_⟩
      rw [ew]
      refine ⟨L1, _, _, rfl, rfl, e1G, by omega, by omega, by rw [Int.toNat_natCast, List.length_singleton]; exact Nat.le_of_lt (big_lt (by omega)), fun L3 nL3 => ?_⟩
      rw [Int.toNat_natCast, rep_flat]
      have s3 := same_upd (o := .lst (List.replicate w1 (.str (Str.ofString "")))) nL3
      have e3 : (upd G L3 (.lst (List.replicate w1 (.str (Str.ofString ""))))) L3 = some (.lst (List.replicate w1 (.str (Str.ofString "")))) := upd_same
      have eF7 := s3 _ _ eFG
      have B8 := BG.same s3
      have k8 := (k6.trans kG).trans (Keep.ofSame s3)
      generalize upd G L3 (.lst (List.replicate w1 (.str (Str.ofString "")))) = H8 at *
      refine ⟨_, rfl, L3, F, _, _, rfl, rfl, e3, eF7, by rw [List.length_replicate, List.length_map, lss]; exact Nat.le_of_lt (big_lt (by omega)), fun R nR => ?_⟩
      have el : List.replicate w1 (V.str (Str.ofString "")) ++ ss.map V.str = (List.replicate w1 (Str.ofString "") ++ ss).map V.str := by rw [List.map_append, List.map_replicate]
      rw [el]
      have sR := same_upd (o := .lst ((List.replicate w1 (Str.ofString "") ++ ss).map V.str)) nR
      have nRb : R ≠ b := (B8.ne nR).symm
      have jq : ∀ x ∈ TL.joinL [] (cs.map fun c => [c]), x ≠ 113 := fun x hx => by
        obtain ⟨y, hy, hxy⟩ := joinL_mem _ _ hx
        obtain ⟨z, hz, rfl⟩ := List.mem_map.mp hy
        rw [List.mem_singleton.mp hxy]
        exact (hcs z hz).1
      refine q _ R _ (by rw [List.length_append, List.length_replicate, lss]; omega) (fun x hx => ?_) ?_ (fun x hx => ?_) (by rw [List.length_append, lss]; omega) (keepN k8 nRb nR) upd_same ((B8.same sR).mono (by omega)) (k8.trans (Keep.ofSame sR))
      rcases List.mem_append.mp hx with y | y
      · rw [(List.mem_replicate.mp y).2]
        exact ⟨by decide +kernel, by unfold Tx; decide +kernel⟩
      · exact hss x y
      · rw [List.nodup_append]
        refine ⟨by rcases (show w1 = 0 ∨ w1 = 1 by omega) with z | z <;> subst z <;> simp, hnf.nodup (by omega), fun x hx y hy e => ?_⟩
        rw [(List.mem_replicate.mp hx).2] at e
        exact hnf.ne y hy e.symm
      · rcases List.mem_append.mp hx with y | y
        · rw [(List.mem_replicate.mp y).2]
          decide +kernel
        · exact hnf.noq (by omega) jq x y
theorem rise_pw : ∀ (ss : List Str) (p : Str), risingS p ss = true → (p :: ss).Pairwise fun x y => x.cps.toList ≤ y.cps.toList
  | [], p, _ => List.pairwise_singleton _ _
  | s :: ss, p, h => by
    unfold risingS at h
    obtain ⟨h1, h2⟩ := Bool.and_eq_true_iff.mp h
    have ih := rise_pw ss s h2
    have le : p.cps.toList ≤ s.cps.toList := by
      rw [ltCps_eq] at h1
      simpa using h1
    refine List.pairwise_cons.mpr ⟨fun y hy => ?_, ih⟩
    rcases List.mem_cons.mp hy with e | hy
    · rw [e]
      exact le
    · exact List.le_trans le ((List.pairwise_cons.mp ih).1 y hy)
theorem sortS_one {xs ys zs : List Str} (h1 : xs.Perm zs) (s1 : sortedS xs = true) (h2 : ys.Perm zs) (s2 : sortedS ys = true) : xs = ys := by
  have pw : ∀ l : List Str, sortedS l = true → l.Pairwise fun x y => x.cps.toList ≤ y.cps.toList := fun l h => by
    cases l with
    | nil => exact .nil
    | cons x r => exact rise_pw r x h
  refine List.Perm.eq_of_pairwise (le := fun x y : Str => x.cps.toList ≤ y.cps.toList) (fun x y _ _ a b => ?_) (pw _ s1) (pw _ s2) (h1.trans h2.symm)
  have e := List.le_antisymm a b
  cases x
  cases y
  congr 1
  exact Array.toList_inj.mp e
/-! ### what a net tells, as data -/
def dInts (ws : List Nat) : List PyData := ws.map fun (a : Nat) => PyData.int (a : Int)
def dGt : Gt → PyData
  | .w k ws => .tuple (.str k :: dInts ws)
  | .fi b => .tuple [.str "fixed", .int (b : Int)]
theorem dpa_nts {H : Hp} : ∀ ws : List Nat, DpAll K H (nts ws) (dInts ws)
  | [] => .nil
  | a :: ws => .cons (.int _) (dpa_nts ws)
theorem dp_row {H : Hp} {t : Addr} {g : Gt} (h : H t = some (.tup g.row)) : Dp K H (.ref t) (dGt g) := by
  cases g with
  | w k ws => exact .tup (.inl (.inl h)) (.cons (.str _) (dpa_nts ws))
  | fi b => exact .tup (.inl (.inl h)) (.cons (.str _) (.cons (.int _) .nil))
theorem dpa_rows {H : Hp} : ∀ (ts : List Addr) (gs : List Gt), ts.length = gs.length → (∀ (i : Nat) (t : Addr) (g : Gt), ts[i]? = some t → gs[i]? = some g → H t = some (.tup g.row)) → DpAll K H (ts.map V.ref) (gs.map dGt)
  | [], [], _, _ => .nil
  | [], _ :: _, h, _ => by cases h
  | _ :: _, [], h, _ => by cases h
  | t :: ts, g :: gs, h, f => .cons (dp_row (f 0 t g rfl rfl)) (dpa_rows ts gs (Nat.succ.inj h) fun i a b h1 h2 => f (i + 1) a b h1 h2)
theorem dpa_strs {H : Hp} : ∀ ys : List Str, DpAll K H (ys.map V.str) (ys.map PyData.str)
  | [] => .nil
  | y :: ys => .cons (.str _) (dpa_strs ys)
theorem dpa_lists {H : Hp} : ∀ (ls : List Addr) (wss : List (List Nat)), ls.length = wss.length → (∀ (i : Nat) (l : Addr) (ws : List Nat), ls[i]? = some l → wss[i]? = some ws → H l = some (.lst (nts ws))) → DpAll K H (ls.map V.ref) (wss.map fun ws => .list (dInts ws))
  | [], [], _, _ => .nil
  | [], _ :: _, h, _ => by cases h
  | _ :: _, [], h, _ => by cases h
  | t :: ts, g :: gs, h, f => .cons (.lst (SqL.of (f 0 t g rfl rfl)) (dpa_nts g)) (dpa_lists ts gs (Nat.succ.inj h) fun i a b h1 h2 => f (i + 1) a b h1 h2)
def lkN (nm : List (Str × List Nat)) (y : Str) : List Nat := ((nm.find? fun x => decide (x.1 = y)).map (·.2)).getD []
theorem lkN_at : ∀ {nm : List (Str × List Nat)} {i : Nat} {n : Str} {ws : List Nat}, (nm.map (·.1)).Nodup → nm[i]? = some (n, ws) → lkN nm n = ws
  | [], i, n, ws, _, h => by simp at h
  | x :: nm, 0, n, ws, _, h => by
    cases h
    simp [lkN]
  | x :: nm, i + 1, n, ws, hd, h => by
    have hd' := List.nodup_cons.mp hd
    have hx : ¬ x.1 = n := fun e => hd'.1 (by show x.1 ∈ _; rw [e]; exact List.mem_map.mpr ⟨(n, ws), List.mem_of_getElem? h, rfl⟩)
    have ih := lkN_at (nm := nm) (i := i) hd'.2 h
    unfold lkN at ih ⊢
    rw [List.find?_cons_of_neg (by simpa using hx)]
    exact ih
theorem sameN {H G : Hp} {y : Addr} {o : HO} (s : Same H G) (n : H y = none) : Same H (upd G y o) := fun a u e => by
  rw [upd_ne (ne_of_none e n)]
  exact s _ _ e
theorem back {H G : Hp} (s : Same H G) {y : Addr} (n : G y = none) : H y = none := by
  cases e : H y with
  | none => rfl
  | some o => rw [s _ _ e] at n; cases n
theorem lv0_ints (ws : List Nat) : ∀ d ∈ dInts ws, Lv 0 d := fun d hd => by
  obtain ⟨a, _, rfl⟩ := List.mem_map.mp hd
  exact True.intro
theorem lv_gt {n : Nat} {g : Gt} (h : g.ok n) : Lv 1 (dGt g) := by
  cases g with
  | w k ws =>
    refine ⟨by rw [List.length_cons]; unfold dInts; rw [List.length_map]; rcases h.1 with ⟨_, e⟩ | ⟨_, e⟩ <;> omega, fun d hd => ?_⟩
    rcases List.mem_cons.mp hd with e | hd
    · rw [e]; exact True.intro
    · exact lv0_ints ws d hd
  | fi b =>
    refine ⟨by show 2 ≤ 1000000; decide, fun d hd => ?_⟩
    simp only [List.mem_cons, List.not_mem_nil, or_false] at hd
    rcases hd with e | e <;> rw [e] <;> exact True.intro
theorem lv_rows {m : Nat} {gs : List Gt} (ok : GsOk m gs) (h : gs.length ≤ 200) : Lv 2 (.list (gs.map dGt)) := by
  refine ⟨by rw [List.length_map]; omega, fun d hd => ?_⟩
  obtain ⟨g, hg, rfl⟩ := List.mem_map.mp hd
  obtain ⟨i, hi⟩ := List.mem_iff_getElem?.mp hg
  exact lv_gt (ok i g hi)
theorem lv_strs {ys : List Str} (h : ys.length ≤ 200) : Lv 2 (.list (ys.map PyData.str)) := ⟨by rw [List.length_map]; omega, fun d hd => by
  obtain ⟨y, _, rfl⟩ := List.mem_map.mp hd
  exact True.intro⟩
theorem lv_lists {ys : List Str} {f : Str → List Nat} (h : ys.length ≤ 200) (hf : ∀ y ∈ ys, (f y).length ≤ 200) : Lv 2 (.list (ys.map fun y => .list (dInts (f y)))) := ⟨by rw [List.length_map]; omega, fun d hd => by
  obtain ⟨y, hy, rfl⟩ := List.mem_map.mp hd
  exact ⟨by unfold dInts; rw [List.length_map]; have := hf y hy; omega, lv0_ints _⟩⟩
end
section
variable {P : Program} {w : World} {K : PySem.W.Frag} {mg : Str → Option Value} {base : Heap}
variable {C : Addr} {za : Nat → Addr} {zl : Nat → FuncData} {E_NoWire I_NoWire E_NoName I_NoName E_Taken I_Taken E_BadForm E_BadText E_BadRow E_Unfit E_TooFew E_NoStep E_Undone E_Busy E_NoPlace E_NoDeed E_NoStage E_BadDeed E_TooMuch E_Stuck : Addr}
/-! ### wires that are not there -/
def bd (n : Nat) (ws : List Int) : Option Int := ws.find? fun i => !(decide (0 ≤ i) && decide (i < (n : Int)))
theorem bd_step {n j : Nat} {ws : List Int} {w : Int} (h : bd n (ws.take j) = none) (e : ws[j]? = some w) (b : ¬ (0 ≤ w ∧ w < (n : Int))) : bd n ws = some w := by
  have sp : ws = ws.take j ++ w :: ws.drop (j + 1) := by
    have hj := (List.getElem?_eq_some_iff.mp e)
    obtain ⟨hl, he⟩ := hj
    rw [← he, List.getElem_cons_drop, List.take_append_drop]
  unfold bd at h ⊢
  rw [sp, List.find?_append, h, List.find?_cons_of_pos]
  · rfl
  · rw [Bool.not_eq_true', Bool.and_eq_false_iff, decide_eq_false_iff_not, decide_eq_false_iff_not]
    by_cases c : 0 ≤ w
    · exact .inr fun d => b ⟨c, d⟩
    · exact .inl c
theorem bd_next {n j : Nat} {ws : List Int} {w : Int} (h : bd n (ws.take j) = none) (e : ws[j]? = some w) (b : 0 ≤ w ∧ w < (n : Int)) : bd n (ws.take (j + 1)) = none := by
  unfold bd at h ⊢
  rw [List.take_add_one, e, List.find?_append, h, Option.none_or]
  show List.find? _ [w] = none
  rw [List.find?_cons_of_neg]
  · rfl
  · rw [decide_eq_true b.1, decide_eq_true b.2]
    decide
def Let (E : XK) (H : Hp) (c : Addr) (v : V) : Prop := ∀ d H', Same H H' → H' d = none → E (.ref c) (some d) (upd H' d (.xd [(("what" : Str), v)]))
theorem Let.same {E : XK} {H H' : Hp} {c : Addr} {v : V} (h : Let E H c v) (s : Same H H') : Let E H' c v := fun d H2 s2 n => h d H2 (s.trans s2) n
def spNeedX (K : PySem.W.Frag) (C CT : Addr) : Sp := fun vs H _ E => ∃ (Z : List Addr) (p : NetP) (m : Nat) (gs : List Gt) (nm : List (Str × List Nat)) (t : Addr) (ws : List Int) (w : Int), vs = [.ref p.x, .ref t] ∧ NetAt C Z H p m gs nm ∧ (SqL K H t (ws.map V.int) ∨ SqT K H t (ws.map V.int)) ∧ bd (m + gs.length) ws = some w ∧ Let E H CT (.int w)
theorem okX_Net_need (B : Bl mg) (L : LL K mg C za zl E_NoWire I_NoWire E_NoName I_NoName E_Taken I_Taken E_BadForm E_BadText E_BadRow E_Unfit E_TooFew E_NoStep E_Undone E_Busy E_NoPlace E_NoDeed E_NoStage E_BadDeed E_TooMuch E_Stuck) : FnOk P w K mg base (L2.CX P w) 2 (za 21) (zl 21) ["self", "wires"] (spNeedX K C E_NoWire) := by
  refine L.F_Net_need.okX sc_Net_need (fun vs H Q E h => ?_) (fun cdv A outer s H vs Q E hr h => ?_)
  · obtain ⟨Z, p, m, gs, nm, t, ws, w, rfl, _⟩ := h
    rfl
  obtain ⟨Z, p, m, gs, nm, t, ws, w, rfl, hN, hT, hw, q⟩ := h
  refine ⟨_, (pss_one (ps_for (passes_of rfl) rfl (pi_or (pi_list (pv 1)) (pi_tup (pv 1))) (pg_name (i := 2) sc_Net_need.nd rfl (.inl rfl)) (pss_one (ps_if (pt_not (pt_chain op_le op_lt pe_int (pv 2) (pe_callB call_len_seq (by rfl) B.len PySem.boot_len (pa_cons (pe_fld (pv 0) rfl) pa_nil)))) (pss_one (ps_raise rfl (takes_of rfl rfl rfl rfl) (pmk_what L.R_NoWire hr (by decide) L.g_NoWire rfl (pa_cons (pv 2) pa_nil)))) pss_nil)))), ?_⟩
  have at_ : ∀ {j : Nat} {v : V}, (ws.map V.int)[j]? = some v → ∃ a, ws[j]? = some a ∧ v = .int a := fun {j v} h => by
    rw [List.getElem?_map] at h
    cases q : ws[j]? with
    | none => rw [q] at h; cases h
    | some a => rw [q] at h; exact ⟨a, rfl, (Option.some.inj h).symm⟩
  rcases hT with hT | hT
  · refine .inl ⟨_, rfl, t, rfl, ⟨_, hT⟩, ?_⟩
    refine for_it (walk_list (K := K) (a := t) (xs := ws.map V.int)) (fun j σ H9 => ∃ y : Option V, σ = [some (.ref p.x), some (.ref t), y] ∧ Same H H9 ∧ bd (m + gs.length) (ws.take j) = none) ⟨_, rfl, Same.refl _, rfl⟩ (fun j σ H9 _ ⟨_, _, s9, _⟩ => s9.seq hT) ?_ ?_
    · rintro j v σ H9 H10 hj ⟨y, rfl, s9, hb⟩ ⟨rfl, hz⟩
      obtain ⟨a, ha, rfl⟩ := at_ hz
      obtain ⟨_, _, _, dx, ps, kvs, e1, e2, e3, _⟩ := hN.same s9
      dsimp only [gName]
      try simp only [L2.start, List.map_cons, List.map_nil, List.length_cons, List.length_nil, List.replicate_succ, List.replicate_zero, List.cons_append, List.nil_append, List.set_cons_succ, List.set_cons_zero, Nat.reduceAdd, Nat.reduceSub, Nat.zero_add]
      refine ⟨_, rfl, _, _, rfl, rfl, _, rfl, ?_⟩
      by_cases h0 : 0 ≤ a
      · rw [if_pos (decide_eq_true h0)]
        refine ⟨_, rfl, p.x, C, dx, _, _, rfl, e1, L.T.cl, L.T.n_depths, rfl, ?_⟩
        refine ⟨p.ld, _, rfl, .inl (SqL.of e3), _, _, rfl, rfl, _, rfl, ?_⟩
        have ln : ((((dps m gs).map V.int).length : Nat) : Int) = ((m + gs.length : Nat) : Int) := by rw [List.length_map, dps_len]
        rw [ln]
        by_cases h1 : a < ((m + gs.length : Nat) : Int)
        · rw [decide_eq_true h1]
          refine iteF ?_
          exact ⟨_, rfl, s9, bd_next hb ha ⟨h0, h1⟩⟩
        · rw [decide_eq_false h1]
          refine iteT ?_
          have e := bd_step hb ha fun z => h1 z.2
          rw [hw] at e
          cases e
          exact ⟨_, rfl, _, rfl, fun d nd => q d _ s9 nd⟩
      · rw [if_neg (by simpa using h0)]
        refine ⟨_, rfl, iteT ?_⟩
        have e := bd_step hb ha fun z => h0 z.1
        rw [hw] at e
        cases e
        exact ⟨_, rfl, _, rfl, fun d nd => q d _ s9 nd⟩
    · rintro σ H9 ⟨y, rfl, s9, hb⟩
      rw [List.length_map, List.take_of_length_le (Nat.le_refl _)] at hb
      rw [hb] at hw
      cases hw
  · refine .inr ⟨_, rfl, t, rfl, ⟨_, hT⟩, ?_⟩
    refine for_it (walk_tup (K := K) (a := t) (xs := ws.map V.int)) (fun j σ H9 => ∃ y : Option V, σ = [some (.ref p.x), some (.ref t), y] ∧ Same H H9 ∧ bd (m + gs.length) (ws.take j) = none) ⟨_, rfl, Same.refl _, rfl⟩ (fun j σ H9 _ ⟨_, _, s9, _⟩ => Same.seqT s9 hT) ?_ ?_
    · rintro j v σ H9 H10 hj ⟨y, rfl, s9, hb⟩ ⟨rfl, hz⟩
      obtain ⟨a, ha, rfl⟩ := at_ hz
      obtain ⟨_, _, _, dx, ps, kvs, e1, e2, e3, _⟩ := hN.same s9
      dsimp only [gName]
      try simp only [L2.start, List.map_cons, List.map_nil, List.length_cons, List.length_nil, List.replicate_succ, List.replicate_zero, List.cons_append, List.nil_append, List.set_cons_succ, List.set_cons_zero, Nat.reduceAdd, Nat.reduceSub, Nat.zero_add]
      refine ⟨_, rfl, _, _, rfl, rfl, _, rfl, ?_⟩
      by_cases h0 : 0 ≤ a
      · rw [if_pos (decide_eq_true h0)]
        refine ⟨_, rfl, p.x, C, dx, _, _, rfl, e1, L.T.cl, L.T.n_depths, rfl, ?_⟩
        refine ⟨p.ld, _, rfl, .inl (SqL.of e3), _, _, rfl, rfl, _, rfl, ?_⟩
        have ln : ((((dps m gs).map V.int).length : Nat) : Int) = ((m + gs.length : Nat) : Int) := by rw [List.length_map, dps_len]
        rw [ln]
        by_cases h1 : a < ((m + gs.length : Nat) : Int)
        · rw [decide_eq_true h1]
          refine iteF ?_
          exact ⟨_, rfl, s9, bd_next hb ha ⟨h0, h1⟩⟩
        · rw [decide_eq_false h1]
          refine iteT ?_
          have e := bd_step hb ha fun z => h1 z.2
          rw [hw] at e
          cases e
          exact ⟨_, rfl, _, rfl, fun d nd => q d _ s9 nd⟩
      · rw [if_neg (by simpa using h0)]
        refine ⟨_, rfl, iteT ?_⟩
        have e := bd_step hb ha fun z => h0 z.1
        rw [hw] at e
        cases e
        exact ⟨_, rfl, _, rfl, fun d nd => q d _ s9 nd⟩
    · rintro σ H9 ⟨y, rfl, s9, hb⟩
      rw [List.length_map, List.take_of_length_le (Nat.le_refl _)] at hb
      rw [hb] at hw
      cases hw
/-! ### the gates that are refused -/
def spPutX (K : PySem.W.Frag) (C CT : Addr) : Sp := fun vs H _ E => ∃ (Z : List Addr) (p : NetP) (m : Nat) (gs : List Gt) (nm : List (Str × List Nat)) (k : Str) (t : Addr) (ws : List Int) (w : Int), vs = [.ref p.x, .str k, .ref t] ∧ NetAt C Z H p m gs nm ∧ SqT K H t (ws.map V.int) ∧ bd (m + gs.length) ws = some w ∧ Let E H CT (.int w)
theorem okX_Net_put (B : Bl mg) (L : LL K mg C za zl E_NoWire I_NoWire E_NoName I_NoName E_Taken I_Taken E_BadForm E_BadText E_BadRow E_Unfit E_TooFew E_NoStep E_Undone E_Busy E_NoPlace E_NoDeed E_NoStage E_BadDeed E_TooMuch E_Stuck) : FnOk P w K mg base (L2.CX P w) 3 (za 19) (zl 19) ["self", "kind", "wires"] (spPutX K C E_NoWire) := by
  have GX_Net_need : FnOk P w K mg base (L2.CX P w) 2 (za 21) (zl 21) ["self", "wires"] (spNeedX K C E_NoWire) := (okX_Net_need B L).mono (by decide)
  refine L.F_Net_put.okX sc_Net_put (fun vs H Q E h => ?_) (fun cdv A outer s H vs Q E hr h => ?_)
  · obtain ⟨Z, p, m, gs, nm, k, t, ws, w, rfl, _⟩ := h
    rfl
  obtain ⟨Z, p, m, gs, nm, k, t, ws, w, rfl, hN, hT, hw, q⟩ := h
  refine ⟨_, (pss_cons (ps_expr (pe_meth (pv 0) L.T.cl L.M_Net_need GX_Net_need hr L.b_Net_need .nil (passes_call (takes_of rfl rfl rfl rfl) (fun _ _ _ _ h => h)) (pa_cons (pv 2) pa_nil)))
    (pss_cons ps_never
    (pss_one ps_never))), ?_⟩
  obtain ⟨hz, _, _, dx, _, _, e1, _⟩ := id hN
  exact ⟨_, rfl, p.x, dx, _, rfl, e1, rfl, _, rfl, Z, p, m, gs, nm, t, ws, w, rfl, hN, .inr hT, hw, q⟩
def spG2X (C CT : Addr) : Sp := fun vs H _ E => ∃ (Z : List Addr) (p : NetP) (m : Nat) (gs : List Gt) (nm : List (Str × List Nat)) (a b w : Int), vs = [.ref p.x, .int a, .int b] ∧ NetAt C Z H p m gs nm ∧ bd (m + gs.length) [a, b] = some w ∧ Let E H CT (.int w)
theorem okX_Net_both (B : Bl mg) (L : LL K mg C za zl E_NoWire I_NoWire E_NoName I_NoName E_Taken I_Taken E_BadForm E_BadText E_BadRow E_Unfit E_TooFew E_NoStep E_Undone E_Busy E_NoPlace E_NoDeed E_NoStage E_BadDeed E_TooMuch E_Stuck) : FnOk P w K mg base (L2.CX P w) 4 (za 14) (zl 14) ["self", "a", "b"] (spG2X C E_NoWire) := by
  have GX_Net_put : FnOk P w K mg base (L2.CX P w) 3 (za 19) (zl 19) ["self", "kind", "wires"] (spPutX K C E_NoWire) := (okX_Net_put B L).mono (by decide)
  refine L.F_Net_both.okX sc_Net_both (fun vs H Q E h => ?_) (fun cdv A outer s H vs Q E hr h => ?_)
  · obtain ⟨Z, p, m, gs, nm, a, b, w, rfl, _⟩ := h
    rfl
  obtain ⟨Z, p, m, gs, nm, a, b, w, rfl, hN, hw, q⟩ := h
  refine ⟨_, (pss_one (ps_ret (pe_meth (pv 0) L.T.cl L.M_Net_put GX_Net_put hr L.b_Net_put .nil (passes_call (takes_of rfl rfl rfl rfl) (fun _ _ _ _ h => h)) (pa_cons pe_str (pa_cons (pe_tup (pa_cons (pv 1) (pa_cons (pv 2) pa_nil))) pa_nil))))), ?_⟩
  obtain ⟨hz, _, _, dx, _, _, e1, _⟩ := id hN
  refine ⟨_, rfl, p.x, dx, _, rfl, e1, rfl, _, rfl, _, rfl, (by show 2 ≤ sizeLine; decide), fun t nt => ?_⟩
  have st := same_upd (o := .tup [.int a, .int b]) nt
  exact ⟨Z, p, m, gs, nm, "both", t, [a, b], w, rfl, hN.same st, .inl (.inl upd_same), hw, q.same st⟩
theorem okX_Net_either (B : Bl mg) (L : LL K mg C za zl E_NoWire I_NoWire E_NoName I_NoName E_Taken I_Taken E_BadForm E_BadText E_BadRow E_Unfit E_TooFew E_NoStep E_Undone E_Busy E_NoPlace E_NoDeed E_NoStage E_BadDeed E_TooMuch E_Stuck) : FnOk P w K mg base (L2.CX P w) 4 (za 15) (zl 15) ["self", "a", "b"] (spG2X C E_NoWire) := by
  have GX_Net_put : FnOk P w K mg base (L2.CX P w) 3 (za 19) (zl 19) ["self", "kind", "wires"] (spPutX K C E_NoWire) := (okX_Net_put B L).mono (by decide)
  refine L.F_Net_either.okX sc_Net_either (fun vs H Q E h => ?_) (fun cdv A outer s H vs Q E hr h => ?_)
  · obtain ⟨Z, p, m, gs, nm, a, b, w, rfl, _⟩ := h
    rfl
  obtain ⟨Z, p, m, gs, nm, a, b, w, rfl, hN, hw, q⟩ := h
  refine ⟨_, (pss_one (ps_ret (pe_meth (pv 0) L.T.cl L.M_Net_put GX_Net_put hr L.b_Net_put .nil (passes_call (takes_of rfl rfl rfl rfl) (fun _ _ _ _ h => h)) (pa_cons pe_str (pa_cons (pe_tup (pa_cons (pv 1) (pa_cons (pv 2) pa_nil))) pa_nil))))), ?_⟩
  obtain ⟨hz, _, _, dx, _, _, e1, _⟩ := id hN
  refine ⟨_, rfl, p.x, dx, _, rfl, e1, rfl, _, rfl, _, rfl, (by show 2 ≤ sizeLine; decide), fun t nt => ?_⟩
  have st := same_upd (o := .tup [.int a, .int b]) nt
  exact ⟨Z, p, m, gs, nm, "either", t, [a, b], w, rfl, hN.same st, .inl (.inl upd_same), hw, q.same st⟩
theorem okX_Net_unlike (B : Bl mg) (L : LL K mg C za zl E_NoWire I_NoWire E_NoName I_NoName E_Taken I_Taken E_BadForm E_BadText E_BadRow E_Unfit E_TooFew E_NoStep E_Undone E_Busy E_NoPlace E_NoDeed E_NoStage E_BadDeed E_TooMuch E_Stuck) : FnOk P w K mg base (L2.CX P w) 4 (za 16) (zl 16) ["self", "a", "b"] (spG2X C E_NoWire) := by
  have GX_Net_put : FnOk P w K mg base (L2.CX P w) 3 (za 19) (zl 19) ["self", "kind", "wires"] (spPutX K C E_NoWire) := (okX_Net_put B L).mono (by decide)
  refine L.F_Net_unlike.okX sc_Net_unlike (fun vs H Q E h => ?_) (fun cdv A outer s H vs Q E hr h => ?_)
  · obtain ⟨Z, p, m, gs, nm, a, b, w, rfl, _⟩ := h
    rfl
  obtain ⟨Z, p, m, gs, nm, a, b, w, rfl, hN, hw, q⟩ := h
  refine ⟨_, (pss_one (ps_ret (pe_meth (pv 0) L.T.cl L.M_Net_put GX_Net_put hr L.b_Net_put .nil (passes_call (takes_of rfl rfl rfl rfl) (fun _ _ _ _ h => h)) (pa_cons pe_str (pa_cons (pe_tup (pa_cons (pv 1) (pa_cons (pv 2) pa_nil))) pa_nil))))), ?_⟩
  obtain ⟨hz, _, _, dx, _, _, e1, _⟩ := id hN
  refine ⟨_, rfl, p.x, dx, _, rfl, e1, rfl, _, rfl, _, rfl, (by show 2 ≤ sizeLine; decide), fun t nt => ?_⟩
  have st := same_upd (o := .tup [.int a, .int b]) nt
  exact ⟨Z, p, m, gs, nm, "unlike", t, [a, b], w, rfl, hN.same st, .inl (.inl upd_same), hw, q.same st⟩
def spG1X (C CT : Addr) : Sp := fun vs H _ E => ∃ (Z : List Addr) (p : NetP) (m : Nat) (gs : List Gt) (nm : List (Str × List Nat)) (a w : Int), vs = [.ref p.x, .int a] ∧ NetAt C Z H p m gs nm ∧ bd (m + gs.length) [a] = some w ∧ Let E H CT (.int w)
theorem okX_Net_other (B : Bl mg) (L : LL K mg C za zl E_NoWire I_NoWire E_NoName I_NoName E_Taken I_Taken E_BadForm E_BadText E_BadRow E_Unfit E_TooFew E_NoStep E_Undone E_Busy E_NoPlace E_NoDeed E_NoStage E_BadDeed E_TooMuch E_Stuck) : FnOk P w K mg base (L2.CX P w) 4 (za 17) (zl 17) ["self", "a"] (spG1X C E_NoWire) := by
  have GX_Net_put : FnOk P w K mg base (L2.CX P w) 3 (za 19) (zl 19) ["self", "kind", "wires"] (spPutX K C E_NoWire) := (okX_Net_put B L).mono (by decide)
  refine L.F_Net_other.okX sc_Net_other (fun vs H Q E h => ?_) (fun cdv A outer s H vs Q E hr h => ?_)
  · obtain ⟨Z, p, m, gs, nm, a, w, rfl, _⟩ := h
    rfl
  obtain ⟨Z, p, m, gs, nm, a, w, rfl, hN, hw, q⟩ := h
  refine ⟨_, (pss_one (ps_ret (pe_meth (pv 0) L.T.cl L.M_Net_put GX_Net_put hr L.b_Net_put .nil (passes_call (takes_of rfl rfl rfl rfl) (fun _ _ _ _ h => h)) (pa_cons pe_str (pa_cons (pe_tup (pa_cons (pv 1) pa_nil)) pa_nil))))), ?_⟩
  obtain ⟨hz, _, _, dx, _, _, e1, _⟩ := id hN
  refine ⟨_, rfl, p.x, dx, _, rfl, e1, rfl, _, rfl, (by show 1 ≤ sizeLine; decide), fun t nt => ?_⟩
  have st := same_upd (o := .tup [.int a]) nt
  exact ⟨Z, p, m, gs, nm, "other", t, [a], w, rfl, hN.same st, .inl (.inl upd_same), hw, q.same st⟩
theorem okX_Net_depth (B : Bl mg) (L : LL K mg C za zl E_NoWire I_NoWire E_NoName I_NoName E_Taken I_Taken E_BadForm E_BadText E_BadRow E_Unfit E_TooFew E_NoStep E_Undone E_Busy E_NoPlace E_NoDeed E_NoStage E_BadDeed E_TooMuch E_Stuck) : FnOk P w K mg base (L2.CX P w) 3 (za 27) (zl 27) ["self", "wire"] (spG1X C E_NoWire) := by
  have GX_Net_need : FnOk P w K mg base (L2.CX P w) 2 (za 21) (zl 21) ["self", "wires"] (spNeedX K C E_NoWire) := (okX_Net_need B L).mono (by decide)
  refine L.F_Net_depth.okX sc_Net_depth (fun vs H Q E h => ?_) (fun cdv A outer s H vs Q E hr h => ?_)
  · obtain ⟨Z, p, m, gs, nm, a, w, rfl, _⟩ := h
    rfl
  obtain ⟨Z, p, m, gs, nm, a, w, rfl, hN, hw, q⟩ := h
  refine ⟨_, (pss_cons (ps_expr (pe_meth (pv 0) L.T.cl L.M_Net_need GX_Net_need hr L.b_Net_need .nil (passes_call (takes_of rfl rfl rfl rfl) (fun _ _ _ _ h => h)) (pa_cons (pe_tup (pa_cons (pv 1) pa_nil)) pa_nil)))
    (pss_one ps_never)), ?_⟩
  obtain ⟨hz, _, _, dx, _, _, e1, _⟩ := id hN
  refine ⟨_, rfl, p.x, dx, _, rfl, e1, rfl, _, rfl, (by show 1 ≤ sizeLine; decide), fun t nt => ?_⟩
  have st := same_upd (o := .tup [.int a]) nt
  exact ⟨Z, p, m, gs, nm, t, [a], w, rfl, hN.same st, .inr (.inl (.inl upd_same)), hw, q.same st⟩
def spGiveX (K : PySem.W.Frag) (C CW CT : Addr) : Sp := fun vs H _ E => ∃ (Z : List Addr) (p : NetP) (m : Nat) (gs : List Gt) (nm : List (Str × List Nat)) (n : Str) (t : Addr) (ws : List Int), vs = [.ref p.x, .str n, .ref t] ∧ NetAt C Z H p m gs nm ∧
  ((n ∈ nm.map (·.1) ∧ Let E H CT (.str n)) ∨ (n ∉ nm.map (·.1) ∧ (SqL K H t (ws.map V.int) ∨ SqT K H t (ws.map V.int)) ∧ ∃ w, bd (m + gs.length) ws = some w ∧ Let E H CW (.int w)))
theorem okX_Net_give (B : Bl mg) (L : LL K mg C za zl E_NoWire I_NoWire E_NoName I_NoName E_Taken I_Taken E_BadForm E_BadText E_BadRow E_Unfit E_TooFew E_NoStep E_Undone E_Busy E_NoPlace E_NoDeed E_NoStage E_BadDeed E_TooMuch E_Stuck) : FnOk P w K mg base (L2.CX P w) 3 (za 22) (zl 22) ["self", "name", "wires"] (spGiveX K C E_NoWire E_Taken) := by
  have GX_Net_need : FnOk P w K mg base (L2.CX P w) 2 (za 21) (zl 21) ["self", "wires"] (spNeedX K C E_NoWire) := (okX_Net_need B L).mono (by decide)
  refine L.F_Net_give.okX sc_Net_give (fun vs H Q E h => ?_) (fun cdv A outer s H vs Q E hr h => ?_)
  · obtain ⟨Z, p, m, gs, nm, n, t, ws, rfl, _⟩ := h
    rfl
  obtain ⟨Z, p, m, gs, nm, n, t, ws, rfl, hN, hc⟩ := h
  refine ⟨_, (pss_cons (ps_if (pt_cmp (pc_din (units1 hr) (pv 1) (pe_fld (pv 0) rfl)) (by rfl)) (pss_one (ps_raise rfl (takes_of rfl rfl rfl rfl) (pmk_what L.R_Taken hr (by decide) L.g_Taken rfl (pa_cons (pv 1) pa_nil)))) pss_nil)
    (pss_cons (ps_expr (pe_meth (pv 0) L.T.cl L.M_Net_need GX_Net_need hr L.b_Net_need .nil (passes_call (takes_of rfl rfl rfl rfl) (fun _ _ _ _ h => h)) (pa_cons (pv 2) pa_nil)))
    (pss_one ps_never))), ?_⟩
  obtain ⟨hz, hb, _, dx, ps, kvs, e1, e2, e3, e4, g0, n0⟩ := id hN
  refine ⟨_, rfl, _, rfl, p.x, C, dx, _, _, rfl, e1, L.T.cl, L.T.n_by_name, rfl, p.dn, _, rfl, DGet.k (k := .inr n) e4, ?_⟩
  rcases hc with ⟨hn, q⟩ | ⟨hn, hT, w, hw, q⟩
  · obtain ⟨i, hi, hni⟩ := List.mem_iff_getElem.mp hn
    rw [List.length_map] at hi
    rw [List.getElem_map] at hni
    have hx : nm[i]? = some (n, nm[i].2) := by rw [← hni]; exact List.getElem?_eq_getElem hi
    obtain ⟨l, ev, el⟩ := n0.in_ hx
    rw [ev]
    refine ⟨_, rfl, iteT ?_⟩
    exact ⟨_, rfl, _, rfl, fun d nd => q d _ (Same.refl _) nd⟩
  · rw [n0.out hn]
    refine ⟨_, rfl, iteF ?_⟩
    try dsimp only [tNext]
    exact ⟨_, rfl, p.x, dx, _, rfl, e1, rfl, _, rfl, Z, p, m, gs, nm, t, ws, w, rfl, hN, hT, hw, q⟩
def spGivenX (C CT : Addr) : Sp := fun vs H _ E => ∃ (Z : List Addr) (p : NetP) (m : Nat) (gs : List Gt) (nm : List (Str × List Nat)) (n : Str), vs = [.ref p.x, .str n] ∧ NetAt C Z H p m gs nm ∧ n ∉ nm.map (·.1) ∧ Let E H CT (.str n)
theorem okX_Net_given (B : Bl mg) (L : LL K mg C za zl E_NoWire I_NoWire E_NoName I_NoName E_Taken I_Taken E_BadForm E_BadText E_BadRow E_Unfit E_TooFew E_NoStep E_Undone E_Busy E_NoPlace E_NoDeed E_NoStage E_BadDeed E_TooMuch E_Stuck) : FnOk P w K mg base (L2.CX P w) 2 (za 23) (zl 23) ["self", "name"] (spGivenX C E_NoName) := by
  refine L.F_Net_given.okX sc_Net_given (fun vs H Q E h => ?_) (fun cdv A outer s H vs Q E hr h => ?_)
  · obtain ⟨Z, p, m, gs, nm, n, rfl, _⟩ := h
    rfl
  obtain ⟨Z, p, m, gs, nm, n, rfl, hN, hn, q⟩ := h
  refine ⟨_, (pss_cons (ps_if (pt_cmp (pc_dnotin (units1 hr) (pv 1) (pe_fld (pv 0) rfl)) (by rfl)) (pss_one (ps_raise rfl (takes_of rfl rfl rfl rfl) (pmk_what L.R_NoName hr (by decide) L.g_NoName rfl (pa_cons (pv 1) pa_nil)))) pss_nil)
    (pss_one ps_never)), ?_⟩
  obtain ⟨hz, hb, _, dx, ps, kvs, e1, e2, e3, e4, g0, n0⟩ := id hN
  refine ⟨_, rfl, _, rfl, p.x, C, dx, _, _, rfl, e1, L.T.cl, L.T.n_by_name, rfl, p.dn, _, rfl, DGet.k (k := .inr n) e4, ?_⟩
  rw [n0.out hn]
  refine ⟨_, rfl, iteT ?_⟩
  exact ⟨_, rfl, _, rfl, fun d nd => q d _ (Same.refl _) nd⟩
/-! ### _law_two -/
def spTwoX (C CT : Addr) : Sp := fun vs H _ E => ∃ (Z : List Addr) (p : NetP) (m : Nat) (gs : List Gt) (nm : List (Str × List Nat)) (h : Nat) (t : Addr) (a b w : Int) (ws : List Int), vs = [.ref p.x, .int (h : Int), .ref t] ∧ NetAt C Z H p m gs nm ∧ h < 3 ∧ H t = some (.lst ((a :: b :: ws).map V.int)) ∧ bd (m + gs.length) [a, b] = some w ∧ Let E H CT (.int w)
theorem okX__law_two (B : Bl mg) (L : LL K mg C za zl E_NoWire I_NoWire E_NoName I_NoName E_Taken I_Taken E_BadForm E_BadText E_BadRow E_Unfit E_TooFew E_NoStep E_Undone E_Busy E_NoPlace E_NoDeed E_NoStage E_BadDeed E_TooMuch E_Stuck) : FnOk P w K mg base (L2.CX P w) 5 (za 8) (zl 8) ["_law_net", "_law_how", "_law_wires"] (spTwoX C E_NoWire) := by
  have GX_Net_both : FnOk P w K mg base (L2.CX P w) 4 (za 14) (zl 14) ["self", "a", "b"] (spG2X C E_NoWire) := (okX_Net_both B L).mono (by decide)
  have GX_Net_either : FnOk P w K mg base (L2.CX P w) 4 (za 15) (zl 15) ["self", "a", "b"] (spG2X C E_NoWire) := (okX_Net_either B L).mono (by decide)
  have GX_Net_unlike : FnOk P w K mg base (L2.CX P w) 4 (za 16) (zl 16) ["self", "a", "b"] (spG2X C E_NoWire) := (okX_Net_unlike B L).mono (by decide)
  refine L.F__law_two.okX sc__law_two (fun vs H Q E h => ?_) (fun cdv A outer s H vs Q E hr h => ?_)
  · obtain ⟨Z, p, m, gs, nm, h, t, a, b, w, ws, rfl, _⟩ := h
    rfl
  obtain ⟨Z, p, m, gs, nm, h, t, a, b, w, ws, rfl, hN, hh, hT, hw, q⟩ := h
  refine ⟨_, (pss_cons (ps_if (pt_cmpR op_eq (pv 1) pe_int (nomark _)) (pss_one (ps_ret (pe_meth (pv 0) L.T.cl L.M_Net_both GX_Net_both hr L.b_Net_both .nil (passes_call (takes_of rfl rfl rfl rfl) (fun _ _ _ _ h => h)) (pa_cons (pe_ix ix_list (pv 2) pe_int (fun _ _ => rfl)) (pa_cons (pe_ix ix_list (pv 2) pe_int (fun _ _ => rfl)) pa_nil))))) pss_nil)
    (pss_one (ps_ret (pe_ifExp (pt_cmpR op_eq (pv 1) pe_int (nomark _)) (pe_meth (pv 0) L.T.cl L.M_Net_either GX_Net_either hr L.b_Net_either .nil (passes_call (takes_of rfl rfl rfl rfl) (fun _ _ _ _ h => h)) (pa_cons (pe_ix ix_list (pv 2) pe_int (fun _ _ => rfl)) (pa_cons (pe_ix ix_list (pv 2) pe_int (fun _ _ => rfl)) pa_nil))) (pe_meth (pv 0) L.T.cl L.M_Net_unlike GX_Net_unlike hr L.b_Net_unlike .nil (passes_call (takes_of rfl rfl rfl rfl) (fun _ _ _ _ h => h)) (pa_cons (pe_ix ix_list (pv 2) pe_int (fun _ _ => rfl)) (pa_cons (pe_ix ix_list (pv 2) pe_int (fun _ _ => rfl)) pa_nil))))))), ?_⟩
  obtain ⟨hz, _, _, dx, _, _, e1, _⟩ := id hN
  have c3 : h = 0 ∨ h = 1 ∨ h = 2 := by omega
  rcases c3 with z | z | z <;> subst z
  · refine ⟨_, rfl, rfl, _, rfl, iteT ?_⟩
    exact ⟨_, rfl, p.x, dx, _, rfl, e1, rfl, _, rfl, t, _, _, _, rfl, rfl, SqL.of hT, atI_nat (j := 0) rfl, _, rfl, t, _, _, _, rfl, rfl, SqL.of hT, atI_nat (j := 1) rfl, Z, p, m, gs, nm, a, b, w, rfl, hN, hw, q⟩
  · refine ⟨_, rfl, rfl, _, rfl, iteF ?_⟩
    refine ⟨_, rfl, rfl, _, rfl, iteT ?_⟩
    exact ⟨_, rfl, p.x, dx, _, rfl, e1, rfl, _, rfl, t, _, _, _, rfl, rfl, SqL.of hT, atI_nat (j := 0) rfl, _, rfl, t, _, _, _, rfl, rfl, SqL.of hT, atI_nat (j := 1) rfl, Z, p, m, gs, nm, a, b, w, rfl, hN, hw, q⟩
  · refine ⟨_, rfl, rfl, _, rfl, iteF ?_⟩
    refine ⟨_, rfl, rfl, _, rfl, iteF ?_⟩
    exact ⟨_, rfl, p.x, dx, _, rfl, e1, rfl, _, rfl, t, _, _, _, rfl, rfl, SqL.of hT, atI_nat (j := 0) rfl, _, rfl, t, _, _, _, rfl, rfl, SqL.of hT, atI_nat (j := 1) rfl, Z, p, m, gs, nm, a, b, w, rfl, hN, hw, q⟩
end
section
variable {P : Program} {w : World} {K : PySem.W.Frag} {mg : Str → Option Value} {base : Heap}
variable {C : Addr} {za : Nat → Addr} {zl : Nat → FuncData} {E_NoWire I_NoWire E_NoName I_NoName E_Taken I_Taken E_BadForm E_BadText E_BadRow E_Unfit E_TooFew E_NoStep E_Undone E_Busy E_NoPlace E_NoDeed E_NoStage E_BadDeed E_TooMuch E_Stuck : Addr}
/-! ### the classes of what was refused -/
def clsN : List Str := ["BadForm", "BadText", "BadRow", "Unfit", "TooFew", "NoStep", "Undone", "Busy", "NoWire", "NoPlace", "NoDeed", "NoName", "NoStage", "Taken", "BadDeed", "TooMuch", "Stuck"]
structure KitAll (K : PySem.W.Frag) (E : Addr) (es : List Addr) (bs : List Bool) : Prop where
  le : es.length = 17
  lb : bs.length = 17
  at_ : ∀ (i : Nat) (e : Addr) (b : Bool), es[i]? = some e → bs[i]? = some b → PySem.W.kitOne K (.ref E) (.ref e) = some b
def pick (bs : List Bool) : List Str := ((clsN.zip bs).filter (·.2)).map (·.1)
theorem ekGo {H H' : Hp} {a E : Addr} {w : V} (h : EkAt H a E w) (s : Same H H') : EkAt H' a E w := ⟨h.choose, s _ _ h.choose_spec.1, s _ _ h.choose_spec.2⟩
theorem words17 : Txt.split ("BadForm BadText BadRow Unfit TooFew NoStep Undone Busy NoWire NoPlace NoDeed NoName NoStage" ++ " Taken BadDeed TooMuch Stuck") " " = clsN := by decide +kernel
def spCls (K : PySem.W.Frag) (es : List Addr) : Sp := fun vs H Q _ => ∃ (a E : Addr) (w : V) (bs : List Bool), vs = [.ref a] ∧ EkAt H a E w ∧ PySem.WhX.ErrC K E ∧ KitAll K E es bs ∧
  ∀ D H', Same H H' → H D = none → H' D = some (.lst ((pick bs).map V.str)) → Q (.ref D) H'
theorem ok__law_classes (B : Bl mg) (L : LL K mg C za zl E_NoWire I_NoWire E_NoName I_NoName E_Taken I_Taken E_BadForm E_BadText E_BadRow E_Unfit E_TooFew E_NoStep E_Undone E_Busy E_NoPlace E_NoDeed E_NoStage E_BadDeed E_TooMuch E_Stuck) : FnOk P w K mg base CX0 1 (za 4) (zl 4) ["_law_caught"] (spCls K [E_BadForm, E_BadText, E_BadRow, E_Unfit, E_TooFew, E_NoStep, E_Undone, E_Busy, E_NoWire, E_NoPlace, E_NoDeed, E_NoName, E_NoStage, E_Taken, E_BadDeed, E_TooMuch, E_Stuck]) := by
  refine L.F__law_classes.ok sc__law_classes (fun vs H Q E h => ?_) (fun cdv A outer s H vs Q E hr h => ?_)
  · obtain ⟨a, E, w, bs, rfl, _⟩ := h
    rfl
  obtain ⟨a, E, wv, bs, rfl, hk, hC, hA, q⟩ := h
  refine ⟨_, (pss_cons (ps_set (i := 1) sc__law_classes.nd rfl (.inl rfl) (pe_lst (pa_cons (pe_callB call_isW (by rfl) B.isinstance boot_isinstance (pa_cons (pv 0) (pa_cons (pe_glob (v := .ref E_BadForm) rfl L.g_BadForm rfl) pa_nil))) (pa_cons (pe_callB call_isW (by rfl) B.isinstance boot_isinstance (pa_cons (pv 0) (pa_cons (pe_glob (v := .ref E_BadText) rfl L.g_BadText rfl) pa_nil))) (pa_cons (pe_callB call_isW (by rfl) B.isinstance boot_isinstance (pa_cons (pv 0) (pa_cons (pe_glob (v := .ref E_BadRow) rfl L.g_BadRow rfl) pa_nil))) pa_nil)))))
    (pss_cons (ps_set (i := 1) sc__law_classes.nd rfl (.inl rfl) (pe_op op_cat (pv 1) (pe_lst (pa_cons (pe_callB call_isW (by rfl) B.isinstance boot_isinstance (pa_cons (pv 0) (pa_cons (pe_glob (v := .ref E_Unfit) rfl L.g_Unfit rfl) pa_nil))) (pa_cons (pe_callB call_isW (by rfl) B.isinstance boot_isinstance (pa_cons (pv 0) (pa_cons (pe_glob (v := .ref E_TooFew) rfl L.g_TooFew rfl) pa_nil))) (pa_cons (pe_callB call_isW (by rfl) B.isinstance boot_isinstance (pa_cons (pv 0) (pa_cons (pe_glob (v := .ref E_NoStep) rfl L.g_NoStep rfl) pa_nil))) pa_nil))))))
    (pss_cons (ps_set (i := 1) sc__law_classes.nd rfl (.inl rfl) (pe_op op_cat (pv 1) (pe_lst (pa_cons (pe_callB call_isW (by rfl) B.isinstance boot_isinstance (pa_cons (pv 0) (pa_cons (pe_glob (v := .ref E_Undone) rfl L.g_Undone rfl) pa_nil))) (pa_cons (pe_callB call_isW (by rfl) B.isinstance boot_isinstance (pa_cons (pv 0) (pa_cons (pe_glob (v := .ref E_Busy) rfl L.g_Busy rfl) pa_nil))) (pa_cons (pe_callB call_isW (by rfl) B.isinstance boot_isinstance (pa_cons (pv 0) (pa_cons (pe_glob (v := .ref E_NoWire) rfl L.g_NoWire rfl) pa_nil))) pa_nil))))))
    (pss_cons (ps_set (i := 1) sc__law_classes.nd rfl (.inl rfl) (pe_op op_cat (pv 1) (pe_lst (pa_cons (pe_callB call_isW (by rfl) B.isinstance boot_isinstance (pa_cons (pv 0) (pa_cons (pe_glob (v := .ref E_NoPlace) rfl L.g_NoPlace rfl) pa_nil))) (pa_cons (pe_callB call_isW (by rfl) B.isinstance boot_isinstance (pa_cons (pv 0) (pa_cons (pe_glob (v := .ref E_NoDeed) rfl L.g_NoDeed rfl) pa_nil))) (pa_cons (pe_callB call_isW (by rfl) B.isinstance boot_isinstance (pa_cons (pv 0) (pa_cons (pe_glob (v := .ref E_NoName) rfl L.g_NoName rfl) pa_nil))) pa_nil))))))
    (pss_cons (ps_set (i := 1) sc__law_classes.nd rfl (.inl rfl) (pe_op op_cat (pv 1) (pe_lst (pa_cons (pe_callB call_isW (by rfl) B.isinstance boot_isinstance (pa_cons (pv 0) (pa_cons (pe_glob (v := .ref E_NoStage) rfl L.g_NoStage rfl) pa_nil))) (pa_cons (pe_callB call_isW (by rfl) B.isinstance boot_isinstance (pa_cons (pv 0) (pa_cons (pe_glob (v := .ref E_Taken) rfl L.g_Taken rfl) pa_nil))) (pa_cons (pe_callB call_isW (by rfl) B.isinstance boot_isinstance (pa_cons (pv 0) (pa_cons (pe_glob (v := .ref E_BadDeed) rfl L.g_BadDeed rfl) pa_nil))) pa_nil))))))
    (pss_cons (ps_set (i := 1) sc__law_classes.nd rfl (.inl rfl) (pe_op op_cat (pv 1) (pe_lst (pa_cons (pe_callB call_isW (by rfl) B.isinstance boot_isinstance (pa_cons (pv 0) (pa_cons (pe_glob (v := .ref E_TooMuch) rfl L.g_TooMuch rfl) pa_nil))) (pa_cons (pe_callB call_isW (by rfl) B.isinstance boot_isinstance (pa_cons (pv 0) (pa_cons (pe_glob (v := .ref E_Stuck) rfl L.g_Stuck rfl) pa_nil))) pa_nil)))))
    (pss_cons (ps_set (i := 2) sc__law_classes.nd rfl (.inl rfl) pe_str)
    (pss_cons (ps_set (i := 2) sc__law_classes.nd rfl (.inl rfl) (pe_op op_add_str (pv 2) pe_str))
    (pss_one (ps_ret (pe_lc (own := [("_law_word", 3), ("_law_one", 4)]) (g := gTup K 2 (gCons (gName 3) (gCons (gName 4) gNil))) (by rfl) sc__law_classes.nd (pi_zip (by rfl) B.zip (pa_cons (pe_split (pv 2) pe_str) (pa_cons (pv 1) pa_nil))) (blkOk_by (own := [("_law_word", 3), ("_law_one", 4)]) (N := ["_law_caught", "_law_some", "_law_words", "_law_word", "_law_one"]) (sc := defScope s__law_classes) (by decide +kernel)) (fun _ _ _ _ _ => pg_tup rfl (pgs_cons (pg_name (i := 3) sc__law_classes.nd rfl (Or.inl rfl) (.inr rfl)) (pgs_cons (pg_name (i := 4) sc__law_classes.nd rfl (Or.inl rfl) (.inr rfl)) pgs_nil))) (fun _ _ _ _ _ => pts_one (pt_val (pv 4))) (fun _ _ _ _ _ => (pv 3))))))))))))), ?_⟩
  obtain ⟨b0, b1, b2, b3, b4, b5, b6, b7, b8, b9, b10, b11, b12, b13, b14, b15, b16, rfl⟩ : ∃ b0 b1 b2 b3 b4 b5 b6 b7 b8 b9 b10 b11 b12 b13 b14 b15 b16, bs = [b0, b1, b2, b3, b4, b5, b6, b7, b8, b9, b10, b11, b12, b13, b14, b15, b16] := by
    have h := hA.lb
    match bs, h with
    | [_, _, _, _, _, _, _, _, _, _, _, _, _, _, _, _, _], _ => exact ⟨_, _, _, _, _, _, _, _, _, _, _, _, _, _, _, _, _, rfl⟩
  have ek := hk
  refine ⟨_, rfl, a, E, _, _, .ref E_BadForm, b0, rfl, hC, ek, .own _, hA.at_ 0 _ _ rfl rfl, _, rfl, a, E, _, _, .ref E_BadText, b1, rfl, hC, ek, .own _, hA.at_ 1 _ _ rfl rfl, _, rfl, a, E, _, _, .ref E_BadRow, b2, rfl, hC, ek, .own _, hA.at_ 2 _ _ rfl rfl, (by show 3 ≤ sizeLine; decide), fun D0 nD0 => ?_⟩
  have sD0 := same_upd (o := .lst [.bl b0, .bl b1, .bl b2]) nD0
  have eD0 : (upd H D0 (.lst [.bl b0, .bl b1, .bl b2])) D0 = some (.lst [.bl b0, .bl b1, .bl b2]) := upd_same
  replace ek := ekGo ek sD0
  have wD0 : Same H (upd H D0 (.lst [.bl b0, .bl b1, .bl b2])) := sD0
  generalize upd H D0 (.lst [.bl b0, .bl b1, .bl b2]) = GD0 at *
  try dsimp only [gName]
  try simp only [L2.start, List.map_cons, List.map_nil, List.length_cons, List.length_nil, List.replicate_succ, List.replicate_zero, List.cons_append, List.nil_append, List.set_cons_succ, List.set_cons_zero, Nat.reduceAdd, Nat.reduceSub, Nat.zero_add]
  refine ⟨_, rfl, _, rfl, a, E, _, _, .ref E_Unfit, b3, rfl, hC, ek, .own _, hA.at_ 3 _ _ rfl rfl, _, rfl, a, E, _, _, .ref E_TooFew, b4, rfl, hC, ek, .own _, hA.at_ 4 _ _ rfl rfl, _, rfl, a, E, _, _, .ref E_NoStep, b5, rfl, hC, ek, .own _, hA.at_ 5 _ _ rfl rfl, (by show 3 ≤ sizeLine; decide), fun D1 nD1 => ?_⟩
  have sD1 := same_upd (o := .lst [.bl b3, .bl b4, .bl b5]) nD1
  have eD1 : (upd GD0 D1 (.lst [.bl b3, .bl b4, .bl b5])) D1 = some (.lst [.bl b3, .bl b4, .bl b5]) := upd_same
  have eD0' := sD1 _ _ eD0
  replace ek := ekGo ek sD1
  have wD1 : Same H (upd GD0 D1 (.lst [.bl b3, .bl b4, .bl b5])) := wD0.trans sD1
  generalize upd GD0 D1 (.lst [.bl b3, .bl b4, .bl b5]) = GD1 at *
  refine ⟨D0, D1, _, _, rfl, rfl, eD0', eD1, (by show 3 + 3 ≤ sizeLine; decide), fun D2 nD2 => ?_⟩
  have sD2 := same_upd (o := .lst [.bl b0, .bl b1, .bl b2, .bl b3, .bl b4, .bl b5]) nD2
  have eD2 : (upd GD1 D2 (.lst [.bl b0, .bl b1, .bl b2, .bl b3, .bl b4, .bl b5])) D2 = some (.lst [.bl b0, .bl b1, .bl b2, .bl b3, .bl b4, .bl b5]) := upd_same
  replace ek := ekGo ek sD2
  have wD2 : Same H (upd GD1 D2 (.lst [.bl b0, .bl b1, .bl b2, .bl b3, .bl b4, .bl b5])) := wD1.trans sD2
  show gName 1 (.ref D2) _ (upd GD1 D2 (.lst [.bl b0, .bl b1, .bl b2, .bl b3, .bl b4, .bl b5])) _
  generalize upd GD1 D2 (.lst [.bl b0, .bl b1, .bl b2, .bl b3, .bl b4, .bl b5]) = GD2 at *
  try dsimp only [gName]
  try simp only [L2.start, List.map_cons, List.map_nil, List.length_cons, List.length_nil, List.replicate_succ, List.replicate_zero, List.cons_append, List.nil_append, List.set_cons_succ, List.set_cons_zero, Nat.reduceAdd, Nat.reduceSub, Nat.zero_add]
  refine ⟨_, rfl, _, rfl, a, E, _, _, .ref E_Undone, b6, rfl, hC, ek, .own _, hA.at_ 6 _ _ rfl rfl, _, rfl, a, E, _, _, .ref E_Busy, b7, rfl, hC, ek, .own _, hA.at_ 7 _ _ rfl rfl, _, rfl, a, E, _, _, .ref E_NoWire, b8, rfl, hC, ek, .own _, hA.at_ 8 _ _ rfl rfl, (by show 3 ≤ sizeLine; decide), fun D3 nD3 => ?_⟩
  have sD3 := same_upd (o := .lst [.bl b6, .bl b7, .bl b8]) nD3
  have eD3 : (upd GD2 D3 (.lst [.bl b6, .bl b7, .bl b8])) D3 = some (.lst [.bl b6, .bl b7, .bl b8]) := upd_same
  have eD2' := sD3 _ _ eD2
  replace ek := ekGo ek sD3
  have wD3 : Same H (upd GD2 D3 (.lst [.bl b6, .bl b7, .bl b8])) := wD2.trans sD3
  generalize upd GD2 D3 (.lst [.bl b6, .bl b7, .bl b8]) = GD3 at *
  refine ⟨D2, D3, _, _, rfl, rfl, eD2', eD3, (by show 6 + 3 ≤ sizeLine; decide), fun D4 nD4 => ?_⟩
  have sD4 := same_upd (o := .lst [.bl b0, .bl b1, .bl b2, .bl b3, .bl b4, .bl b5, .bl b6, .bl b7, .bl b8]) nD4
  have eD4 : (upd GD3 D4 (.lst [.bl b0, .bl b1, .bl b2, .bl b3, .bl b4, .bl b5, .bl b6, .bl b7, .bl b8])) D4 = some (.lst [.bl b0, .bl b1, .bl b2, .bl b3, .bl b4, .bl b5, .bl b6, .bl b7, .bl b8]) := upd_same
  replace ek := ekGo ek sD4
  have wD4 : Same H (upd GD3 D4 (.lst [.bl b0, .bl b1, .bl b2, .bl b3, .bl b4, .bl b5, .bl b6, .bl b7, .bl b8])) := wD3.trans sD4
  show gName 1 (.ref D4) _ (upd GD3 D4 (.lst [.bl b0, .bl b1, .bl b2, .bl b3, .bl b4, .bl b5, .bl b6, .bl b7, .bl b8])) _
  generalize upd GD3 D4 (.lst [.bl b0, .bl b1, .bl b2, .bl b3, .bl b4, .bl b5, .bl b6, .bl b7, .bl b8]) = GD4 at *
  try dsimp only [gName]
  try simp only [L2.start, List.map_cons, List.map_nil, List.length_cons, List.length_nil, List.replicate_succ, List.replicate_zero, List.cons_append, List.nil_append, List.set_cons_succ, List.set_cons_zero, Nat.reduceAdd, Nat.reduceSub, Nat.zero_add]
  refine ⟨_, rfl, _, rfl, a, E, _, _, .ref E_NoPlace, b9, rfl, hC, ek, .own _, hA.at_ 9 _ _ rfl rfl, _, rfl, a, E, _, _, .ref E_NoDeed, b10, rfl, hC, ek, .own _, hA.at_ 10 _ _ rfl rfl, _, rfl, a, E, _, _, .ref E_NoName, b11, rfl, hC, ek, .own _, hA.at_ 11 _ _ rfl rfl, (by show 3 ≤ sizeLine; decide), fun D5 nD5 => ?_⟩
  have sD5 := same_upd (o := .lst [.bl b9, .bl b10, .bl b11]) nD5
  have eD5 : (upd GD4 D5 (.lst [.bl b9, .bl b10, .bl b11])) D5 = some (.lst [.bl b9, .bl b10, .bl b11]) := upd_same
  have eD4' := sD5 _ _ eD4
  replace ek := ekGo ek sD5
  have wD5 : Same H (upd GD4 D5 (.lst [.bl b9, .bl b10, .bl b11])) := wD4.trans sD5
  generalize upd GD4 D5 (.lst [.bl b9, .bl b10, .bl b11]) = GD5 at *
  refine ⟨D4, D5, _, _, rfl, rfl, eD4', eD5, (by show 9 + 3 ≤ sizeLine; decide), fun D6 nD6 => ?_⟩
  have sD6 := same_upd (o := .lst [.bl b0, .bl b1, .bl b2, .bl b3, .bl b4, .bl b5, .bl b6, .bl b7, .bl b8, .bl b9, .bl b10, .bl b11]) nD6
  have eD6 : (upd GD5 D6 (.lst [.bl b0, .bl b1, .bl b2, .bl b3, .bl b4, .bl b5, .bl b6, .bl b7, .bl b8, .bl b9, .bl b10, .bl b11])) D6 = some (.lst [.bl b0, .bl b1, .bl b2, .bl b3, .bl b4, .bl b5, .bl b6, .bl b7, .bl b8, .bl b9, .bl b10, .bl b11]) := upd_same
  replace ek := ekGo ek sD6
  have wD6 : Same H (upd GD5 D6 (.lst [.bl b0, .bl b1, .bl b2, .bl b3, .bl b4, .bl b5, .bl b6, .bl b7, .bl b8, .bl b9, .bl b10, .bl b11])) := wD5.trans sD6
  show gName 1 (.ref D6) _ (upd GD5 D6 (.lst [.bl b0, .bl b1, .bl b2, .bl b3, .bl b4, .bl b5, .bl b6, .bl b7, .bl b8, .bl b9, .bl b10, .bl b11])) _
  generalize upd GD5 D6 (.lst [.bl b0, .bl b1, .bl b2, .bl b3, .bl b4, .bl b5, .bl b6, .bl b7, .bl b8, .bl b9, .bl b10, .bl b11]) = GD6 at *
  try dsimp only [gName]
  try simp only [L2.start, List.map_cons, List.map_nil, List.length_cons, List.length_nil, List.replicate_succ, List.replicate_zero, List.cons_append, List.nil_append, List.set_cons_succ, List.set_cons_zero, Nat.reduceAdd, Nat.reduceSub, Nat.zero_add]
  refine ⟨_, rfl, _, rfl, a, E, _, _, .ref E_NoStage, b12, rfl, hC, ek, .own _, hA.at_ 12 _ _ rfl rfl, _, rfl, a, E, _, _, .ref E_Taken, b13, rfl, hC, ek, .own _, hA.at_ 13 _ _ rfl rfl, _, rfl, a, E, _, _, .ref E_BadDeed, b14, rfl, hC, ek, .own _, hA.at_ 14 _ _ rfl rfl, (by show 3 ≤ sizeLine; decide), fun D7 nD7 => ?_⟩
  have sD7 := same_upd (o := .lst [.bl b12, .bl b13, .bl b14]) nD7
  have eD7 : (upd GD6 D7 (.lst [.bl b12, .bl b13, .bl b14])) D7 = some (.lst [.bl b12, .bl b13, .bl b14]) := upd_same
  have eD6' := sD7 _ _ eD6
  replace ek := ekGo ek sD7
  have wD7 : Same H (upd GD6 D7 (.lst [.bl b12, .bl b13, .bl b14])) := wD6.trans sD7
  generalize upd GD6 D7 (.lst [.bl b12, .bl b13, .bl b14]) = GD7 at *
  refine ⟨D6, D7, _, _, rfl, rfl, eD6', eD7, (by show 12 + 3 ≤ sizeLine; decide), fun D8 nD8 => ?_⟩
  have sD8 := same_upd (o := .lst [.bl b0, .bl b1, .bl b2, .bl b3, .bl b4, .bl b5, .bl b6, .bl b7, .bl b8, .bl b9, .bl b10, .bl b11, .bl b12, .bl b13, .bl b14]) nD8
  have eD8 : (upd GD7 D8 (.lst [.bl b0, .bl b1, .bl b2, .bl b3, .bl b4, .bl b5, .bl b6, .bl b7, .bl b8, .bl b9, .bl b10, .bl b11, .bl b12, .bl b13, .bl b14])) D8 = some (.lst [.bl b0, .bl b1, .bl b2, .bl b3, .bl b4, .bl b5, .bl b6, .bl b7, .bl b8, .bl b9, .bl b10, .bl b11, .bl b12, .bl b13, .bl b14]) := upd_same
  replace ek := ekGo ek sD8
  have wD8 : Same H (upd GD7 D8 (.lst [.bl b0, .bl b1, .bl b2, .bl b3, .bl b4, .bl b5, .bl b6, .bl b7, .bl b8, .bl b9, .bl b10, .bl b11, .bl b12, .bl b13, .bl b14])) := wD7.trans sD8
  show gName 1 (.ref D8) _ (upd GD7 D8 (.lst [.bl b0, .bl b1, .bl b2, .bl b3, .bl b4, .bl b5, .bl b6, .bl b7, .bl b8, .bl b9, .bl b10, .bl b11, .bl b12, .bl b13, .bl b14])) _
  generalize upd GD7 D8 (.lst [.bl b0, .bl b1, .bl b2, .bl b3, .bl b4, .bl b5, .bl b6, .bl b7, .bl b8, .bl b9, .bl b10, .bl b11, .bl b12, .bl b13, .bl b14]) = GD8 at *
  try dsimp only [gName]
  try simp only [L2.start, List.map_cons, List.map_nil, List.length_cons, List.length_nil, List.replicate_succ, List.replicate_zero, List.cons_append, List.nil_append, List.set_cons_succ, List.set_cons_zero, Nat.reduceAdd, Nat.reduceSub, Nat.zero_add]
  refine ⟨_, rfl, _, rfl, a, E, _, _, .ref E_TooMuch, b15, rfl, hC, ek, .own _, hA.at_ 15 _ _ rfl rfl, _, rfl, a, E, _, _, .ref E_Stuck, b16, rfl, hC, ek, .own _, hA.at_ 16 _ _ rfl rfl, (by show 2 ≤ sizeLine; decide), fun D9 nD9 => ?_⟩
  have sD9 := same_upd (o := .lst [.bl b15, .bl b16]) nD9
  have eD9 : (upd GD8 D9 (.lst [.bl b15, .bl b16])) D9 = some (.lst [.bl b15, .bl b16]) := upd_same
  have eD8' := sD9 _ _ eD8
  replace ek := ekGo ek sD9
  have wD9 : Same H (upd GD8 D9 (.lst [.bl b15, .bl b16])) := wD8.trans sD9
  generalize upd GD8 D9 (.lst [.bl b15, .bl b16]) = GD9 at *
  refine ⟨D8, D9, _, _, rfl, rfl, eD8', eD9, (by show 15 + 2 ≤ sizeLine; decide), fun D10 nD10 => ?_⟩
  have sD10 := same_upd (o := .lst [.bl b0, .bl b1, .bl b2, .bl b3, .bl b4, .bl b5, .bl b6, .bl b7, .bl b8, .bl b9, .bl b10, .bl b11, .bl b12, .bl b13, .bl b14, .bl b15, .bl b16]) nD10
  have eD10 : (upd GD9 D10 (.lst [.bl b0, .bl b1, .bl b2, .bl b3, .bl b4, .bl b5, .bl b6, .bl b7, .bl b8, .bl b9, .bl b10, .bl b11, .bl b12, .bl b13, .bl b14, .bl b15, .bl b16])) D10 = some (.lst [.bl b0, .bl b1, .bl b2, .bl b3, .bl b4, .bl b5, .bl b6, .bl b7, .bl b8, .bl b9, .bl b10, .bl b11, .bl b12, .bl b13, .bl b14, .bl b15, .bl b16]) := upd_same
  replace ek := ekGo ek sD10
  have wD10 : Same H (upd GD9 D10 (.lst [.bl b0, .bl b1, .bl b2, .bl b3, .bl b4, .bl b5, .bl b6, .bl b7, .bl b8, .bl b9, .bl b10, .bl b11, .bl b12, .bl b13, .bl b14, .bl b15, .bl b16])) := wD9.trans sD10
  show gName 1 (.ref D10) _ (upd GD9 D10 (.lst [.bl b0, .bl b1, .bl b2, .bl b3, .bl b4, .bl b5, .bl b6, .bl b7, .bl b8, .bl b9, .bl b10, .bl b11, .bl b12, .bl b13, .bl b14, .bl b15, .bl b16])) _
  generalize upd GD9 D10 (.lst [.bl b0, .bl b1, .bl b2, .bl b3, .bl b4, .bl b5, .bl b6, .bl b7, .bl b8, .bl b9, .bl b10, .bl b11, .bl b12, .bl b13, .bl b14, .bl b15, .bl b16]) = GD10 at *
  try dsimp only [gName]
  try simp only [L2.start, List.map_cons, List.map_nil, List.length_cons, List.length_nil, List.replicate_succ, List.replicate_zero, List.cons_append, List.nil_append, List.set_cons_succ, List.set_cons_zero, Nat.reduceAdd, Nat.reduceSub, Nat.zero_add]
  refine ⟨_, rfl, _, _, rfl, rfl, (by decide +kernel), ?_⟩
  try dsimp only [gName]
  try simp only [L2.start, List.map_cons, List.map_nil, List.length_cons, List.length_nil, List.replicate_succ, List.replicate_zero, List.cons_append, List.nil_append, List.set_cons_succ, List.set_cons_zero, Nat.reduceAdd, Nat.reduceSub, Nat.zero_add]
  obtain ⟨bsL, hbs⟩ : ∃ bsL, bsL = [b0, b1, b2, b3, b4, b5, b6, b7, b8, b9, b10, b11, b12, b13, b14, b15, b16] := ⟨_, rfl⟩
  have eB : GD10 D10 = some (.lst (bsL.map V.bl)) := by rw [hbs]; exact eD10
  rw [← hbs] at q hA
  have lB := hA.lb
  have lN : clsN.length = 17 := rfl
  clear eD10 hbs
  refine ⟨_, rfl, ⟨_, rfl⟩, _, _, rfl, rfl, rfl, (by decide +kernel), fun Pp nP => ?_⟩
  rw [words17]
  have sP := same_upd (o := .lst (clsN.map V.str)) nP
  have eP : (upd GD10 Pp (.lst (clsN.map V.str))) Pp = some (.lst (clsN.map V.str)) := upd_same
  have eB' := sP _ _ eB
  have wP : Same H (upd GD10 Pp (.lst (clsN.map V.str))) := wD10.trans sP
  generalize upd GD10 Pp (.lst (clsN.map V.str)) = G1 at *
  refine ⟨_, rfl, Pp, D10, _, _, rfl, SqL.of eP, SqL.of eB', fun F nF => ?_⟩
  refine lc_it (walk_zip (K := K) (a := Pp) (b := D10) (xs := clsN.map V.str) (ys := bsL.map V.bl) (n := 17) (by rw [List.length_map, List.length_map, lN, lB]; rfl)) (fun i H9 => Same G1 H9 ∧ H9 F = some (.lst (((((clsN.zip bsL).take i).filter (·.2)).map (·.1)).map V.str))) ⟨same_upd nF, upd_same⟩ (fun i H9 _ ⟨s9, _⟩ => ⟨SqL.of (s9 _ _ eP), SqL.of (s9 _ _ eB')⟩) ?_ ?_
  · rintro i z H9 H10 hi ⟨s9, eF⟩ ⟨T, u, v, rfl, nT, rfl, hu, hv⟩
    have hn : clsN[i]? = some (clsN[i]'hi) := List.getElem?_eq_getElem _
    have hb : bsL[i]? = some (bsL[i]'(by omega)) := List.getElem?_eq_getElem _
    replace hu : (clsN.map V.str)[i]? = some u := hu
    replace hv : (bsL.map V.bl)[i]? = some v := hv
    rw [List.getElem?_map, hn] at hu
    rw [List.getElem?_map, hb] at hv
    cases hu
    cases hv
    have sT := same_upd (o := .tup [.str (clsN[i]'hi), .bl (bsL[i]'(by omega))]) nT
    have hz : (clsN.zip bsL)[i]? = some (clsN[i]'hi, bsL[i]'(by omega)) := by rw [List.getElem?_zip_eq_some]; exact ⟨hn, hb⟩
    refine ⟨T, _, rfl, .inl (.inl upd_same), rfl, _, _, rfl, _, _, rfl, rfl, ?_⟩
    generalize clsN[i]'hi = nm at *
    generalize bsL[i]'(by omega) = bb at *
    refine ⟨rfl, ?_⟩
    cases bb with
    | true =>
      refine ⟨_, rfl, _, rfl, iteT ?_⟩
      refine ⟨_, rfl, _, sT _ _ eF, ?_, fun y o e => ?_, ?_⟩
      · rw [List.length_map, List.length_map]
        refine Nat.lt_of_le_of_lt (List.length_filter_le _ _) ?_
        rw [List.length_take]
        exact Nat.lt_of_le_of_lt (Nat.min_le_left _ _) (small1000 (by omega))
      · rw [upd_ne (ne_of_none e nF)]
        exact sT _ _ (s9 _ _ e)
      · rw [upd_same, List.take_add_one, hz, List.filter_append, List.map_append, List.map_append]
        rfl
    | false =>
      refine ⟨_, rfl, _, rfl, iteF ⟨s9.trans sT, ?_⟩⟩
      rw [List.take_add_one, hz, List.filter_append]
      show _ = some (HO.lst (((_ ++ []).map _).map _))
      rw [List.append_nil]
      exact sT _ _ eF
  · rintro H9 ⟨s9, eF⟩
    rw [List.take_of_length_le (by rw [List.length_zip, lN, lB]; decide)] at eF
    exact q F H9 (wP.trans s9) (by
      cases e : H F with
      | none => rfl
      | some o =>
        rw [wP _ _ e] at nF
        cases nF) eF
end
section
variable {P : Program} {w : World} {K : PySem.W.Frag} {mg : Str → Option Value} {base : Heap}
variable {C : Addr} {za : Nat → Addr} {zl : Nat → FuncData} {E_NoWire I_NoWire E_NoName I_NoName E_Taken I_Taken E_BadForm E_BadText E_BadRow E_Unfit E_TooFew E_NoStep E_Undone E_Busy E_NoPlace E_NoDeed E_NoStage E_BadDeed E_TooMuch E_Stuck : Addr}
theorem exm_cons {K : PySem.W.Frag} {cls c : Value} {r : List Value} {b d : Bool} (h : PySem.W.exmOne K cls c = some b) (g : PySem.W.exmAny K cls r = some d) : PySem.W.exmAny K cls (c :: r) = some (b || d) := by
  show (match PySem.W.exmOne K cls c, PySem.W.exmAny K cls r with | some b, some d => some (b || d) | _, _ => none) = _
  rw [h, g]
theorem seq_cut {t u : TS} {D : Ends} {σ : L2.St} {H : Hp} (R : L2.St → Hp → Prop) (h : ∀ D' : Ends, (∀ σ' H', R σ' H' → D'.nx σ' H') → t D' σ H) (q : ∀ σ' H', R σ' H' → u D σ' H') : tSeq t u D σ H := h { D with nx := u D } q
theorem step1 {te : TE} {g : TG} {u : TS} {D : Ends} {σ : L2.St} {H : Hp} (h : te σ H fun x H1 => g x σ H1 (u D)) : tSeq (tAsg te g) u D σ H := h
/-! ### one ask that is refused -/
inductive Rf where
  | wire (w : Int)
  | name (n : Str)
  | took (n : Str)
def Rf.cl : Rf → List Str
  | .wire _ => ["NoWire", "IndexError"]
  | .name _ => ["NoName", "KeyError"]
  | .took _ => ["Taken", "LookupError"]
def Rf.what : Rf → PyData
  | .wire w => .int w
  | .name n => .str n
  | .took n => .str n
def Rf.due (r : Rf) : PyData := .tuple [.list (r.cl.map PyData.str), r.what]
def Ask (n : Nat) (nm : List Str) (h : Nat) (ws : List Int) (name : Str) (r : Rf) : Prop :=
  (h < 3 ∧ ∃ a b rest w, ws = a :: b :: rest ∧ bd n [a, b] = some w ∧ r = .wire w) ∨ (h = 3 ∧ ∃ a rest w, ws = a :: rest ∧ bd n [a] = some w ∧ r = .wire w) ∨ (h = 4 ∧ name ∈ nm ∧ r = .took name) ∨
  (h = 4 ∧ name ∉ nm ∧ ∃ w, bd n ws = some w ∧ r = .wire w) ∨ (h = 5 ∧ name ∉ nm ∧ r = .name name) ∨ (h = 6 ∧ ∃ a rest w, ws = a :: rest ∧ bd n [a] = some w ∧ r = .wire w)
def spAsk (K : PySem.W.Frag) (C : Addr) : Sp := fun vs H Q _ => ∃ (Z : List Addr) (p : NetP) (m : Nat) (gs : List Gt) (nm : List (Str × List Nat)) (h : Nat) (t : Addr) (ws : List Int) (name : Str) (r : Rf), vs = [.ref p.x, .int (h : Int), .ref t, .str name] ∧ NetAt C Z H p m gs nm ∧ H t = some (.lst (ws.map V.int)) ∧ Ask (m + gs.length) (nm.map (·.1)) h ws name r ∧
  ∀ R H', Same H H' → (∀ G, Same H' G → Dp K G (.ref R) r.due) → Q (.ref R) H'
theorem kit_NoWire (B : Bl mg) (L : LL K mg C za zl E_NoWire I_NoWire E_NoName I_NoName E_Taken I_Taken E_BadForm E_BadText E_BadRow E_Unfit E_TooFew E_NoStep E_Undone E_Busy E_NoPlace E_NoDeed E_NoStage E_BadDeed E_TooMuch E_Stuck) : KitAll K E_NoWire [E_BadForm, E_BadText, E_BadRow, E_Unfit, E_TooFew, E_NoStep, E_Undone, E_Busy, E_NoWire, E_NoPlace, E_NoDeed, E_NoName, E_NoStage, E_Taken, E_BadDeed, E_TooMuch, E_Stuck] [false, false, false, false, false, false, false, false, true, false, false, false, false, false, false, false, false] := ⟨rfl, rfl, fun i e b he hb => by
  match i, he, hb with
  | 0, he, hb =>
    cases he
    cases hb
    exact L.q_NoWire_BadForm
  | 1, he, hb =>
    cases he
    cases hb
    exact L.q_NoWire_BadText
  | 2, he, hb =>
    cases he
    cases hb
    exact L.q_NoWire_BadRow
  | 3, he, hb =>
    cases he
    cases hb
    exact L.q_NoWire_Unfit
  | 4, he, hb =>
    cases he
    cases hb
    exact L.q_NoWire_TooFew
  | 5, he, hb =>
    cases he
    cases hb
    exact L.q_NoWire_NoStep
  | 6, he, hb =>
    cases he
    cases hb
    exact L.q_NoWire_Undone
  | 7, he, hb =>
    cases he
    cases hb
    exact L.q_NoWire_Busy
  | 8, he, hb =>
    cases he
    cases hb
    exact L.q_NoWire_NoWire
  | 9, he, hb =>
    cases he
    cases hb
    exact L.q_NoWire_NoPlace
  | 10, he, hb =>
    cases he
    cases hb
    exact L.q_NoWire_NoDeed
  | 11, he, hb =>
    cases he
    cases hb
    exact L.q_NoWire_NoName
  | 12, he, hb =>
    cases he
    cases hb
    exact L.q_NoWire_NoStage
  | 13, he, hb =>
    cases he
    cases hb
    exact L.q_NoWire_Taken
  | 14, he, hb =>
    cases he
    cases hb
    exact L.q_NoWire_BadDeed
  | 15, he, hb =>
    cases he
    cases hb
    exact L.q_NoWire_TooMuch
  | 16, he, hb =>
    cases he
    cases hb
    exact L.q_NoWire_Stuck
  | i + 17, he, _ => exact nomatch he⟩
theorem kit_NoName (B : Bl mg) (L : LL K mg C za zl E_NoWire I_NoWire E_NoName I_NoName E_Taken I_Taken E_BadForm E_BadText E_BadRow E_Unfit E_TooFew E_NoStep E_Undone E_Busy E_NoPlace E_NoDeed E_NoStage E_BadDeed E_TooMuch E_Stuck) : KitAll K E_NoName [E_BadForm, E_BadText, E_BadRow, E_Unfit, E_TooFew, E_NoStep, E_Undone, E_Busy, E_NoWire, E_NoPlace, E_NoDeed, E_NoName, E_NoStage, E_Taken, E_BadDeed, E_TooMuch, E_Stuck] [false, false, false, false, false, false, false, false, false, false, false, true, false, false, false, false, false] := ⟨rfl, rfl, fun i e b he hb => by
  match i, he, hb with
  | 0, he, hb =>
    cases he
    cases hb
    exact L.q_NoName_BadForm
  | 1, he, hb =>
    cases he
    cases hb
    exact L.q_NoName_BadText
  | 2, he, hb =>
    cases he
    cases hb
    exact L.q_NoName_BadRow
  | 3, he, hb =>
    cases he
    cases hb
    exact L.q_NoName_Unfit
  | 4, he, hb =>
    cases he
    cases hb
    exact L.q_NoName_TooFew
  | 5, he, hb =>
    cases he
    cases hb
    exact L.q_NoName_NoStep
  | 6, he, hb =>
    cases he
    cases hb
    exact L.q_NoName_Undone
  | 7, he, hb =>
    cases he
    cases hb
    exact L.q_NoName_Busy
  | 8, he, hb =>
    cases he
    cases hb
    exact L.q_NoName_NoWire
  | 9, he, hb =>
    cases he
    cases hb
    exact L.q_NoName_NoPlace
  | 10, he, hb =>
    cases he
    cases hb
    exact L.q_NoName_NoDeed
  | 11, he, hb =>
    cases he
    cases hb
    exact L.q_NoName_NoName
  | 12, he, hb =>
    cases he
    cases hb
    exact L.q_NoName_NoStage
  | 13, he, hb =>
    cases he
    cases hb
    exact L.q_NoName_Taken
  | 14, he, hb =>
    cases he
    cases hb
    exact L.q_NoName_BadDeed
  | 15, he, hb =>
    cases he
    cases hb
    exact L.q_NoName_TooMuch
  | 16, he, hb =>
    cases he
    cases hb
    exact L.q_NoName_Stuck
  | i + 17, he, _ => exact nomatch he⟩
theorem kit_Taken (B : Bl mg) (L : LL K mg C za zl E_NoWire I_NoWire E_NoName I_NoName E_Taken I_Taken E_BadForm E_BadText E_BadRow E_Unfit E_TooFew E_NoStep E_Undone E_Busy E_NoPlace E_NoDeed E_NoStage E_BadDeed E_TooMuch E_Stuck) : KitAll K E_Taken [E_BadForm, E_BadText, E_BadRow, E_Unfit, E_TooFew, E_NoStep, E_Undone, E_Busy, E_NoWire, E_NoPlace, E_NoDeed, E_NoName, E_NoStage, E_Taken, E_BadDeed, E_TooMuch, E_Stuck] [false, false, false, false, false, false, false, false, false, false, false, false, false, true, false, false, false] := ⟨rfl, rfl, fun i e b he hb => by
  match i, he, hb with
  | 0, he, hb =>
    cases he
    cases hb
    exact L.q_Taken_BadForm
  | 1, he, hb =>
    cases he
    cases hb
    exact L.q_Taken_BadText
  | 2, he, hb =>
    cases he
    cases hb
    exact L.q_Taken_BadRow
  | 3, he, hb =>
    cases he
    cases hb
    exact L.q_Taken_Unfit
  | 4, he, hb =>
    cases he
    cases hb
    exact L.q_Taken_TooFew
  | 5, he, hb =>
    cases he
    cases hb
    exact L.q_Taken_NoStep
  | 6, he, hb =>
    cases he
    cases hb
    exact L.q_Taken_Undone
  | 7, he, hb =>
    cases he
    cases hb
    exact L.q_Taken_Busy
  | 8, he, hb =>
    cases he
    cases hb
    exact L.q_Taken_NoWire
  | 9, he, hb =>
    cases he
    cases hb
    exact L.q_Taken_NoPlace
  | 10, he, hb =>
    cases he
    cases hb
    exact L.q_Taken_NoDeed
  | 11, he, hb =>
    cases he
    cases hb
    exact L.q_Taken_NoName
  | 12, he, hb =>
    cases he
    cases hb
    exact L.q_Taken_NoStage
  | 13, he, hb =>
    cases he
    cases hb
    exact L.q_Taken_Taken
  | 14, he, hb =>
    cases he
    cases hb
    exact L.q_Taken_BadDeed
  | 15, he, hb =>
    cases he
    cases hb
    exact L.q_Taken_TooMuch
  | 16, he, hb =>
    cases he
    cases hb
    exact L.q_Taken_Stuck
  | i + 17, he, _ => exact nomatch he⟩
theorem rep_b (x : V) (b : Bool) : (List.replicate (((if b = true then (1 : Int) else 0)).toNat) [x]).flatten = if b = true then [x] else [] := by
  cases b <;> rfl
theorem ok__law_asked (B : Bl mg) (L : LL K mg C za zl E_NoWire I_NoWire E_NoName I_NoName E_Taken I_Taken E_BadForm E_BadText E_BadRow E_Unfit E_TooFew E_NoStep E_Undone E_Busy E_NoPlace E_NoDeed E_NoStage E_BadDeed E_TooMuch E_Stuck) : FnOk P w K mg base CX0 8 (za 9) (zl 9) ["_law_net", "_law_how", "_law_wires", "_law_name"] (spAsk K C) := by
  have GX__law_two : FnOk P w K mg base (L2.CX P w) 7 (za 8) (zl 8) ["_law_net", "_law_how", "_law_wires"] (spTwoX C E_NoWire) := (okX__law_two B L).mono (by decide)
  have GX_Net_other : FnOk P w K mg base (L2.CX P w) 7 (za 17) (zl 17) ["self", "a"] (spG1X C E_NoWire) := (okX_Net_other B L).mono (by decide)
  have GX_Net_give : FnOk P w K mg base (L2.CX P w) 7 (za 22) (zl 22) ["self", "name", "wires"] (spGiveX K C E_NoWire E_Taken) := (okX_Net_give B L).mono (by decide)
  have GX_Net_given : FnOk P w K mg base (L2.CX P w) 7 (za 23) (zl 23) ["self", "name"] (spGivenX C E_NoName) := (okX_Net_given B L).mono (by decide)
  have GX_Net_depth : FnOk P w K mg base (L2.CX P w) 7 (za 27) (zl 27) ["self", "wire"] (spG1X C E_NoWire) := (okX_Net_depth B L).mono (by decide)
  have G__law_classes : FnOk P w K mg base CX0 7 (za 4) (zl 4) ["_law_caught"] (spCls K [E_BadForm, E_BadText, E_BadRow, E_Unfit, E_TooFew, E_NoStep, E_Undone, E_Busy, E_NoWire, E_NoPlace, E_NoDeed, E_NoName, E_NoStage, E_Taken, E_BadDeed, E_TooMuch, E_Stuck]) := (ok__law_classes B L).mono (by decide)
  refine L.F__law_asked.ok sc__law_asked (fun vs H Q E h => ?_) (fun cdv A outer s H vs Q E hr h => ?_)
  · obtain ⟨Z, p, m, gs, nm, h, t, ws, name, r, rfl, _⟩ := h
    rfl
  obtain ⟨Z, p, m, gs, nm, hw, t, ws, name, r, rfl, hN, hT, hA, q⟩ := h
  refine ⟨_, (pss_cons (ps_set (i := 4) sc__law_asked.nd rfl (.inl rfl) pe_non)
    (pss_cons (ps_try_keepT (cs := [.ref E_NoWire, .ref E_NoName, .ref E_Taken]) (i := 5) rfl rfl rfl sc__law_asked.nd rfl rfl (.cons ⟨rfl, by decide, Or.inl L.g_NoWire⟩ (.cons ⟨rfl, by decide, Or.inl L.g_NoName⟩ (.cons ⟨rfl, by decide, Or.inl L.g_Taken⟩ .nil))) (by show 3 ≤ 100; decide) (fun W pn xe tk _ => pss_one (ps_if (pt_cmpR op_lt (pv 1) pe_int (nomark _)) (pss_one (ps_expr (pe_callS GX__law_two hr rfl L.m__law_two L.F__law_two.kp L.b__law_two (E := WE W) (fun σ => passAt tk σ) (pa_cons (pv 0) (pa_cons (pv 1) (pa_cons (pv 2) pa_nil)))))) (pss_one (ps_if (pt_cmpR op_eq (pv 1) pe_int (nomark _)) (pss_one (ps_expr (pe_methAS (pv 0) L.T.cl L.M_Net_other GX_Net_other hr L.b_Net_other (E := WE W) (fun σ => passAt tk σ) (pa_cons (pe_ix (ix_listK (K := K)) (pv 2) pe_int (fun _ _ => rfl)) pa_nil)))) (pss_one (ps_if (pt_cmpR op_eq (pv 1) pe_int (nomark _)) (pss_one (ps_expr (pe_methAS (pv 0) L.T.cl L.M_Net_give GX_Net_give hr L.b_Net_give (E := WE W) (fun σ => passAt tk σ) (pa_cons (pv 3) (pa_cons (pv 2) pa_nil))))) (pss_one (ps_if (pt_cmpR op_eq (pv 1) pe_int (nomark _)) (pss_one (ps_expr (pe_methAS (pv 0) L.T.cl L.M_Net_given GX_Net_given hr L.b_Net_given (E := WE W) (fun σ => passAt tk σ) (pa_cons (pv 3) pa_nil)))) (pss_one (ps_expr (pe_methAS (pv 0) L.T.cl L.M_Net_depth GX_Net_depth hr L.b_Net_depth (E := WE W) (fun σ => passAt tk σ) (pa_cons (pe_ix (ix_listK (K := K)) (pv 2) pe_int (fun _ _ => rfl)) pa_nil)))))))))))) (fun a oe cls d pn hz hf => pss_one (ps_set (i := 4) sc__law_asked.nd rfl (Or.inl rfl) (pv 5))))
    (pss_cons (ps_if (pt_cmpR op_isN (pv 4) pe_non (nomark _)) (pss_one (ps_ret pe_non)) pss_nil)
    (pss_cons (ps_set (i := 6) sc__law_asked.nd rfl (.inl rfl) (pe_op op_cat (pe_op op_rep (pe_lst (pa_cons pe_str pa_nil)) (pe_callTy call_int1 (by rfl) B.int PyProof.Rows.boot_int (pa_cons (pe_callB call_isW (by rfl) B.isinstance boot_isinstance (pa_cons (pv 4) (pa_cons (pe_bltn (v := .ty "IndexError") (by rfl) L.z_IndexError (by decide +kernel) rfl) pa_nil))) pa_nil))) (pe_op op_rep (pe_lst (pa_cons pe_str pa_nil)) (pe_callTy call_int1 (by rfl) B.int PyProof.Rows.boot_int (pa_cons (pe_callB call_isW (by rfl) B.isinstance boot_isinstance (pa_cons (pv 4) (pa_cons (pe_bltn (v := .ty "KeyError") (by rfl) L.z_KeyError (by decide +kernel) rfl) pa_nil))) pa_nil)))))
    (pss_cons (ps_set (i := 6) sc__law_asked.nd rfl (.inl rfl) (pe_op op_cat (pv 6) (pe_op op_rep (pe_lst (pa_cons pe_str pa_nil)) (pe_callTy call_int1 (by rfl) B.int PyProof.Rows.boot_int (pa_cons (pe_and (pe_cmpR (op_eqPl hr.units) (pv 6) (pe_lst pa_nil) (nomark _)) (pe_one (pe_callB call_isW (by rfl) B.isinstance boot_isinstance (pa_cons (pv 4) (pa_cons (pe_bltn (v := .ty "LookupError") (by rfl) L.z_LookupError (by decide +kernel) rfl) pa_nil))))) pa_nil)))))
    (pss_one (ps_ret (pe_tup (pa_cons (pe_op op_cat (pe_call G__law_classes hr (by rfl) L.m__law_classes L.F__law_classes.kp L.b__law_classes .nil pass0 (pa_cons (pv 4) pa_nil)) (pv 6)) (pa_cons (pe_what (pv 4)) pa_nil)))))))))), ?_⟩
  obtain ⟨hz, _, _, dx, _, _, e1, _⟩ := id hN
  refine step1 ?_
  show gName 4 .non _ _ _
  dsimp only [gName]
  try simp only [L2.start, List.map_cons, List.map_nil, List.length_cons, List.length_nil, List.replicate_succ, List.replicate_zero, List.cons_append, List.nil_append, List.set_cons_succ, List.set_cons_zero, Nat.reduceAdd, Nat.reduceSub, Nat.zero_add]
  refine seq_cut (fun σ' H' => ∃ (a' : Addr), σ' = [some (.ref p.x), some (.int (hw : Int)), some (.ref t), some (.str name), some (.ref a'), none, none] ∧ Same H H' ∧ EkAt H' a' (match r with | .wire _ => E_NoWire | .name _ => E_NoName | .took _ => E_Taken) (match r with | .wire w => .int w | .name n => .str n | .took n => .str n)) (fun D' q' => ?_) ?_
  · have fin : ∀ (c : Addr) (v : V), PySem.W.exmAny K (.ref c) [.ref E_NoWire, .ref E_NoName, .ref E_Taken] = some true → (∀ a' G, Same H G → EkAt G a' c v → D'.nx [some (.ref p.x), some (.int (hw : Int)), some (.ref t), some (.str name), some (.ref a'), none, none] G) →
        Let (WE (wKpT K [.ref E_NoWire, .ref E_NoName, .ref E_Taken] 5 (fun a cls d => tAsg (tVar 5) (gName 4)) D') [some (.ref p.x), some (.int (hw : Int)), some (.ref t), some (.str name), some .non, none, none]) H c v := by
      intro c v hx hq d H2 s2 nd
      refine ⟨hx, fun a' na => ?_⟩
      refine ⟨_, rfl, ?_⟩
      have nad : a' ≠ d := fun z => by
        rw [z, upd_same] at na
        cases na
      have ek : EkAt (upd (upd H2 d (.xd [(("what" : Str), v)])) a' (Exk a' (.ref c) (some d))) a' c v := ⟨d, upd_same, by rw [upd_ne nad.symm, upd_same]⟩
      have s3 : Same H2 (upd (upd H2 d (.xd [(("what" : Str), v)])) a' (Exk a' (.ref c) (some d))) := (same_upd nd).trans (same_upd na)
      exact hq a' _ (s2.trans s3) ek
    have xW := exm_cons L.x_NoWire (exm_cons L.y_NoWire_NoName (exm_cons L.y_NoWire_Taken (rfl : PySem.W.exmAny K (.ref E_NoWire) [] = some false)))
    have xN := exm_cons L.y_NoName_NoWire (exm_cons L.x_NoName (exm_cons L.y_NoName_Taken (rfl : PySem.W.exmAny K (.ref E_NoName) [] = some false)))
    have xT := exm_cons L.y_Taken_NoWire (exm_cons L.y_Taken_NoName (exm_cons L.x_Taken (rfl : PySem.W.exmAny K (.ref E_Taken) [] = some false)))
    rcases hA with ⟨h3, a, b, rest, w, rfl, hw', rfl⟩ | ⟨rfl, a, rest, w, rfl, hw', rfl⟩ | ⟨rfl, hn, rfl⟩ | ⟨rfl, hn, w, hw', rfl⟩ | ⟨rfl, hn, rfl⟩ | ⟨rfl, a, rest, w, rfl, hw', rfl⟩
    · refine ⟨_, rfl, _, _, rfl, rfl, _, rfl, ?_⟩
      rw [decide_eq_true (show (hw : Int) < 3 by omega)]
      refine iteT ?_
      exact ⟨_, rfl, _, rfl, _, rfl, Z, p, m, gs, nm, hw, t, a, b, w, rest, rfl, hN, h3, hT, hw', fin _ _ xW fun a' G s ek => q' _ _ ⟨a', rfl, s, ek⟩⟩
    all_goals refine ⟨_, rfl, _, _, rfl, rfl, _, rfl, iteF ?_⟩
    · refine ⟨_, rfl, rfl, _, rfl, iteT ?_⟩
      exact ⟨_, rfl, p.x, dx, _, rfl, e1, rfl, _, rfl, t, _, _, _, rfl, rfl, SqL.of hT, atI_nat (j := 0) rfl, Z, p, m, gs, nm, a, w, rfl, hN, hw', fin _ _ xW fun a' G s ek => q' _ _ ⟨a', rfl, s, ek⟩⟩
    · refine ⟨_, rfl, rfl, _, rfl, iteF ?_⟩
      refine ⟨_, rfl, rfl, _, rfl, iteT ?_⟩
      exact ⟨_, rfl, p.x, dx, _, rfl, e1, rfl, _, rfl, _, rfl, Z, p, m, gs, nm, name, t, ws, rfl, hN, .inl ⟨hn, fin _ _ xT fun a' G s ek => q' _ _ ⟨a', rfl, s, ek⟩⟩⟩
    · refine ⟨_, rfl, rfl, _, rfl, iteF ?_⟩
      refine ⟨_, rfl, rfl, _, rfl, iteT ?_⟩
      exact ⟨_, rfl, p.x, dx, _, rfl, e1, rfl, _, rfl, _, rfl, Z, p, m, gs, nm, name, t, ws, rfl, hN, .inr ⟨hn, .inl (SqL.of hT), w, hw', fin _ _ xW fun a' G s ek => q' _ _ ⟨a', rfl, s, ek⟩⟩⟩
    · refine ⟨_, rfl, rfl, _, rfl, iteF ?_⟩
      refine ⟨_, rfl, rfl, _, rfl, iteF ?_⟩
      refine ⟨_, rfl, rfl, _, rfl, iteT ?_⟩
      exact ⟨_, rfl, p.x, dx, _, rfl, e1, rfl, _, rfl, Z, p, m, gs, nm, name, rfl, hN, hn, fin _ _ xN fun a' G s ek => q' _ _ ⟨a', rfl, s, ek⟩⟩
    · refine ⟨_, rfl, rfl, _, rfl, iteF ?_⟩
      refine ⟨_, rfl, rfl, _, rfl, iteF ?_⟩
      refine ⟨_, rfl, rfl, _, rfl, iteF ?_⟩
      exact ⟨_, rfl, p.x, dx, _, rfl, e1, rfl, _, rfl, t, _, _, _, rfl, rfl, SqL.of hT, atI_nat (j := 0) rfl, Z, p, m, gs, nm, a, w, rfl, hN, hw', fin _ _ xW fun a' G s ek => q' _ _ ⟨a', rfl, s, ek⟩⟩
  · rintro _ H1 ⟨a', rfl, s1, ek⟩
    obtain ⟨c, v, bi, bk, bl, bs, ek, hC, hi, hk, hl, hA2, hcl, hv⟩ : ∃ (c : Addr) (v : V) (bi bk bl : Bool) (bs : List Bool), EkAt H1 a' c v ∧ PySem.WhX.ErrC K c ∧ PySem.W.kitOne K (.ref c) (.type "IndexError") = some bi ∧ PySem.W.kitOne K (.ref c) (.type "KeyError") = some bk ∧ PySem.W.kitOne K (.ref c) (.type "LookupError") = some bl ∧ KitAll K c [E_BadForm, E_BadText, E_BadRow, E_Unfit, E_TooFew, E_NoStep, E_Undone, E_Busy, E_NoWire, E_NoPlace, E_NoDeed, E_NoName, E_NoStage, E_Taken, E_BadDeed, E_TooMuch, E_Stuck] bs ∧
        pick bs ++ (((if bi = true then [("IndexError" : Str)] else []) ++ (if bk = true then [("KeyError" : Str)] else [])) ++ (if (!bi && !bk && bl) = true then [("LookupError" : Str)] else [])) = r.cl ∧ ∀ G, Dp K G v r.what := by
      cases r with
      | wire w => exact ⟨E_NoWire, _, true, false, true, [false, false, false, false, false, false, false, false, true, false, false, false, false, false, false, false, false], ek, L.R_NoWire.toErrC, L.q_NoWire_IndexError, L.q_NoWire_KeyError, L.q_NoWire_LookupError, kit_NoWire B L, (by show pick _ ++ _ = ([("NoWire" : Str), "IndexError"] : List Str); decide +kernel), fun G => .int _⟩
      | name n => exact ⟨E_NoName, _, false, true, true, [false, false, false, false, false, false, false, false, false, false, false, true, false, false, false, false, false], ek, L.R_NoName.toErrC, L.q_NoName_IndexError, L.q_NoName_KeyError, L.q_NoName_LookupError, kit_NoName B L, (by show pick _ ++ _ = ([("NoName" : Str), "KeyError"] : List Str); decide +kernel), fun G => .str _⟩
      | took n => exact ⟨E_Taken, _, false, false, true, [false, false, false, false, false, false, false, false, false, false, false, false, false, true, false, false, false], ek, L.R_Taken.toErrC, L.q_Taken_IndexError, L.q_Taken_KeyError, L.q_Taken_LookupError, kit_Taken B L, (by show pick _ ++ _ = ([("Taken" : Str), "LookupError"] : List Str); decide +kernel), fun G => .str _⟩
    refine ⟨_, rfl, rfl, _, rfl, iteF ?_⟩
    try dsimp only [tNext]
    refine step1 ?_
    refine ⟨(by show 1 ≤ sizeLine; decide), fun L1 nL1 => ?_⟩
    have sL1 := same_upd (o := .lst [.str "IndexError"]) nL1
    have eL1 : (upd H1 L1 (.lst [.str "IndexError"])) L1 = some (.lst [.str "IndexError"]) := upd_same
    replace ek := ekGo ek sL1
    have w1 := s1.trans sL1
    generalize upd H1 L1 (.lst [.str "IndexError"]) = H2 at *
    refine ⟨_, rfl, a', c, _, _, .type "IndexError", bi, rfl, hC, ek, .ty _, hi, .inr ⟨_, rfl, ?_⟩⟩
    refine ⟨L1, _, _, rfl, rfl, eL1, (by cases bi <;> decide), (by cases bi <;> decide), (by cases bi <;> decide), fun RL1 nRL1 => ?_⟩
    rw [rep_b]
    have sRL1 := same_upd (o := .lst (if bi = true then [V.str "IndexError"] else [])) nRL1
    have eRL1 : (upd H2 RL1 (.lst (if bi = true then [V.str "IndexError"] else []))) RL1 = some (.lst (if bi = true then [V.str "IndexError"] else [])) := upd_same
    replace ek := ekGo ek sRL1
    have w2 := w1.trans sRL1
    generalize upd H2 RL1 (.lst (if bi = true then [V.str "IndexError"] else [])) = H3 at *
    refine ⟨(by show 1 ≤ sizeLine; decide), fun L2' nL2 => ?_⟩
    have sL2 := same_upd (o := .lst [.str "KeyError"]) nL2
    have eL2' : (upd H3 L2' (.lst [.str "KeyError"])) L2' = some (.lst [.str "KeyError"]) := upd_same
    replace ek := ekGo ek sL2
    have w3 := w2.trans sL2
    have eR1a := sL2 _ _ eRL1
    generalize upd H3 L2' (.lst [.str "KeyError"]) = H4 at *
    refine ⟨_, rfl, a', c, _, _, .type "KeyError", bk, rfl, hC, ek, .ty _, hk, .inr ⟨_, rfl, ?_⟩⟩
    refine ⟨L2', _, _, rfl, rfl, eL2', (by cases bk <;> decide), (by cases bk <;> decide), (by cases bk <;> decide), fun RL2' nRL2' => ?_⟩
    rw [rep_b]
    have sRL2' := same_upd (o := .lst (if bk = true then [V.str "KeyError"] else [])) nRL2'
    have eRL2' : (upd H4 RL2' (.lst (if bk = true then [V.str "KeyError"] else []))) RL2' = some (.lst (if bk = true then [V.str "KeyError"] else [])) := upd_same
    replace ek := ekGo ek sRL2'
    have w4 := w3.trans sRL2'
    have eR1b := sRL2' _ _ eR1a
    generalize upd H4 RL2' (.lst (if bk = true then [V.str "KeyError"] else [])) = H5 at *
    refine ⟨RL1, RL2', _, _, rfl, rfl, eR1b, eRL2', (by cases bi <;> cases bk <;> decide), fun B1 nB1 => ?_⟩
    obtain ⟨xs0, hx0⟩ : ∃ xs0 : List Str, xs0 = (if bi = true then [("IndexError" : Str)] else []) ++ (if bk = true then [("KeyError" : Str)] else []) := ⟨_, rfl⟩
    have ex0 : ((if bi = true then [V.str "IndexError"] else []) ++ (if bk = true then [V.str "KeyError"] else [])) = xs0.map V.str := by
      rw [hx0]
      cases bi <;> cases bk <;> rfl
    rw [← hx0] at hcl
    show gName 6 (.ref B1) _ (upd H5 B1 (.lst ((if bi = true then [V.str "IndexError"] else []) ++ (if bk = true then [V.str "KeyError"] else [])))) _
    rw [ex0]
    have eqE : PyData.eqv (.list (xs0.map PyData.str)) (.list []) = (!bi && !bk) := by
      rw [hx0]
      cases bi <;> cases bk <;> rfl
    have plE : (PyData.list (xs0.map PyData.str)).plain = true ∧ (PyData.list (xs0.map PyData.str)).depth ≤ 64 := pl_list fun d hd => by
      obtain ⟨x, _, rfl⟩ := List.mem_map.mp hd
      exact ⟨rfl, by simp [PyData.depth]⟩
    have lx0 : xs0.length ≤ 2 := by
      rw [hx0]
      cases bi <;> cases bk <;> decide
    clear ex0 hx0
    have sB1 := same_upd (o := .lst (xs0.map V.str)) nB1
    have eB1 : (upd H5 B1 (.lst (xs0.map V.str))) B1 = some (.lst (xs0.map V.str)) := upd_same
    replace ek := ekGo ek sB1
    have w5 := w4.trans sB1
    generalize upd H5 B1 (.lst (xs0.map V.str)) = H6 at *
    dsimp only [gName]
    try simp only [L2.start, List.map_cons, List.map_nil, List.length_cons, List.length_nil, List.replicate_succ, List.replicate_zero, List.cons_append, List.nil_append, List.set_cons_succ, List.set_cons_zero, Nat.reduceAdd, Nat.reduceSub, Nat.zero_add]
    refine step1 ?_
    refine ⟨_, rfl, (by show 1 ≤ sizeLine; decide), fun L3 nL3 => ?_⟩
    have sL3 := same_upd (o := .lst [.str "LookupError"]) nL3
    have eL3 : (upd H6 L3 (.lst [.str "LookupError"])) L3 = some (.lst [.str "LookupError"]) := upd_same
    replace ek := ekGo ek sL3
    have w6 := w5.trans sL3
    have eB1a := sL3 _ _ eB1
    generalize upd H6 L3 (.lst [.str "LookupError"]) = H7 at *
    refine and_ev (fun z H' => z = .bl ((!bi && !bk) && bl) ∧ Same H7 H') (fun Q' hQ => ?_) ?_
    · refine ⟨_, rfl, Nat.zero_le _, fun EE nEE => ?_⟩
      have sE := same_upd (o := .lst []) nEE
      refine ⟨.list (xs0.map PyData.str), .list [], .lst (SqL.of (sE _ _ eB1a)) (dpa_strs xs0), .lst (SqL.of upd_same) .nil, plE.1, rfl, plE.2, ?_⟩
      rw [eqE]
      cases hE : (!bi && !bk) with
      | true =>
        refine ⟨_, rfl, iteT ?_⟩
        refine ⟨_, rfl, a', c, _, _, .type "LookupError", bl, rfl, hC, ekGo ek sE, .ty _, hl, ?_⟩
        exact hQ _ _ ⟨by rw [hE]; rfl, sE⟩
      | false =>
        refine ⟨_, rfl, iteF ?_⟩
        exact hQ _ _ ⟨by rw [hE]; rfl, sE⟩
    · rintro z H8 ⟨rfl, s8⟩
      obtain ⟨b3, hb3⟩ : ∃ b3, b3 = (!bi && !bk && bl) := ⟨_, rfl⟩
      rw [← hb3] at hcl ⊢
      replace ek := ekGo ek s8
      have w7 := w6.trans s8
      have eL3a := s8 _ _ eL3
      have eB1b := s8 _ _ eB1a
      refine .inr ⟨_, rfl, ?_⟩
      refine ⟨L3, _, _, rfl, rfl, eL3a, (by cases b3 <;> decide), (by cases b3 <;> decide), (by cases b3 <;> decide), fun RL3 nRL3 => ?_⟩
      rw [rep_b]
      have sR3 := same_upd (o := .lst (if b3 = true then [V.str "LookupError"] else [])) nRL3
      have eR3 : (upd H8 RL3 (.lst (if b3 = true then [V.str "LookupError"] else []))) RL3 = some (.lst (if b3 = true then [V.str "LookupError"] else [])) := upd_same
      replace ek := ekGo ek sR3
      have w8 := w7.trans sR3
      have eB1c := sR3 _ _ eB1b
      generalize upd H8 RL3 (.lst (if b3 = true then [V.str "LookupError"] else [])) = H9 at *
      refine ⟨B1, RL3, _, _, rfl, rfl, eB1c, eR3, (by rw [List.length_map]; refine Nat.le_trans (Nat.add_le_add lx0 (show _ ≤ 1 by cases b3 <;> decide)) (by decide)), fun B2 nB2 => ?_⟩
      obtain ⟨xs1, hx1⟩ : ∃ xs1 : List Str, xs1 = xs0 ++ (if b3 = true then [("LookupError" : Str)] else []) := ⟨_, rfl⟩
      have ex1 : (xs0.map V.str ++ (if b3 = true then [V.str "LookupError"] else [])) = xs1.map V.str := by
        rw [hx1, List.map_append]
        cases b3 <;> rfl
      rw [← hx1] at hcl
      have lx1 : xs1.length ≤ 3 := by
        rw [hx1, List.length_append]
        have : (if b3 = true then [("LookupError" : Str)] else []).length ≤ 1 := by cases b3 <;> decide
        omega
      show gName 6 (.ref B2) _ (upd H9 B2 (.lst (xs0.map V.str ++ (if b3 = true then [V.str "LookupError"] else [])))) _
      rw [ex1]
      clear ex1 hx1
      have sB2 := same_upd (o := .lst (xs1.map V.str)) nB2
      have eB2 : (upd H9 B2 (.lst (xs1.map V.str))) B2 = some (.lst (xs1.map V.str)) := upd_same
      replace ek := ekGo ek sB2
      have w9 := w8.trans sB2
      generalize upd H9 B2 (.lst (xs1.map V.str)) = H10 at *
      dsimp only [gName]
      try simp only [L2.start, List.map_cons, List.map_nil, List.length_cons, List.length_nil, List.replicate_succ, List.replicate_zero, List.cons_append, List.nil_append, List.set_cons_succ, List.set_cons_zero, Nat.reduceAdd, Nat.reduceSub, Nat.zero_add]
      refine ⟨_, rfl, a', c, v, bs, rfl, ek, hC, hA2, fun D11 H11 s11 nD11 eD11 => ?_⟩
      have lp : (pick bs).length ≤ 17 := by
        unfold pick
        rw [List.length_map]
        refine Nat.le_trans (List.length_filter_le _ _) ?_
        rw [List.length_zip]
        exact Nat.min_le_left _ _
      refine ⟨_, rfl, D11, B2, _, _, rfl, rfl, eD11, s11 _ _ eB2, (by rw [List.length_map, List.length_map]; exact Nat.le_trans (Nat.add_le_add lp lx1) (by decide)), fun D12 nD12 => ?_⟩
      rw [← List.map_append, hcl]
      have s12 := same_upd (o := .lst (r.cl.map V.str)) nD12
      have e12 : (upd H11 D12 (.lst (r.cl.map V.str))) D12 = some (.lst (r.cl.map V.str)) := upd_same
      replace ek := ekGo (ekGo ek s11) s12
      have w10 := (w9.trans s11).trans s12
      generalize upd H11 D12 (.lst (r.cl.map V.str)) = H12 at *
      refine ⟨_, rfl, a', c, _, rfl, hC, ek, (by show 2 ≤ sizeLine; decide), fun TT nTT => ?_⟩
      have sTT := same_upd (o := .tup [.ref D12, v]) nTT
      have e13 := sTT _ _ e12
      have eTT : (upd H12 TT (.tup [.ref D12, v])) TT = some (.tup [.ref D12, v]) := upd_same
      generalize upd H12 TT (.tup [.ref D12, v]) = H13 at *
      exact q TT _ (w10.trans sTT) fun G sG => .tup (SqT.of (sG _ _ eTT)) (.cons (.lst (SqL.of (sG _ _ e13)) (dpa_strs _)) (.cons (hv G) .nil))
end
section
variable {P : Program} {w : World} {K : PySem.W.Frag} {mg : Str → Option Value} {base : Heap}
variable {C : Addr} {za : Nat → Addr} {zl : Nat → FuncData} {E_NoWire I_NoWire E_NoName I_NoName E_Taken I_Taken E_BadForm E_BadText E_BadRow E_Unfit E_TooFew E_NoStep E_Undone E_Busy E_NoPlace E_NoDeed E_NoStage E_BadDeed E_TooMuch E_Stuck : Addr}
/-! ### a number of no wire -/
def spStrange : Sp := fun vs H Q _ => ∃ (b : Addr) (c : Int) (n : Nat), vs = [.ref b, .int (n : Int)] ∧ BoxAt c H b ∧ c ≤ 900000000 ∧ n ≤ 900 ∧
  ∀ (r : Int) (H' : Hp), ¬ (0 ≤ r ∧ r < (n : Int)) → BoxAt (c + 3) H' b → Keep b H H' → Q (.int r) H'
theorem ok__law_strange (B : Bl mg) (L : LL K mg C za zl E_NoWire I_NoWire E_NoName I_NoName E_Taken I_Taken E_BadForm E_BadText E_BadRow E_Unfit E_TooFew E_NoStep E_Undone E_Busy E_NoPlace E_NoDeed E_NoStage E_BadDeed E_TooMuch E_Stuck) : FnOk P w K mg base CX0 2 (za 10) (zl 10) ["_law_box_here", "_law_there"] spStrange := by
  have G__law_take : FnOk P w K mg base CX0 1 (za 2) (zl 2) ["_law_box_here", "_law_size"] (spTake 1) := (ok_take L.F__law_take L.b__law_take L.m__law_take B 1).mono (by decide)
  refine L.F__law_strange.ok sc__law_strange (fun vs H Q E h => ?_) (fun cdv A outer s H vs Q E hr h => ?_)
  · obtain ⟨b, c, n, rfl, _⟩ := h
    rfl
  obtain ⟨b, c, n, rfl, hB, hc, hn, q⟩ := h
  refine ⟨_, (pss_one (ps_ret (pe_ix ix_list (pe_lst (pa_cons (pv 1) (pa_cons (pe_op op_add (pe_op op_add (pv 1) pe_int) (pe_call G__law_take hr (by rfl) L.m__law_take L.F__law_take.kp L.b__law_take .nil pass0 (pa_cons (pv 0) (pa_cons pe_int pa_nil)))) (pa_cons (pe_un un_neg pe_int) (pa_cons (pe_op op_sub (pe_un un_neg pe_int) (pe_call G__law_take hr (by rfl) L.m__law_take L.F__law_take.kp L.b__law_take .nil pass0 (pa_cons (pv 0) (pa_cons pe_int pa_nil)))) (pa_cons (pe_op op_pow pe_int pe_int) pa_nil)))))) (pe_call G__law_take hr (by rfl) L.m__law_take L.F__law_take.kp L.b__law_take .nil pass0 (pa_cons (pv 0) (pa_cons pe_int pa_nil))) (fun _ _ => rfl)))), ?_⟩
  refine ⟨_, rfl, _, rfl, _, _, rfl, rfl, _, rfl, b, _, _, rfl, hB, by decide, by decide, by decide, by omega, by decide, fun r1 H1 u1 v1 B1 k1 => ?_⟩
  replace B1 := bx1 B1
  refine ⟨_, _, rfl, rfl, _, rfl, _, rfl, _, rfl, b, _, _, rfl, B1, by decide, by decide, by decide, by omega, by decide, fun r2 H2 u2 v2 B2 k2 => ?_⟩
  replace B2 := bx1 B2
  refine ⟨_, _, rfl, rfl, _, _, rfl, rfl, ⟨by decide, by decide, by decide⟩, (by show 5 ≤ sizeLine; decide), fun D nD => ?_⟩
  have sD := same_upd (o := .lst [.int (n : Int), .int ((n : Int) + 1 + r1), .int (-1), .int (-1 - r2), .int (10 ^ (6 : Int).toNat)]) nD
  have eD : (upd H2 D (.lst [.int (n : Int), .int ((n : Int) + 1 + r1), .int (-1), .int (-1 - r2), .int (10 ^ (6 : Int).toNat)])) D = some (.lst [.int (n : Int), .int ((n : Int) + 1 + r1), .int (-1), .int (-1 - r2), .int (10 ^ (6 : Int).toNat)]) := upd_same
  have nDb : D ≠ b := (B2.ne nD).symm
  have B3 := B2.same sD
  have k3 := (k1.trans k2).trans (Keep.ofSame sD)
  show tCall (spTake 1) [] E0 _ _ (upd H2 D (.lst [.int (n : Int), .int ((n : Int) + 1 + r1), .int (-1), .int (-1 - r2), .int (10 ^ (6 : Int).toNat)])) _
  generalize upd H2 D (.lst [.int (n : Int), .int ((n : Int) + 1 + r1), .int (-1), .int (-1 - r2), .int (10 ^ (6 : Int).toNat)]) = H3 at *
  refine ⟨_, rfl, b, _, _, rfl, B3, by decide, by decide, by decide, by omega, by decide, fun r3 H4 u3 v3 B4 k4 => ?_⟩
  replace B4 := bx1 B4
  obtain ⟨r, hr, nr⟩ : ∃ r : Int, atI ([.int (n : Int), .int ((n : Int) + 1 + r1), .int (-1), .int (-1 - r2), .int (10 ^ (6 : Int).toNat)] : List V) r3 = some (.int r) ∧ ¬ (0 ≤ r ∧ r < (n : Int)) := by
    have c5 : r3 = 0 ∨ r3 = 1 ∨ r3 = 2 ∨ r3 = 3 ∨ r3 = 4 := by omega
    rcases c5 with z | z | z | z | z <;> subst z
    · exact ⟨_, rfl, by omega⟩
    · exact ⟨_, rfl, by omega⟩
    · exact ⟨_, rfl, by omega⟩
    · exact ⟨_, rfl, by omega⟩
    · exact ⟨10 ^ (6 : Int).toNat, rfl, by
        have : (10 : Int) ^ (6 : Int).toNat = 1000000 := by decide
        omega⟩
  exact ⟨D, _, _, _, rfl, rfl, SqL.of (k4 _ _ eD nDb), hr, q r _ nr (B4.mono (by omega)) (k3.trans k4)⟩
theorem back44 {H H' : Hp} {a : Addr} (s : Same H H') (n : H' a = none) : H a = none := by
  cases e : H a with
  | none => rfl
  | some o =>
    rw [s _ _ e] at n
    cases n
theorem at_nm44 {nm : List (Str × List Nat)} (nd : (nm.map (·.1)).Nodup) {y : Str} (hy : y ∈ nm.map (·.1)) : ∃ i : Nat, nm[i]? = some (y, lkN nm y) := by
  obtain ⟨x, hx, ex⟩ := List.mem_map.mp hy
  obtain ⟨i, hi⟩ := List.mem_iff_getElem?.mp hx
  have hi' : nm[i]? = some (y, x.2) := by rw [hi, ← ex]
  exact ⟨i, by rw [lkN_at nd hi']; exact hi'⟩
/-! ### all that a net tells -/
def toldD (m : Nat) (gs : List Gt) (nm : List (Str × List Nat)) (ys : List Str) : PyData := .list [.int (m : Int), .int (gs.length : Nat), .list (gs.map dGt), .list (ys.map PyData.str), .list ((ys.map fun y => lkN nm y).map fun ws => .list (dInts ws))]
def spTold (K : PySem.W.Frag) (C : Addr) : Sp := fun vs H Q _ => ∃ (Z : List Addr) (p : NetP) (m : Nat) (gs : List Gt) (nm : List (Str × List Nat)), vs = [.ref p.x] ∧ NetAt C Z H p m gs nm ∧ nm.length ≤ 5 ∧ gs.length ≤ 900 ∧
  ∀ (D : Addr) (H' : Hp) (ys : List Str), Same H H' → ys.Perm (nm.map (·.1)) → sortedS ys = true → (∀ b G, (∃ c, BoxAt c H b) → Keep b H' G → Dp K G (.ref D) (toldD m gs nm ys)) → Q (.ref D) H'
theorem ok__law_told (B : Bl mg) (L : LL K mg C za zl E_NoWire I_NoWire E_NoName I_NoName E_Taken I_Taken E_BadForm E_BadText E_BadRow E_Unfit E_TooFew E_NoStep E_Undone E_Busy E_NoPlace E_NoDeed E_NoStage E_BadDeed E_TooMuch E_Stuck) : FnOk P w K mg base CX0 3 (za 11) (zl 11) ["_law_net"] (spTold K C) := by
  have G_Net_names : FnOk P w K mg base CX0 2 (za 24) (zl 24) ["self"] (spNames C) := (ok_Net_names B L).mono (by decide)
  have G_Net_inputs : FnOk P w K mg base CX0 2 (za 25) (zl 25) ["self"] (spInputs C) := (ok_Net_inputs B L).mono (by decide)
  have G_Net_gates : FnOk P w K mg base CX0 2 (za 26) (zl 26) ["self"] (spGates C) := (ok_Net_gates B L).mono (by decide)
  have G_Net_given : FnOk P w K mg base CX0 2 (za 23) (zl 23) ["self", "name"] (spGiven C) := (ok_Net_given B L).mono (by decide)
  refine L.F__law_told.ok sc__law_told (fun vs H Q E h => ?_) (fun cdv A outer s H vs Q E hr h => ?_)
  · obtain ⟨Z, p, m, gs, nm, rfl, _⟩ := h
    rfl
  obtain ⟨Z, p, m, gs, nm, rfl, hN, hl, hg, q⟩ := h
  refine ⟨_, (pss_cons (ps_set (i := 1) sc__law_told.nd rfl (.inl rfl) (pe_meth0 (pv 0) L.T.cl L.M_Net_names G_Net_names hr L.b_Net_names .nil pass0))
    (pss_one (ps_ret (pe_lst (pa_cons (pe_meth0 (pv 0) L.T.cl L.M_Net_inputs G_Net_inputs hr L.b_Net_inputs .nil pass0) (pa_cons (pe_callB (call_lenOwn L.M_Net___len__ (ok_Net___len__ B L) L.b_Net___len__ (hr.mono (by decide)) pass0) (by rfl) B.len boot_len (pa_cons (pv 0) pa_nil)) (pa_cons (pe_meth0 (pv 0) L.T.cl L.M_Net_gates G_Net_gates hr L.b_Net_gates .nil pass0) (pa_cons (pv 1) (pa_cons (pe_lc (own := [("_law_name", 2)]) (by rfl) sc__law_told.nd (pi_list (pv 1)) (blkOk_by (own := [("_law_name", 2)]) (N := ["_law_net", "_law_names_here", "_law_name"]) (sc := defScope s__law_told) (by decide +kernel)) (fun _ _ _ _ _ => pg_name (i := 2) sc__law_told.nd rfl (Or.inl rfl)) (fun _ _ _ _ _ => pts_nil) (fun _ _ _ _ _ => (pe_meth (pv 0) L.T.cl L.M_Net_given G_Net_given hr L.b_Net_given .nil pass0 (pa_cons (pv 2) pa_nil)))) pa_nil))))))))), ?_⟩
  obtain ⟨_, _, _, dx0, _, _, f0, _⟩ := id hN
  refine ⟨_, rfl, p.x, dx0, _, rfl, f0, rfl, Z, p, m, gs, nm, rfl, hN, by omega, fun ys t H1 hp hs s1 nt e1 => ?_⟩
  have N1 := hN.same s1
  obtain ⟨_, _, _, dx1, _, _, f1, _⟩ := id N1
  try dsimp only [gName]
  try simp only [L2.start, List.map_cons, List.map_nil, List.length_cons, List.length_nil, List.replicate_succ, List.replicate_zero, List.cons_append, List.nil_append, List.set_cons_succ, List.set_cons_zero, Nat.reduceAdd, Nat.reduceSub, Nat.zero_add]
  refine ⟨_, rfl, p.x, dx1, _, rfl, f1, rfl, Z, p, m, gs, nm, rfl, N1, _, rfl, p.x, dx1, _, rfl, f1, Z, p, m, gs, nm, rfl, N1, _, rfl, by omega, by omega, ?_⟩
  refine ⟨_, rfl, p.x, dx1, _, rfl, f1, rfl, Z, p, m, gs, nm, rfl, N1, fun t2 ps nt2 lp hps => ?_⟩
  have s2 := same_upd (o := .lst (ps.map V.ref)) nt2
  have e2 : (upd H1 t2 (.lst (ps.map V.ref))) t2 = some (.lst (ps.map V.ref)) := upd_same
  have e1a := s2 _ _ e1
  have N2 := N1.same s2
  have w2 := s1.trans s2
  have hps2 : ∀ (i : Nat) (r : Addr) (g : Gt), ps[i]? = some r → gs[i]? = some g → (upd H1 t2 (.lst (ps.map V.ref))) r = some (.tup g.row) := fun i r g a b => s2 _ _ (hps i r g a b)
  have zt : H t = none := nt
  have zt2 : H t2 = none := back44 s1 nt2
  generalize upd H1 t2 (.lst (ps.map V.ref)) = H2 at *
  have nd : (nm.map (·.1)).Nodup := by
    obtain ⟨_, _, _, _, _, _, _, _, _, _, _, n0⟩ := id hN
    exact n0.2.1
  have ly : ys.length = nm.length := by rw [hp.length_eq, List.length_map]
  refine ⟨_, rfl, _, rfl, t, rfl, ⟨_, SqL.of e1a⟩, fun D3 nD3 => ?_⟩
  refine lc_it (walk_list (K := K) (a := t) (xs := ys.map V.str)) (fun j H5 => ∃ ls : List Addr, ls.length = j ∧ Same H2 H5 ∧ H5 D3 = some (.lst (ls.map V.ref)) ∧ D3 ∉ ls ∧ ∀ (i : Nat) (l : Addr) (y : Str), ls[i]? = some l → ys[i]? = some y → H5 l = some (.lst (nts (lkN nm y))) ∧ H2 l = none) ⟨[], rfl, same_upd nD3, upd_same, (fun z => nomatch z), fun i l y h => by simp at h⟩ (fun j H5 _ ⟨_, _, s5, _⟩ => SqL.of (s5 _ _ e1a)) ?_ ?_
  · rintro j v H6 H5 hj ⟨ls, ll5, s5, eD, nDl, hls⟩ ⟨rfl, hz⟩
    replace hz : (ys.map V.str)[j]? = some v := hz
    rw [List.length_map] at hj
    rw [List.getElem?_map, List.getElem?_eq_getElem hj] at hz
    have hy : ys[j]? = some ys[j] := List.getElem?_eq_getElem hj
    cases hz
    generalize ys[j] = y at *
    obtain ⟨i, hi⟩ := at_nm44 nd (hp.mem_iff.mp (List.mem_of_getElem? hy))
    have N5 := N2.same s5
    obtain ⟨_, _, _, dx5, _, _, f5, _⟩ := id N5
    dsimp only [gName]
    refine ⟨rfl, yesT ?_⟩
    try simp only [L2.start, List.map_cons, List.map_nil, List.length_cons, List.length_nil, List.replicate_succ, List.replicate_zero, List.cons_append, List.nil_append, List.set_cons_succ, List.set_cons_zero, Nat.reduceAdd, Nat.reduceSub, Nat.zero_add]
    refine ⟨_, rfl, p.x, dx5, _, rfl, f5, rfl, _, rfl, Z, p, m, gs, nm, i, y, _, rfl, N5, hi, fun a na => ?_⟩
    have st := same_upd (o := .lst (nts (lkN nm y))) na
    have tD : a ≠ D3 := fun z => by rw [z, eD] at na; cases na
    refine ⟨_, st _ _ eD, by rw [List.length_map, ll5]; exact small1000 (by omega), ls ++ [a], by rw [List.length_append, ll5]; rfl, fun x o e => ?_, by rw [upd_same, List.map_append]; rfl, fun z => ?_, fun i' l' y' h1 h2 => ?_⟩
    · rw [upd_ne (ne_of_none e nD3)]
      exact st _ _ (s5 _ _ e)
    · rcases List.mem_append.mp z with w | w
      · exact nDl w
      · exact tD (List.mem_singleton.mp w).symm
    · by_cases c : i' < ls.length
      · rw [List.getElem?_append_left c] at h1
        obtain ⟨b1, b2⟩ := hls i' l' y' h1 h2
        exact ⟨by rw [upd_ne (show l' ≠ D3 from fun z => nDl (by rw [← z]; exact List.mem_of_getElem? h1))]; exact st _ _ b1, b2⟩
      · have i0 : i' = ls.length := by
          have := (List.getElem?_eq_some_iff.mp h1).1
          rw [List.length_append, List.length_cons, List.length_nil] at this
          omega
        rw [List.getElem?_append_right (by omega), i0, Nat.sub_self] at h1
        rw [i0, ll5, hy] at h2
        cases h1
        cases h2
        exact ⟨by rw [upd_ne tD, upd_same], back44 s5 na⟩
  rintro H3 ⟨ls, ll3, s3, eD3, nDl, hls⟩
  rw [List.length_map] at ll3
  refine ⟨(by show 5 ≤ sizeLine; decide), fun D4 nD4 => ?_⟩
  have s4 := same_upd (o := .lst [.int (m : Int), .int (gs.length : Nat), .ref t2, .ref t, .ref D3]) nD4
  have e4 : (upd H3 D4 (.lst [.int (m : Int), .int (gs.length : Nat), .ref t2, .ref t, .ref D3])) D4 = some (.lst [.int (m : Int), .int (gs.length : Nat), .ref t2, .ref t, .ref D3]) := upd_same
  have s34 := s3.trans s4
  have eD3' := s4 _ _ eD3
  have hls' : ∀ (i : Nat) (l : Addr) (y : Str), ls[i]? = some l → ys[i]? = some y → (upd H3 D4 (.lst [.int (m : Int), .int (gs.length : Nat), .ref t2, .ref t, .ref D3])) l = some (.lst (nts (lkN nm y))) ∧ H2 l = none := fun i l y a b => ⟨s4 _ _ (hls i l y a b).1, (hls i l y a b).2⟩
  have zD4 : H D4 = none := back44 (w2.trans s3) nD4
  have zD3 : H D3 = none := back44 w2 nD3
  generalize upd H3 D4 (.lst [.int (m : Int), .int (gs.length : Nat), .ref t2, .ref t, .ref D3]) = H4 at *
  refine q D4 H4 ys (w2.trans s34) hp hs fun b G ⟨c, hB⟩ kG => ?_
  have nb : ∀ {x : Addr}, H x = none → x ≠ b := fun {x} hx z => by
    obtain ⟨_, _, _, eb, _⟩ := hB
    rw [z, eb] at hx
    cases hx
  obtain ⟨x0, x1, x2, eb, _⟩ := hB
  refine .lst (SqL.of (kG _ _ e4 (nb zD4))) (.cons (.int _) (.cons (.int _) (.cons (.lst (SqL.of (kG _ _ (s34 _ _ e2) (nb zt2))) (dpa_rows ps gs lp fun i r g a b' => ?_)) (.cons (.lst (SqL.of (kG _ _ (s34 _ _ e1a) (nb zt))) (dpa_strs ys)) (.cons (.lst (SqL.of (kG _ _ eD3' (nb zD3))) (dpa_lists ls _ (by rw [List.length_map, ll3]) fun i l ws a b' => ?_)) .nil)))))
  · have er := s34 _ _ (hps2 i r g a b')
    refine kG _ _ er fun z => ?_
    have := (w2.trans s34) _ _ eb
    rw [← z, er] at this
    cases this
  · rw [List.getElem?_map] at b'
    cases hy : ys[i]? with
    | none => rw [hy] at b'; cases b'
    | some y =>
      rw [hy] at b'
      cases b'
      obtain ⟨h1, h2⟩ := hls' i l y a hy
      exact kG _ _ h1 (nb (back44 w2 h2))
end
section
variable {P : Program} {w : World} {K : PySem.W.Frag} {mg : Str → Option Value} {base : Heap}
variable {C : Addr} {za : Nat → Addr} {zl : Nat → FuncData} {E_NoWire I_NoWire E_NoName I_NoName E_Taken I_Taken E_BadForm E_BadText E_BadRow E_Unfit E_TooFew E_NoStep E_Undone E_Busy E_NoPlace E_NoDeed E_NoStage E_BadDeed E_TooMuch E_Stuck : Addr}
/-! ### one ask and what is due -/
def HQ (s : Str) : Prop := s.cps.toList.head? ≠ some 113
theorem hq_ne {s n : Str} (h : HQ n) (e : s.cps.toList.head? = some 113) : s ≠ n := fun z => h (by rw [← z]; exact e)
theorem lv_due (r : Rf) : Lv 3 r.due := by
  have key : ∀ a b : Str, ∀ d : PyData, Lv 2 d → Lv 3 (.tuple [.list [.str a, .str b], d]) := fun a b d hd => ⟨by show 2 ≤ 1000000; decide, fun e he => by
    simp only [List.mem_cons, List.not_mem_nil, or_false] at he
    rcases he with h | h <;> subst h
    · exact ⟨by show 2 ≤ 1000000; decide, fun x hx => by
        simp only [List.mem_cons, List.not_mem_nil, or_false] at hx
        rcases hx with h | h <;> subst h <;> trivial⟩
    · exact hd⟩
  cases r
  · exact key _ _ _ trivial
  · exact key _ _ _ trivial
  · exact key _ _ _ trivial
theorem in_two (x a b : Str) : inV (.str x) [.str a, .str b] = decide (a = x ∨ b = x) := by
  show ((a == x) || ((b == x) || false)) = _
  rw [Bool.or_false, Bool.eq_iff_iff, Bool.or_eq_true, beq_iff_eq, beq_iff_eq, decide_eq_true_iff]
def spAskR (C : Addr) : Sp := fun vs H Q _ => ∃ (Z : List Addr) (p : NetP) (m : Nat) (gs : List Gt) (nm : List (Str × List Nat)) (b NL : Addr) (c : Int) (n0 n1 : Str), vs = [.ref b, .ref p.x, .ref NL] ∧ NetAt C Z H p m gs nm ∧ b ∈ Z ∧ BoxAt c H b ∧ c ≤ 800000000 ∧ NL ≠ b ∧ H NL = some (.lst [.str n0, .str n1]) ∧ nm.map (·.1) = [n0, n1] ∧ HQ n0 ∧ HQ n1 ∧ n0.length ≤ 10 ∧ 1 ≤ m + gs.length ∧ m + gs.length ≤ 900 ∧
  ∀ H', BoxAt (c + 50) H' b → Keep b H H' → Q (.bl true) H'
theorem ok__law_ask_right (B : Bl mg) (L : LL K mg C za zl E_NoWire I_NoWire E_NoName I_NoName E_Taken I_Taken E_BadForm E_BadText E_BadRow E_Unfit E_TooFew E_NoStep E_Undone E_Busy E_NoPlace E_NoDeed E_NoStage E_BadDeed E_TooMuch E_Stuck) : FnOk P w K mg base CX0 9 (za 12) (zl 12) ["_law_box_here", "_law_net", "_law_names_here"] (spAskR C) := by
  have G__law_take : FnOk P w K mg base CX0 8 (za 2) (zl 2) ["_law_box_here", "_law_size"] (spTake 1) := (ok_take L.F__law_take L.b__law_take L.m__law_take B 1).mono (by decide)
  have G__law_strange : FnOk P w K mg base CX0 8 (za 10) (zl 10) ["_law_box_here", "_law_there"] spStrange := (ok__law_strange B L).mono (by decide)
  have G__law_asked : FnOk P w K mg base CX0 8 (za 9) (zl 9) ["_law_net", "_law_how", "_law_wires", "_law_name"] (spAsk K C) := (ok__law_asked B L).mono (by decide)
  have G__law_same : FnOk P w K mg base CX0 8 (za 3) (zl 3) ["_law_found", "_law_due"] (spSame K 4) := (ok_same L.F__law_same L.b__law_same L.m__law_same B 4).mono (by decide)
  have G_Net_inputs : FnOk P w K mg base CX0 8 (za 25) (zl 25) ["self"] (spInputs C) := (ok_Net_inputs B L).mono (by decide)
  refine L.F__law_ask_right.ok sc__law_ask_right (fun vs H Q E h => ?_) (fun cdv A outer s H vs Q E hr h => ?_)
  · obtain ⟨Z, p, m, gs, nm, b, NL, c, n0, n1, rfl, _⟩ := h
    rfl
  obtain ⟨Z, p, m, gs, nm, b, NL, c, n0, n1, rfl, hN, hbZ, hB, hc, nNb, eN, hnm, q0, q1, l0, hn1, hn9, q⟩ := h
  refine ⟨_, (pss_cons (ps_set (i := 3) sc__law_ask_right.nd rfl (.inr rfl) (pe_op op_add (pe_meth0 (pv 1) L.T.cl L.M_Net_inputs G_Net_inputs hr L.b_Net_inputs .nil pass0) (pe_callB (call_lenOwn L.M_Net___len__ (ok_Net___len__ B L) L.b_Net___len__ (hr.mono (by decide)) pass0) (by rfl) B.len boot_len (pa_cons (pv 1) pa_nil))))
    (pss_cons (ps_par (by rfl) sc__law_ask_right.nd (i := 4) (j := 5) rfl rfl (by decide) rfl rfl (pa_cons (pe_call G__law_take hr (by rfl) L.m__law_take L.F__law_take.kp L.b__law_take .nil pass0 (pa_cons (pv 0) (pa_cons pe_int pa_nil))) (pa_cons (pe_call G__law_strange hr (by rfl) L.m__law_strange L.F__law_strange.kp L.b__law_strange .nil pass0 (pa_cons (pv 0) (pa_cons (pv 3) pa_nil))) pa_nil)) (by rfl))
    (pss_cons (ps_if (pt_cmpR op_eq (pv 4) pe_int (nomark _)) (pss_one (ps_ret (pe_call G__law_same hr (by rfl) L.m__law_same L.F__law_same.kp L.b__law_same .nil pass0 (pa_cons (pe_call G__law_asked hr (by rfl) L.m__law_asked L.F__law_asked.kp L.b__law_asked .nil pass0 (pa_cons (pv 1) (pa_cons pe_int (pa_cons (pe_lst pa_nil) (pa_cons (pe_op op_add_str pe_str (pe_ix ix_list (pv 2) pe_int (fun _ _ => rfl))) pa_nil))))) (pa_cons (pe_tup (pa_cons (pe_lst (pa_cons pe_str (pa_cons pe_str pa_nil))) (pa_cons (pe_op op_add_str pe_str (pe_ix ix_list (pv 2) pe_int (fun _ _ => rfl))) pa_nil))) pa_nil))))) pss_nil)
    (pss_cons (ps_setLc (i := 6) (own := [("_law_turn", 11)]) (by rfl) sc__law_ask_right.nd rfl rfl (sw_true rfl rfl rfl (by decide +kernel)) (pi_range1 (by rfl) B.range (pa_cons (pe_ix ix_list (pe_lst (pa_cons pe_int (pa_cons pe_int (pa_cons pe_int (pa_cons pe_int (pa_cons (pe_op op_add pe_int (pe_call G__law_take hr (by rfl) L.m__law_take L.F__law_take.kp L.b__law_take .nil pass0 (pa_cons (pv 0) (pa_cons pe_int pa_nil)))) (pa_cons pe_int (pa_cons pe_int pa_nil)))))))) (pv 4) (fun _ _ => rfl)) pa_nil)) (blkOk_by (own := [("_law_turn", 11)]) (N := ["_law_box_here", "_law_net", "_law_names_here", "_law_there", "_law_how", "_law_strange_here", "_law_wires", "_law_at", "_law_name", "_law_first", "_law_due", "_law_turn", "_law_wire"]) (sc := defScope s__law_ask_right) (by decide +kernel)) (fun _ _ _ _ _ => pg_name (i := 11) sc__law_ask_right.nd rfl (Or.inl rfl)) (fun _ _ _ _ _ => pts_nil) (fun _ _ _ _ _ => (pe_call G__law_take hr (by rfl) L.m__law_take L.F__law_take.kp L.b__law_take .nil pass0 (pa_cons (pv 0) (pa_cons (pv 3) pa_nil)))))
    (pss_cons (ps_par (by rfl) sc__law_ask_right.nd (i := 7) (j := 8) rfl rfl (by decide) rfl rfl (pa_cons (pe_call G__law_take hr (by rfl) L.m__law_take L.F__law_take.kp L.b__law_take .nil pass0 (pa_cons (pv 0) (pa_cons (pe_callB call_len_seq (by rfl) B.len PySem.boot_len (pa_cons (pv 6) pa_nil)) pa_nil))) (pa_cons (pe_ix ix_list (pe_lst (pa_cons pe_str (pa_cons (pe_ix ix_list (pv 2) pe_int (fun _ _ => rfl)) (pa_cons (pe_ix ix_list (pv 2) pe_int (fun _ _ => rfl)) (pa_cons pe_str pa_nil))))) (pe_call G__law_take hr (by rfl) L.m__law_take L.F__law_take.kp L.b__law_take .nil pass0 (pa_cons (pv 0) (pa_cons pe_int pa_nil))) (fun _ _ => rfl)) pa_nil)) (by rfl))
    (pss_cons (ps_asg (pv 5) (pg_sub (pv 6) (pv 7) set_list))
    (pss_cons (ps_if (pt_cmpR op_eq (pe_call G__law_take hr (by rfl) L.m__law_take L.F__law_take.kp L.b__law_take .nil pass0 (pa_cons (pv 0) (pa_cons pe_int pa_nil))) pe_int (nomark _)) (pss_one (ps_asg (pe_call G__law_strange hr (by rfl) L.m__law_strange L.F__law_strange.kp L.b__law_strange .nil pass0 (pa_cons (pv 0) (pa_cons (pv 3) pa_nil))) (pg_sub (pv 6) (pe_un un_neg pe_int) set_list))) pss_nil)
    (pss_cons (ps_set (i := 9) sc__law_ask_right.nd rfl (.inl rfl) (pe_ix ix_list (pe_lc (own := [("_law_wire", 12)]) (by rfl) sc__law_ask_right.nd (pi_list (pv 6)) (blkOk_by (own := [("_law_wire", 12)]) (N := ["_law_box_here", "_law_net", "_law_names_here", "_law_there", "_law_how", "_law_strange_here", "_law_wires", "_law_at", "_law_name", "_law_first", "_law_due", "_law_turn", "_law_wire"]) (sc := defScope s__law_ask_right) (by decide +kernel)) (fun _ _ _ _ _ => pg_name (i := 12) sc__law_ask_right.nd rfl (Or.inl rfl)) (fun _ _ _ _ _ => pts_one (pt_not (pt_chain op_le op_lt pe_int (pv 12) (pv 3)))) (fun _ _ _ _ _ => (pv 12))) pe_int (fun _ _ => rfl)))
    (pss_cons (ps_set (i := 10) sc__law_ask_right.nd rfl (.inl rfl) (pe_tup (pa_cons (pe_lst (pa_cons pe_str (pa_cons pe_str pa_nil))) (pa_cons (pv 9) pa_nil))))
    (pss_cons (ps_if (PW.pt (pw_and (pt_cmpR op_eq (pv 4) pe_int (nomark _)) (pw_and1 (pt_cmpR op_in_seq (pv 8) (pv 2) (by rfl))))) (pss_cons (ps_set (i := 10) sc__law_ask_right.nd rfl (.inl rfl) (pe_tup (pa_cons (pe_lst (pa_cons pe_str (pa_cons pe_str pa_nil))) (pa_cons (pv 8) pa_nil))))
    (pss_one (ps_set (i := 6) sc__law_ask_right.nd rfl (.inl rfl) (pe_ifExp (pt_cmpR op_eq (pe_call G__law_take hr (by rfl) L.m__law_take L.F__law_take.kp L.b__law_take .nil pass0 (pa_cons (pv 0) (pa_cons pe_int pa_nil))) pe_int (nomark _)) (pv 6) (pe_lst pa_nil))))) pss_nil)
    (pss_one (ps_ret (pe_call G__law_same hr (by rfl) L.m__law_same L.F__law_same.kp L.b__law_same .nil pass0 (pa_cons (pe_call G__law_asked hr (by rfl) L.m__law_asked L.F__law_asked.kp L.b__law_asked .nil pass0 (pa_cons (pv 1) (pa_cons (pv 4) (pa_cons (pv 6) (pa_cons (pv 8) pa_nil))))) (pa_cons (pv 10) pa_nil))))))))))))))), ?_⟩
  obtain ⟨_, _, ⟨px, _⟩, dx0, _, _, f0, _⟩ := id hN
  refine ⟨_, rfl, p.x, dx0, _, rfl, f0, rfl, Z, p, m, gs, nm, rfl, hN, _, rfl, p.x, dx0, _, rfl, f0, Z, p, m, gs, nm, rfl, hN, _, rfl, by omega, by omega, _, _, rfl, rfl, ?_⟩
  show gName 3 (.int ((m : Int) + (gs.length : Nat))) _ _ _
  rw [show (m : Int) + ((gs.length : Nat) : Int) = ((m + gs.length : Nat) : Int) by omega]
  obtain ⟨n, hn⟩ : ∃ n, n = m + gs.length := ⟨_, rfl⟩
  rw [← hn] at hn1 hn9 ⊢
  try dsimp only [gName]
  try simp only [L2.start, List.map_cons, List.map_nil, List.length_cons, List.length_nil, List.replicate_succ, List.replicate_zero, List.cons_append, List.nil_append, List.set_cons_succ, List.set_cons_zero, Nat.reduceAdd, Nat.reduceSub, Nat.zero_add]
  refine ⟨_, rfl, b, _, _, rfl, hB, by decide, by decide, by decide, by omega, by decide, fun r1 H1 u1 v1 B1 k1 => ?_⟩
  replace B1 := bx1 B1
  refine ⟨_, rfl, _, rfl, b, _, n, rfl, B1, by omega, by omega, fun rs H2 nrs B2 k2 => ?_⟩
  refine ⟨_, _, rfl, ?_⟩
  try dsimp only [gName]
  try simp only [L2.start, List.map_cons, List.map_nil, List.length_cons, List.length_nil, List.replicate_succ, List.replicate_zero, List.cons_append, List.nil_append, List.set_cons_succ, List.set_cons_zero, Nat.reduceAdd, Nat.reduceSub, Nat.zero_add]
  have k02 := k1.trans k2
  have eN2 := k02 _ _ eN nNb
  have N2 := hN.keepB k02 B2.some hbZ
  obtain ⟨hw, rfl⟩ : ∃ hw : Nat, r1 = (hw : Int) := ⟨r1.toNat, by omega⟩
  have lq : ("q" : Str).length = 1 := rfl
  refine ⟨_, rfl, rfl, _, rfl, ite2 (fun cc => ?_) (fun cc => ?_)⟩
  · have h5 : hw = 5 := by
      have := V.int.inj (of_decide_eq_true cc)
      omega
    subst h5
    refine ⟨_, rfl, Nat.zero_le _, fun EE nEE => ?_⟩
    have sE := same_upd (o := .lst []) nEE
    have eE : (upd H2 EE (.lst [])) EE = some (.lst []) := upd_same
    have eN3 := sE _ _ eN2
    have N3 := N2.same sE
    have B3 := B2.same sE
    have k3 := k02.trans (Keep.ofSame sE)
    generalize upd H2 EE (.lst []) = H3 at *
    have nin : ("q" ++ n0 : Str) ∉ nm.map (·.1) := by
      rw [hnm]
      have hd : ("q" ++ n0 : Str).cps.toList.head? = some 113 := by
        have e : ("q" ++ n0 : Str).cps.toList = 113 :: n0.cps.toList := by
          show TL.tl ("q" ++ n0) = _
          rw [TL.tl_append]
          rfl
        rw [e]
        rfl
      intro z
      simp only [List.mem_cons, List.not_mem_nil, or_false] at z
      rcases z with z | z
      · exact hq_ne q0 hd z
      · exact hq_ne q1 hd z
    refine ⟨_, rfl, NL, _, _, _, rfl, rfl, SqL.of eN3, atI_nat (j := 0) rfl, _, _, rfl, rfl, Nat.le_trans (show 1 + n0.length ≤ 11 by omega) (by decide), ?_⟩
    refine ⟨Z, p, m, gs, nm, 5, EE, [], _, .name ("q" ++ n0), rfl, N3, eE, .inr (.inr (.inr (.inr (.inl ⟨rfl, nin, rfl⟩)))), fun R H4 s4 dR => ?_⟩
    refine ⟨(by show 2 ≤ sizeLine; decide), fun L1 nL1 => ?_⟩
    have sL1 := same_upd (o := .lst [.str "NoName", .str "KeyError"]) nL1
    have eL1 : (upd H4 L1 (.lst [.str "NoName", .str "KeyError"])) L1 = some (.lst [.str "NoName", .str "KeyError"]) := upd_same
    have eN4 := sL1 _ _ (s4 _ _ eN3)
    generalize upd H4 L1 (.lst [.str "NoName", .str "KeyError"]) = H5 at *
    refine ⟨_, rfl, NL, _, _, _, rfl, rfl, SqL.of eN4, atI_nat (j := 0) rfl, _, _, rfl, rfl, Nat.le_trans (show 1 + n0.length ≤ 11 by omega) (by decide), (by show 2 ≤ sizeLine; decide), fun TT nTT => ?_⟩
    have sTT := same_upd (o := .tup [.ref L1, .str ("q" ++ n0)]) nTT
    have eTT : (upd H5 TT (.tup [.ref L1, .str ("q" ++ n0)])) TT = some (.tup [.ref L1, .str ("q" ++ n0)]) := upd_same
    have eL1' := sTT _ _ eL1
    have s46 := sL1.trans sTT
    show spSame K 4 [.ref R, .ref TT] (upd H5 TT (.tup [.ref L1, .str ("q" ++ n0)])) _ E0
    generalize upd H5 TT (.tup [.ref L1, .str ("q" ++ n0)]) = H6 at *
    refine ⟨_, _, (Rf.name ("q" ++ n0)).due, 3, rfl, rfl, lv_due _, dR _ s46, .tup (SqT.of eTT) (.cons (.lst (SqL.of eL1') (.cons (.str _) (.cons (.str _) .nil))) (.cons (.str _) .nil)), fun H7 s7 => ?_⟩
    have s37 := (s4.trans s46).trans s7
    exact q H7 ((B3.same s37).mono (by omega)) (k3.trans (Keep.ofSame s37))
  · try dsimp only [tNext]
    try simp only [L2.start, List.map_cons, List.map_nil, List.length_cons, List.length_nil, List.replicate_succ, List.replicate_zero, List.cons_append, List.nil_append, List.set_cons_succ, List.set_cons_zero, Nat.reduceAdd, Nat.reduceSub, Nat.zero_add]
    have h7 : hw = 0 ∨ hw = 1 ∨ hw = 2 ∨ hw = 3 ∨ hw = 4 ∨ hw = 6 := by
      have h5 : ¬ hw = 5 := fun z => cc (decide_eq_true (by rw [z]; rfl))
      omega
    refine ⟨_, rfl, b, _, _, rfl, B2, by decide, by decide, by decide, by omega, by decide, fun r8 H3 u8 v8 B3 k3 => ?_⟩
    replace B3 := bx1 B3
    refine ⟨_, _, rfl, rfl, (by show 7 ≤ sizeLine; decide), fun D nD => ?_⟩
    have sD := same_upd (o := .lst [.int 2, .int 2, .int 2, .int 1, .int (1 + r8), .int 0, .int 1]) nD
    have eD : (upd H3 D (.lst [.int 2, .int 2, .int 2, .int 1, .int (1 + r8), .int 0, .int 1])) D = some (.lst [.int 2, .int 2, .int 2, .int 1, .int (1 + r8), .int 0, .int 1]) := upd_same
    have B4 := B3.same sD
    have k4 := (k02.trans k3).trans (Keep.ofSame sD)
    obtain ⟨cnt, hcnt, c1, c9, cA, cB⟩ : ∃ cnt : Nat, atI ([.int 2, .int 2, .int 2, .int 1, .int (1 + r8), .int 0, .int 1] : List V) (hw : Int) = some (.int (cnt : Int)) ∧ 1 ≤ cnt ∧ cnt ≤ 8 ∧ (hw < 3 → cnt = 2) ∧ (hw = 3 ∨ hw = 6 → cnt = 1) := by
      rcases h7 with z | z | z | z | z | z <;> subst z
      · exact ⟨2, rfl, by decide, by decide, fun _ => rfl, fun h => by omega⟩
      · exact ⟨2, rfl, by decide, by decide, fun _ => rfl, fun h => by omega⟩
      · exact ⟨2, rfl, by decide, by decide, fun _ => rfl, fun h => by omega⟩
      · exact ⟨1, rfl, by decide, by decide, fun h => by omega, fun _ => rfl⟩
      · refine ⟨(1 + r8).toNat, ?_, by omega, by omega, fun h => by omega, fun h => by omega⟩
        show some (V.int (1 + r8)) = some (V.int ((1 + r8).toNat : Int))
        rw [Int.toNat_of_nonneg (by omega)]
      · exact ⟨1, rfl, by decide, by decide, fun h => by omega, fun _ => rfl⟩
    refine ⟨_, rfl, D, _, _, _, rfl, rfl, SqL.of eD, hcnt, _, rfl, by omega, by omega, fun W nW => ?_⟩
    have eN4 := sD _ _ (k3 _ _ eN2 nNb)
    generalize upd H3 D (.lst [.int 2, .int 2, .int 2, .int 1, .int (1 + r8), .int 0, .int 1]) = H4 at *
    clear hcnt eD sD nD
    have nWb : W ≠ b := (B4.ne nW).symm
    rw [Int.toNat_natCast]
    refine lc_range (n := cnt) (fun j G => Keep b H4 G ∧ BoxAt (c + 10 + 2 * j) G b ∧ ∃ ws : List Int, G W = some (.lst (ws.map V.int)) ∧ ws.length = j) ⟨Keep.new nW, (B4.same (same_upd nW)).mono (by omega), [], upd_same, rfl⟩ ?_ ?_
    · rintro j G hj ⟨kG, BG, ws, eW, lw⟩
      refine ⟨rfl, yesT ?_⟩
      try dsimp only [gName]
      try simp only [L2.start, List.map_cons, List.map_nil, List.length_cons, List.length_nil, List.replicate_succ, List.replicate_zero, List.cons_append, List.nil_append, List.set_cons_succ, List.set_cons_zero, Nat.reduceAdd, Nat.reduceSub, Nat.zero_add]
      refine ⟨_, rfl, _, rfl, b, _, _, rfl, BG, by omega, by omega, by omega, by omega, by decide, fun r G2 u v B2' k2' => ?_⟩
      replace B2' := bx1 B2'
      refine ⟨_, k2' _ _ eW nWb, by rw [List.length_map, lw]; exact small1000 (by omega), fun x o e nx => ?_, BoxAt.mono (B2'.at (upd_ne nWb.symm)) (by omega), ws ++ [r], by rw [upd_same, List.map_append]; rfl, by rw [List.length_append, lw]; rfl⟩
      rw [upd_ne (ne_of_none e nW)]
      exact k2' _ _ (kG _ _ e nx) nx
    · rintro G ⟨kG, BG, ws, eW, lw⟩
      try dsimp only [gName]
      try simp only [L2.start, List.map_cons, List.map_nil, List.length_cons, List.length_nil, List.replicate_succ, List.replicate_zero, List.cons_append, List.nil_append, List.set_cons_succ, List.set_cons_zero, Nat.reduceAdd, Nat.reduceSub, Nat.zero_add]
      have eN5 := kG _ _ eN4 nNb
      have zW : H W = none := keepN k4 nWb nW
      have kH : Keep b H G := k4.trans kG
      refine ⟨_, rfl, _, rfl, W, _, rfl, .inl (SqL.of eW), ?_⟩
      rw [List.length_map, lw]
      refine ⟨b, _, _, rfl, BG, by omega, by omega, by omega, by omega, by decide, fun ra H5 ua va B5 k5 => ?_⟩
      replace B5 := bx1 B5
      obtain ⟨at', rfl⟩ : ∃ a : Nat, ra = (a : Int) := ⟨ra.toNat, by omega⟩
      have eW5 := k5 _ _ eW nWb
      have eN6 := k5 _ _ eN5 nNb
      refine ⟨_, rfl, NL, _, _, _, rfl, rfl, SqL.of eN6, atI_nat (j := 0) rfl, _, rfl, NL, _, _, _, rfl, rfl, SqL.of eN6, atI_nat (j := 1) rfl, (by show 4 ≤ sizeLine; decide), fun D2 nD2 => ?_⟩
      have sD2 := same_upd (o := .lst [.str "q", .str n0, .str n1, .str "qq"]) nD2
      have eD2 : (upd H5 D2 (.lst [.str "q", .str n0, .str n1, .str "qq"])) D2 = some (.lst [.str "q", .str n0, .str n1, .str "qq"]) := upd_same
      have nD2b : D2 ≠ b := (B5.ne nD2).symm
      have B6 := B5.same sD2
      have eW6 := sD2 _ _ eW5
      have k6 := (kH.trans k5).trans (Keep.ofSame sD2)
      show tCall (spTake 1) [] E0 _ _ (upd H5 D2 (.lst [.str "q", .str n0, .str n1, .str "qq"])) _
      generalize upd H5 D2 (.lst [.str "q", .str n0, .str n1, .str "qq"]) = H6 at *
      refine ⟨_, rfl, b, _, _, rfl, B6, by decide, by decide, by decide, by omega, by decide, fun rn H7 un vn B7 k7 => ?_⟩
      replace B7 := bx1 B7
      obtain ⟨name, hname⟩ : ∃ name : Str, atI ([.str "q", .str n0, .str n1, .str "qq"] : List V) rn = some (.str name) := by
        have c4 : rn = 0 ∨ rn = 1 ∨ rn = 2 ∨ rn = 3 := by omega
        rcases c4 with z | z | z | z <;> subst z
        · exact ⟨_, rfl⟩
        · exact ⟨_, rfl⟩
        · exact ⟨_, rfl⟩
        · exact ⟨_, rfl⟩
      refine ⟨D2, _, _, _, rfl, rfl, SqL.of (k7 _ _ eD2 nD2b), hname, _, _, rfl, ?_⟩
      try dsimp only [gName]
      try simp only [L2.start, List.map_cons, List.map_nil, List.length_cons, List.length_nil, List.replicate_succ, List.replicate_zero, List.cons_append, List.nil_append, List.set_cons_succ, List.set_cons_zero, Nat.reduceAdd, Nat.reduceSub, Nat.zero_add]
      have eW7 := k7 _ _ eW6 nWb
      have k7H := k6.trans k7
      refine ⟨_, rfl, _, rfl, _, rfl, W, _, _, at', rfl, rfl, eW7, ?_, ?_⟩
      · rw [List.length_map, lw]
        unfold ixN
        rw [if_pos (by omega), if_pos (by omega)]
        rfl
      rw [← List.map_set]
      have e8 : (upd H7 W (.lst ((ws.set at' rs).map V.int))) W = some (.lst ((ws.set at' rs).map V.int)) := upd_same
      have k8 : Keep b H (upd H7 W (.lst ((ws.set at' rs).map V.int))) := fun x o e nx => by
        rw [upd_ne (ne_of_none e zW)]
        exact k7H _ _ e nx
      have B8 : BoxAt (c + 34) (upd H7 W (.lst ((ws.set at' rs).map V.int))) b := BoxAt.mono (B7.at (upd_ne nWb.symm)) (by omega)
      obtain ⟨w1, hw1⟩ : ∃ w1 : List Int, w1 = ws.set at' rs := ⟨_, rfl⟩
      have l1 : w1.length = cnt := by rw [hw1, List.length_set, lw]
      have b1 : ∃ (i : Nat) (w : Int), w1[i]? = some w ∧ ¬ (0 ≤ w ∧ w < (n : Int)) := ⟨at', rs, by rw [hw1, List.getElem?_set_self (by omega)], nrs⟩
      rw [← hw1] at e8 k8 B8 ⊢
      clear hw1 eW7
      generalize upd H7 W (.lst (w1.map V.int)) = H8 at *
      dsimp only
      refine ifS_cut (fun σ' H' => σ' = [some (.ref b), some (.ref p.x), some (.ref NL), some (.int (n : Int)), some (.int (hw : Int)), some (.int rs), some (.ref W), some (.int (at' : Int)), some (.str name), none, none, none, none] ∧ Keep b H H' ∧ BoxAt (c + 40) H' b ∧ ∃ w2 : List Int, H' W = some (.lst (w2.map V.int)) ∧ w2.length = cnt ∧ ∃ (i : Nat) (w : Int), w2[i]? = some w ∧ ¬ (0 ≤ w ∧ w < (n : Int))) (fun D' q' => ?_) ?_
      · refine ⟨_, rfl, b, (3 : Int), c + 34, rfl, B8, by decide, by decide, by decide, by omega, by decide, fun r9 H9 u9 v9 B9 k9 => ?_⟩
        refine ⟨rfl, _, rfl, ite2 (fun cc2 => ?_) (fun cc2 => ?_)⟩
        · replace B9 := bx1 B9
          refine ⟨_, rfl, _, rfl, b, _, n, rfl, B9, by omega, by omega, fun rt H10 nrt B10 k10 => ?_⟩
          have e10 := k10 _ _ (k9 _ _ e8 nWb) nWb
          refine ⟨_, rfl, _, rfl, W, _, _, cnt - 1, rfl, rfl, e10, ?_, ?_⟩
          · rw [List.length_map, l1]
            unfold ixN
            rw [if_neg (by omega), if_pos (by omega)]
            exact congrArg some (by omega)
          rw [← List.map_set]
          refine q' _ _ ⟨rfl, fun x o e nx => ?_, BoxAt.mono (B10.at (upd_ne nWb.symm)) (by omega), w1.set (cnt - 1) rt, upd_same, by rw [List.length_set, l1], cnt - 1, rt, by rw [List.getElem?_set_self (by omega)], nrt⟩
          rw [upd_ne (ne_of_none e zW)]
          exact k10 _ _ (k9 _ _ (k8 _ _ e nx) nx) nx
        · replace B9 := bx1 B9
          exact q' _ _ ⟨rfl, k8.trans k9, B9.mono (by omega), w1, k9 _ _ e8 nWb, l1, b1⟩
      rintro _ H11 ⟨rfl, k11, B11, w2, e11, l2, b2⟩
      dsimp only
      refine step1 ?_
      refine ⟨_, rfl, W, rfl, ⟨_, SqL.of e11⟩, fun F nF => ?_⟩
      have nFb : F ≠ b := (B11.ne nF).symm
      refine lc_it (walk_list (K := K) (a := W) (xs := w2.map V.int)) (fun i G => Same H11 G ∧ G F = some (.lst (((w2.take i).filter (fun i => !(decide (0 ≤ i) && decide (i < (n : Int))))).map V.int))) ⟨same_upd nF, upd_same⟩ (fun i G _ ⟨s9, _⟩ => SqL.of (s9 _ _ e11)) ?_ ?_
      · rintro i v G G' hi ⟨s9, eF⟩ ⟨rfl, hz⟩
        replace hz : (w2.map V.int)[i]? = some v := hz
        rw [List.length_map] at hi
        have hw2 : w2[i]? = some w2[i] := List.getElem?_eq_getElem hi
        rw [List.getElem?_map, hw2] at hz
        cases hz
        generalize w2[i] = w at *
        try dsimp only [gName]
        refine ⟨rfl, ?_⟩
        refine ⟨_, rfl, _, _, rfl, rfl, _, rfl, ?_⟩
        have fin : ∀ bb : Bool, bb = (decide (0 ≤ w) && decide (w < (n : Int))) → (bb = true → Same H11 G' ∧ G' F = some (.lst (((w2.take (i + 1)).filter (fun i => !(decide (0 ≤ i) && decide (i < (n : Int))))).map V.int))) ∧ (bb = false → (w2.take (i + 1)).filter (fun i => !(decide (0 ≤ i) && decide (i < (n : Int)))) = (w2.take i).filter (fun i => !(decide (0 ≤ i) && decide (i < (n : Int)))) ++ [w]) := by
          intro bb hbb
          constructor
          · intro hb
            refine ⟨s9, ?_⟩
            rw [List.take_add_one, hw2, List.filter_append]
            show _ = some (HO.lst ((_ ++ List.filter _ [w]).map V.int))
            rw [List.filter_cons_of_neg (by rw [← hbb, hb]; decide), List.filter_nil, List.append_nil]
            exact eF
          · intro hb
            rw [List.take_add_one, hw2, List.filter_append]
            show _ ++ List.filter _ [w] = _
            rw [List.filter_cons_of_pos (by rw [← hbb, hb]; decide), List.filter_nil]
        by_cases h0 : 0 ≤ w
        · rw [if_pos (decide_eq_true h0)]
          refine ⟨_, rfl, _, _, rfl, rfl, _, rfl, ?_⟩
          by_cases h1 : w < (n : Int)
          · rw [decide_eq_true h1]
            refine iteF ((fin true (by rw [decide_eq_true h0, decide_eq_true h1]; rfl)).1 rfl)
          · rw [decide_eq_false h1]
            refine iteT ?_
            have e := (fin false (by rw [decide_eq_true h0, decide_eq_false h1]; rfl)).2 rfl
            refine ⟨_, rfl, _, eF, by rw [List.length_map]; exact Nat.lt_of_le_of_lt (List.length_filter_le _ _) (by rw [List.length_take]; exact Nat.lt_of_le_of_lt (Nat.min_le_left _ _) (small1000 (by omega))), fun x o e' => ?_, ?_⟩
            · rw [upd_ne (ne_of_none e' nF)]
              exact s9 _ _ e'
            · rw [upd_same, e, List.map_append]
              rfl
        · rw [if_neg (by simpa using h0)]
          refine ⟨_, rfl, iteT ?_⟩
          have e := (fin false (by rw [decide_eq_false h0]; rfl)).2 rfl
          refine ⟨_, rfl, _, eF, by rw [List.length_map]; exact Nat.lt_of_le_of_lt (List.length_filter_le _ _) (by rw [List.length_take]; exact Nat.lt_of_le_of_lt (Nat.min_le_left _ _) (small1000 (by omega))), fun x o e' => ?_, ?_⟩
          · rw [upd_ne (ne_of_none e' nF)]
            exact s9 _ _ e'
          · rw [upd_same, e, List.map_append]
            rfl
      · rintro H12 ⟨s12, eF⟩
        rw [List.length_map, List.take_of_length_le (Nat.le_refl _)] at eF
        obtain ⟨w, hbd⟩ : ∃ w, bd n w2 = some w := by
          obtain ⟨i, w, h1, h2⟩ := b2
          cases hb : bd n w2 with
          | some w => exact ⟨w, rfl⟩
          | none =>
            have := List.find?_eq_none.mp hb w (List.mem_of_getElem? h1)
            exfalso
            apply h2
            simpa using this
        have hat : atI ((w2.filter (fun i => !(decide (0 ≤ i) && decide (i < (n : Int))))).map V.int) 0 = some (.int w) := by
          refine atI_nat (j := 0) ?_
          rw [List.getElem?_map, ← List.head?_eq_getElem?, List.head?_filter]
          have hb : w2.find? (fun i => !(decide (0 ≤ i) && decide (i < (n : Int)))) = some w := hbd
          rw [hb]
          rfl
        refine ⟨F, _, _, _, rfl, rfl, SqL.of eF, hat, ?_⟩
        try dsimp only [gName]
        try simp only [L2.start, List.map_cons, List.map_nil, List.length_cons, List.length_nil, List.replicate_succ, List.replicate_zero, List.cons_append, List.nil_append, List.set_cons_succ, List.set_cons_zero, Nat.reduceAdd, Nat.reduceSub, Nat.zero_add]
        have e11' := s12 _ _ e11
        have B12 := B11.same s12
        have k12 := k11.trans (Keep.ofSame s12)
        refine step1 ?_
        refine ⟨(by show 2 ≤ sizeLine; decide), fun L1 nL1 => ?_⟩
        have sL1 := same_upd (o := .lst [.str "NoWire", .str "IndexError"]) nL1
        have eL1 : (upd H12 L1 (.lst [.str "NoWire", .str "IndexError"])) L1 = some (.lst [.str "NoWire", .str "IndexError"]) := upd_same
        have e11a := sL1 _ _ e11'
        have B13 := B12.same sL1
        have k13 := k12.trans (Keep.ofSame sL1)
        generalize upd H12 L1 (.lst [.str "NoWire", .str "IndexError"]) = H13 at *
        refine ⟨_, rfl, (by show 2 ≤ sizeLine; decide), fun T1 nT1 => ?_⟩
        have sT1 := same_upd (o := .tup [.ref L1, .int w]) nT1
        have eT1 : (upd H13 T1 (.tup [.ref L1, .int w])) T1 = some (.tup [.ref L1, .int w]) := upd_same
        have eL1a := sT1 _ _ eL1
        have e11b := sT1 _ _ e11a
        have B14 := B13.same sT1
        have k14 := k13.trans (Keep.ofSame sT1)
        have zL1 : H L1 = none := keepN k12 (B12.ne nL1).symm nL1
        have nL1b : L1 ≠ b := (B12.ne nL1).symm
        have nT1b : T1 ≠ b := (B13.ne nT1).symm
        generalize upd H13 T1 (.tup [.ref L1, .int w]) = H14 at *
        have eN14 := k14 _ _ eN nNb
        try dsimp only [gName]
        try simp only [L2.start, List.map_cons, List.map_nil, List.length_cons, List.length_nil, List.replicate_succ, List.replicate_zero, List.cons_append, List.nil_append, List.set_cons_succ, List.set_cons_zero, Nat.reduceAdd, Nat.reduceSub, Nat.zero_add]
        refine ifS_cut (fun σ' H' => ∃ (W' T' : Addr) (w3 : List Int) (r : Rf), σ' = [some (.ref b), some (.ref p.x), some (.ref NL), some (.int (n : Int)), some (.int (hw : Int)), some (.int rs), some (.ref W'), some (.int (at' : Int)), some (.str name), some (.int w), some (.ref T'), none, none] ∧ Keep b H H' ∧ BoxAt (c + 42) H' b ∧ H' W' = some (.lst (w3.map V.int)) ∧ Ask n (nm.map (·.1)) hw w3 name r ∧ ∀ G, Same H' G → Dp K G (.ref T') r.due) (fun D' q' => ?_) ?_
        · have dW : ∀ G, Same H14 G → Dp K G (.ref T1) (Rf.wire w).due := fun G sG => .tup (SqT.of (sG _ _ eT1)) (.cons (.lst (SqL.of (sG _ _ eL1a)) (.cons (.str _) (.cons (.str _) .nil))) (.cons (.int _) .nil))
          have no4 : ¬ (hw = 4 ∧ name ∈ nm.map (·.1)) → Ask n (nm.map (·.1)) hw w2 name (.wire w) := by
            intro hno
            have two : cnt = 2 → ∃ x y, w2 = [x, y] := fun h => by
              rw [h] at l2
              match w2, l2 with
              | [x, y], _ => exact ⟨x, y, rfl⟩
            have one : cnt = 1 → ∃ x, w2 = [x] := fun h => by
              rw [h] at l2
              match w2, l2 with
              | [x], _ => exact ⟨x, rfl⟩
            by_cases h3 : hw < 3
            · obtain ⟨x, y, rfl⟩ := two (cA h3)
              exact .inl ⟨h3, x, y, [], w, rfl, hbd, rfl⟩
            by_cases h4 : hw = 4
            · subst h4
              by_cases hm : name ∈ nm.map (·.1)
              · exact absurd ⟨rfl, hm⟩ hno
              · exact .inr (.inr (.inr (.inl ⟨rfl, hm, w, hbd, rfl⟩)))
            by_cases h33 : hw = 3
            · subst h33
              obtain ⟨x, rfl⟩ := one (cB (.inl rfl))
              exact .inr (.inl ⟨rfl, x, [], w, rfl, hbd, rfl⟩)
            have h66 : hw = 6 := by omega
            subst h66
            obtain ⟨x, rfl⟩ := one (cB (.inr rfl))
            exact .inr (.inr (.inr (.inr (.inr ⟨rfl, x, [], w, rfl, hbd, rfl⟩))))
          refine ⟨_, rfl, rfl, _, rfl, ?_⟩
          by_cases h4 : hw = 4
          · subst h4
            refine iteT ?_
            refine ⟨_, rfl, _, rfl, NL, _, rfl, .inl (SqL.of eN14), rfl, rfl, _, rfl, ?_⟩
            have ein : (if false = true then !inV (.str name) [.str n0, .str n1] else inV (.str name) [.str n0, .str n1]) = decide (name ∈ nm.map (·.1)) := by
              rw [if_neg (by decide), in_two, hnm]
              rw [Bool.eq_iff_iff, decide_eq_true_iff, decide_eq_true_iff]
              simp only [List.mem_cons, List.not_mem_nil, or_false]
              constructor
              · rintro (h | h)
                · exact .inl h.symm
                · exact .inr h.symm
              · rintro (h | h)
                · exact .inl h.symm
                · exact .inr h.symm
            rw [ein]
            by_cases hm : name ∈ nm.map (·.1)
            · rw [decide_eq_true hm]
              refine iteT ?_
              refine step1 ?_
              refine ⟨(by show 2 ≤ sizeLine; decide), fun L2' nL2 => ?_⟩
              have sL2 := same_upd (o := .lst [.str "Taken", .str "LookupError"]) nL2
              have eL2 : (upd H14 L2' (.lst [.str "Taken", .str "LookupError"])) L2' = some (.lst [.str "Taken", .str "LookupError"]) := upd_same
              have e11c := sL2 _ _ e11b
              have B16 := B14.same sL2
              have k16 := k14.trans (Keep.ofSame sL2)
              have nL2b : L2' ≠ b := (B14.ne nL2).symm
              generalize upd H14 L2' (.lst [.str "Taken", .str "LookupError"]) = H16 at *
              refine ⟨_, rfl, (by show 2 ≤ sizeLine; decide), fun T2 nT2 => ?_⟩
              have sT2 := same_upd (o := .tup [.ref L2', .str name]) nT2
              have eT2 : (upd H16 T2 (.tup [.ref L2', .str name])) T2 = some (.tup [.ref L2', .str name]) := upd_same
              have eL2a := sT2 _ _ eL2
              have e11d := sT2 _ _ e11c
              have B17 := B16.same sT2
              have k17 := k16.trans (Keep.ofSame sT2)
              have nT2b : T2 ≠ b := (B16.ne nT2).symm
              generalize upd H16 T2 (.tup [.ref L2', .str name]) = H17 at *
              try dsimp only [gName]
              try simp only [L2.start, List.map_cons, List.map_nil, List.length_cons, List.length_nil, List.replicate_succ, List.replicate_zero, List.cons_append, List.nil_append, List.set_cons_succ, List.set_cons_zero, Nat.reduceAdd, Nat.reduceSub, Nat.zero_add]
              refine ⟨_, rfl, b, (2 : Int), c + 40, rfl, B17, by decide, by decide, by decide, by omega, by decide, fun r9 H18 u9 v9 B18 k18 => ?_⟩
              replace B18 := bx1 B18
              have dT : ∀ G, Same H18 G → Dp K G (.ref T2) (Rf.took name).due := fun G sG => .tup (SqT.of (sG _ _ (k18 _ _ eT2 nT2b))) (.cons (.lst (SqL.of (sG _ _ (k18 _ _ eL2a nL2b))) (.cons (.str _) (.cons (.str _) .nil))) (.cons (.str _) .nil))
              refine ⟨rfl, _, rfl, ite2 (fun cc2 => ?_) (fun cc2 => ?_)⟩
              · refine ⟨_, rfl, ?_⟩
                exact q' _ _ ⟨W, T2, w2, .took name, rfl, k17.trans k18, B18.mono (by omega), k18 _ _ e11d nWb, .inr (.inr (.inl ⟨rfl, hm, rfl⟩)), dT⟩
              · refine ⟨Nat.zero_le _, fun EE nEE => ?_⟩
                have sE := same_upd (o := .lst []) nEE
                exact q' _ _ ⟨EE, T2, [], .took name, rfl, (k17.trans k18).trans (Keep.ofSame sE), (B18.same sE).mono (by omega), upd_same, .inr (.inr (.inl ⟨rfl, hm, rfl⟩)), fun G sG => dT G (sE.trans sG)⟩
            · rw [decide_eq_false hm]
              refine iteF ?_
              exact q' _ _ ⟨W, T1, w2, .wire w, rfl, k14, B14.mono (by omega), e11b, no4 (fun h => hm h.2), dW⟩
          · have e4 : decide (V.int (hw : Int) = V.int 4) = false := decide_eq_false fun z => h4 (by
              have := V.int.inj z
              omega)
            rw [e4]
            refine iteF (iteF ?_)
            exact q' _ _ ⟨W, T1, w2, .wire w, rfl, k14, B14.mono (by omega), e11b, no4 (fun h => h4 h.1), dW⟩
        · rintro _ H15 ⟨W', T', w3, r, rfl, k15, B15, e15, hA, hD⟩
          try dsimp only [tNext]
          try simp only [L2.start, List.map_cons, List.map_nil, List.length_cons, List.length_nil, List.replicate_succ, List.replicate_zero, List.cons_append, List.nil_append, List.set_cons_succ, List.set_cons_zero, Nat.reduceAdd, Nat.reduceSub, Nat.zero_add]
          have N15 := hN.keepB k15 B15.some hbZ
          refine ⟨_, rfl, _, rfl, _, rfl, _, rfl, Z, p, m, gs, nm, hw, W', w3, name, r, rfl, N15, e15, (by rw [← hn]; exact hA), fun R H16 s16 dR => ?_⟩
          refine ⟨_, rfl, _, _, r.due, 3, rfl, rfl, lv_due r, dR _ (Same.refl _), hD _ s16, fun H17 s17 => ?_⟩
          exact q H17 ((B15.same (s16.trans s17)).mono (by omega)) (k15.trans (Keep.ofSame (s16.trans s17)))
end
section
variable {P : Program} {w : World} {K : PySem.W.Frag} {mg : Str → Option Value} {base : Heap}
variable {C : Addr} {za : Nat → Addr} {zl : Nat → FuncData} {E_NoWire I_NoWire E_NoName I_NoName E_Taken I_Taken E_BadForm E_BadText E_BadRow E_Unfit E_TooFew E_NoStep E_Undone E_Busy E_NoPlace E_NoDeed E_NoStage E_BadDeed E_TooMuch E_Stuck : Addr}
theorem memL44 {α : Type} {P : α → Prop} {a : α} {l : List α} (h : P a) (t : ∀ x ∈ l, P x) : ∀ x ∈ a :: l, P x := fun x hx => by
  rcases List.mem_cons.mp hx with z | z
  · rw [z]
    exact h
  · exact t x z
theorem lv_told (m : Nat) (gs : List Gt) (nm : List (Str × List Nat)) (ys : List Str) (h1 : gs.length ≤ 1000) (h2 : ys.length ≤ 1000) (h3 : ∀ x ∈ nm, x.2.length ≤ 1000) (hg : ∀ g ∈ gs, ∀ k ws, g = .w k ws → ws.length ≤ 1000) : Lv 3 (toldD m gs nm ys) := by
  have li : ∀ (n : Nat) (ws : List Nat), ws.length ≤ 1000 → Lv (n + 1) (.list (dInts ws)) := fun n ws h => ⟨by unfold dInts; rw [List.length_map]; omega, fun d hd => by
    unfold dInts at hd
    obtain ⟨w, _, rfl⟩ := List.mem_map.mp hd
    cases n <;> trivial⟩
  refine ⟨by show 5 ≤ 1000000; decide, fun d hd => ?_⟩
  simp only [List.mem_cons, List.not_mem_nil, or_false] at hd
  rcases hd with h | h | h | h | h <;> subst h
  · trivial
  · trivial
  · refine ⟨by rw [List.length_map]; omega, fun d hd => ?_⟩
    obtain ⟨g, hgm, rfl⟩ := List.mem_map.mp hd
    cases g with
    | w k ws =>
      refine ⟨?_, fun x hx => ?_⟩
      · have := hg _ hgm k ws rfl
        show (PyData.str k :: dInts ws).length ≤ 1000000
        unfold dInts
        rw [List.length_cons, List.length_map]
        omega
      · rcases List.mem_cons.mp hx with h | h
        · rw [h]; trivial
        · unfold dInts at h
          obtain ⟨w, _, rfl⟩ := List.mem_map.mp h
          trivial
    | fi b =>
      refine ⟨by show 2 ≤ 1000000; decide, fun x hx => ?_⟩
      simp only [List.mem_cons, List.not_mem_nil, or_false] at hx
      rcases hx with h | h <;> subst h <;> trivial
  · refine ⟨by rw [List.length_map]; omega, fun d hd => ?_⟩
    obtain ⟨y, _, rfl⟩ := List.mem_map.mp hd
    trivial
  · refine ⟨by rw [List.length_map, List.length_map]; omega, fun d hd => ?_⟩
    obtain ⟨ws, hws, rfl⟩ := List.mem_map.mp hd
    obtain ⟨y, _, rfl⟩ := List.mem_map.mp hws
    refine li 0 _ ?_
    unfold lkN
    cases hf : nm.find? fun x => decide (x.1 = y) with
    | none => exact Nat.zero_le _
    | some x => exact h3 x (List.mem_of_find?_eq_some hf)
theorem mx1 {x : Int} (h : 0 ≤ x) : mx [x] = x := by
  show (if x > 0 then x else 0) = x
  split <;> omega
theorem dp_more (m : Nat) (gs : List Gt) (h : 1 ≤ m) : dpW m (gs ++ [.w "other" [0]]) (m + gs.length) = dpW m (gs ++ [.w "other" [0]]) 0 + 1 := by
  have hl := dps_len m gs
  unfold dpW
  have e1 : ∀ (l : List Int) (x : Int), (l ++ [x]).getD l.length 0 = x := fun l x => by rw [List.getD_eq_getElem?_getD, List.getElem?_concat_length]; rfl
  have e2 : ∀ (l : List Int) (x : Int), 0 < l.length → (l ++ [x]).getD 0 0 = l.getD 0 0 := fun l x h => by rw [List.getD_eq_getElem?_getD, List.getD_eq_getElem?_getD, List.getElem?_append_left h]
  rw [dps_snoc, ← hl, e1, e2 _ _ (by omega)]
  show 1 + mx [(dps m gs).getD 0 0] = _
  rw [mx1, Int.add_comm]
  rw [List.getD_eq_getElem?_getD, List.getElem?_eq_getElem (by omega)]
  exact dps_nn m gs _ (List.getElem_mem _)
theorem sExt {H0 H H' : Hp} {S : List Addr} (s : Same H0 H) (k : KeepS S H H') (h : ∀ y ∈ S, H0 y = none) : Same H0 H' := fun y o e => k.1 _ _ (s _ _ e) (fun z => by rw [h _ z] at e; cases e)
theorem sExtB {H0 H H' : Hp} {b : Addr} (s : Same H0 H) (k : Keep b H H') (h : H0 b = none) : Same H0 H' := fun y o e => k _ _ (s _ _ e) (fun z => by rw [z, h] at e; cases e)
theorem cut2 (ss : List Str) (h : 2 ≤ ss.length) : cutV (ss.map V.str) none (some 2) = (ss.take 2).map V.str := by
  unfold cutV
  rw [HT.sIx_none, show (2 : Int) = ((2 : Nat) : Int) from rfl, HT.sIx_nat, List.drop_zero, List.length_map, Nat.sub_zero, Nat.min_eq_left h, List.map_take]
def spLaw (K : PySem.W.Frag) : Sp := fun vs H Q _ => ∃ (a : Addr) (ns : List Int), vs = [.ref a] ∧ SqL K H a (ns.map V.int) ∧ ns.length ≤ 63 ∧ ∀ H', Q (.bl true) H'
theorem ok_law {f : Addr} {fd : FuncData} (F : Fun K "law" "law" s_law f fd) (B : Bl mg) (L : LL K mg C za zl E_NoWire I_NoWire E_NoName I_NoName E_Taken I_Taken E_BadForm E_BadText E_BadRow E_Unfit E_TooFew E_NoStep E_Undone E_Busy E_NoPlace E_NoDeed E_NoStage E_BadDeed E_TooMuch E_Stuck) : FnOk P w K mg base CX0 12 f fd ["_law_script"] (spLaw K) := by
  have G__law_box : FnOk P w K mg base CX0 11 (za 1) (zl 1) ["_law_script", "_law_k"] (spBox K) := ok_box L.F__law_box B
  have G__law_take : FnOk P w K mg base CX0 11 (za 2) (zl 2) ["_law_box_here", "_law_size"] (spTake 1) := (ok_take L.F__law_take L.b__law_take L.m__law_take B 1).mono (by decide)
  have G__law_gates : FnOk P w K mg base CX0 11 (za 6) (zl 6) ["_law_box_here", "_law_wide", "_law_size"] spGatesL := (ok__law_gates B L).mono (by decide)
  have G__law_made : FnOk P w K mg base CX0 11 (za 7) (zl 7) ["_law_rows", "_law_wide"] (spMadeL C) := (ok__law_made B L).mono (by decide)
  have G__law_names : FnOk P w K mg base CX0 11 (za 5) (zl 5) ["_law_box_here", "_law_size"] spNmsL := (ok__law_names B L).mono (by decide)
  have G_Net_give : FnOk P w K mg base CX0 11 (za 22) (zl 22) ["self", "name", "wires"] (spGive K C) := (ok_Net_give B L).mono (by decide)
  have G_Net___len__ : FnOk P w K mg base CX0 11 (za 28) (zl 28) ["self"] (spLenN C) := (ok_Net___len__ B L).mono (by decide)
  have G_Net_depth : FnOk P w K mg base CX0 11 (za 27) (zl 27) ["self", "wire"] (spDepth C) := (ok_Net_depth B L).mono (by decide)
  have G_Net_other : FnOk P w K mg base CX0 11 (za 17) (zl 17) ["self", "a"] (spG1 C) := (ok_Net_other B L).mono (by decide)
  have G_Net_given : FnOk P w K mg base CX0 11 (za 23) (zl 23) ["self", "name"] (spGiven C) := (ok_Net_given B L).mono (by decide)
  have G_Net_names : FnOk P w K mg base CX0 11 (za 24) (zl 24) ["self"] (spNames C) := (ok_Net_names B L).mono (by decide)
  have G__law_told : FnOk P w K mg base CX0 11 (za 11) (zl 11) ["_law_net"] (spTold K C) := (ok__law_told B L).mono (by decide)
  have G__law_ask_right : FnOk P w K mg base CX0 11 (za 12) (zl 12) ["_law_box_here", "_law_net", "_law_names_here"] (spAskR C) := (ok__law_ask_right B L).mono (by decide)
  have G__law_same : FnOk P w K mg base CX0 11 (za 3) (zl 3) ["_law_found", "_law_due"] (spSame K 4) := (ok_same L.F__law_same L.b__law_same L.m__law_same B 4).mono (by decide)
  refine F.ok sc_law (fun vs H Q E h => ?_) (fun cdv A outer s H vs Q E hr h => ?_)
  · obtain ⟨a, ns, rfl, _⟩ := h
    rfl
  obtain ⟨a, ns, rfl, hS, h63, q⟩ := h
  refine ⟨_, (pss_cons (ps_for PassesOwn.never rfl (pi_range1 (by rfl) B.range (pa_cons (pe_op op_add pe_int (pe_callB (call_min2 rfl) (by rfl) B.min boot_min (pa_cons pe_int (pa_cons (pe_callB call_len_seq (by rfl) B.len PySem.boot_len (pa_cons (pv 0) pa_nil)) pa_nil)))) pa_nil)) (pg_name (i := 1) sc_law.nd rfl (.inl rfl)) (pss_cons (ps_set (i := 2) sc_law.nd rfl (.inr rfl) (pe_call G__law_box hr (by rfl) L.m__law_box L.F__law_box.kp L.b__law_box .nil pass0 (pa_cons (pv 0) (pa_cons (pv 1) pa_nil))))
    (pss_cons (ps_par (by rfl) sc_law.nd (i := 3) (j := 4) rfl rfl (by decide) rfl rfl (pa_cons (pe_op op_add pe_int (pe_call G__law_take hr (by rfl) L.m__law_take L.F__law_take.kp L.b__law_take .nil pass0 (pa_cons (pv 2) (pa_cons pe_int pa_nil)))) (pa_cons (pe_slice sl_list (pe_call G__law_names hr (by rfl) L.m__law_names L.F__law_names.kp L.b__law_names .nil pass0 (pa_cons (pv 2) (pa_cons pe_int pa_nil))) po_none (po_some pe_int)) pa_nil)) (by rfl))
    (pss_cons (ps_set (i := 5) sc_law.nd rfl (.inl rfl) (pe_call G__law_made hr (by rfl) L.m__law_made L.F__law_made.kp L.b__law_made .nil pass0 (pa_cons (pe_call G__law_gates hr (by rfl) L.m__law_gates L.F__law_gates.kp L.b__law_gates .nil pass0 (pa_cons (pv 2) (pa_cons (pv 3) (pa_cons (pe_call G__law_take hr (by rfl) L.m__law_take L.F__law_take.kp L.b__law_take .nil pass0 (pa_cons (pv 2) (pa_cons pe_int pa_nil))) pa_nil)))) (pa_cons (pv 3) pa_nil))))
    (pss_cons (ps_set (i := 6) sc_law.nd rfl (.inr rfl) (pe_op op_add (pv 3) (pe_callB (call_lenOwn L.M_Net___len__ (ok_Net___len__ B L) L.b_Net___len__ (hr.mono (by decide)) pass0) (by rfl) B.len boot_len (pa_cons (pv 5) pa_nil))))
    (pss_cons (ps_expr (pe_meth (pv 5) L.T.cl L.M_Net_give G_Net_give hr L.b_Net_give .nil pass0 (pa_cons (pe_ix ix_list (pv 4) pe_int (fun _ _ => rfl)) (pa_cons (pe_lc (own := [("_law_turn", 7)]) (by rfl) sc_law.nd (pi_range1 (by rfl) B.range (pa_cons (pe_call G__law_take hr (by rfl) L.m__law_take L.F__law_take.kp L.b__law_take .nil pass0 (pa_cons (pv 2) (pa_cons pe_int pa_nil))) pa_nil)) (blkOk_by (own := [("_law_turn", 7)]) (N := ["_law_script", "_law_k", "_law_box_here", "_law_many", "_law_names_here", "_law_net", "_law_there", "_law_turn", "_law_ahead"]) (sc := defScope s_law) (by decide +kernel)) (fun _ _ _ _ _ => pg_name (i := 7) sc_law.nd rfl (Or.inl rfl)) (fun _ _ _ _ _ => pts_nil) (fun _ _ _ _ _ => (pe_call G__law_take hr (by rfl) L.m__law_take L.F__law_take.kp L.b__law_take .nil pass0 (pa_cons (pv 2) (pa_cons (pv 6) pa_nil))))) pa_nil))))
    (pss_cons (ps_expr (pe_meth (pv 5) L.T.cl L.M_Net_give G_Net_give hr L.b_Net_give .nil pass0 (pa_cons (pe_ix ix_list (pv 4) pe_int (fun _ _ => rfl)) (pa_cons (pe_tup (pa_cons pe_int pa_nil)) pa_nil))))
    (pss_cons (ps_for PassesOwn.never rfl (pi_range1 (by rfl) B.range (pa_cons pe_int pa_nil)) (pg_name (i := 7) sc_law.nd rfl (.inl rfl)) (pss_cons (ps_set (i := 8) sc_law.nd rfl (.inl rfl) (pe_call G__law_told hr (by rfl) L.m__law_told L.F__law_told.kp L.b__law_told .nil pass0 (pa_cons (pv 5) pa_nil)))
    (pss_one (ps_if (PW.pt (pw_or (pt_not (pt_val (pe_call G__law_ask_right hr (by rfl) L.m__law_ask_right L.F__law_ask_right.kp L.b__law_ask_right .nil pass0 (pa_cons (pv 2) (pa_cons (pv 5) (pa_cons (pv 4) pa_nil)))))) (pw_or1 (pt_not (pt_val (pe_call G__law_same hr (by rfl) L.m__law_same L.F__law_same.kp L.b__law_same .nil pass0 (pa_cons (pe_call G__law_told hr (by rfl) L.m__law_told L.F__law_told.kp L.b__law_told .nil pass0 (pa_cons (pv 5) pa_nil)) (pa_cons (pv 8) pa_nil)))))))) (pss_one (ps_ret pe_bl)) pss_nil))))
    (pss_cons (ps_if (pt_not (pt_val (pe_call G__law_same hr (by rfl) L.m__law_same L.F__law_same.kp L.b__law_same .nil pass0 (pa_cons (pe_lst (pa_cons (pe_meth (pv 5) L.T.cl L.M_Net_other G_Net_other hr L.b_Net_other .nil pass0 (pa_cons pe_int pa_nil)) (pa_cons (pe_meth (pv 5) L.T.cl L.M_Net_depth G_Net_depth hr L.b_Net_depth .nil pass0 (pa_cons (pv 6) pa_nil)) pa_nil))) (pa_cons (pe_lst (pa_cons (pv 6) (pa_cons (pe_op op_add (pe_meth (pv 5) L.T.cl L.M_Net_depth G_Net_depth hr L.b_Net_depth .nil pass0 (pa_cons pe_int pa_nil)) pe_int) pa_nil))) pa_nil))))) (pss_one (ps_ret pe_bl)) pss_nil)
    (pss_cons (ps_expr (pe_meth (pv 5) L.T.cl L.M_Net_give G_Net_give hr L.b_Net_give .nil pass0 (pa_cons pe_str (pa_cons (pe_lst (pa_cons (pv 6) pa_nil)) pa_nil))))
    (pss_one (ps_if (PW.pt (pw_or (pt_cmpR (op_nePl hr.units) (pe_meth (pv 5) L.T.cl L.M_Net_given G_Net_given hr L.b_Net_given .nil pass0 (pa_cons pe_str pa_nil)) (pe_lst (pa_cons (pv 6) pa_nil)) (nomark _)) (pw_or1 (pt_cmpR (op_nePl hr.units) (pe_meth0 (pv 5) L.T.cl L.M_Net_names G_Net_names hr L.b_Net_names .nil pass0) (pe_callB cr_sortedS (by rfl) L.z_sorted boot_sorted (pa_cons (pe_op op_cat (pv 4) (pe_lst (pa_cons pe_str pa_nil))) pa_nil)) (nomark _))))) (pss_one (ps_ret pe_bl)) pss_nil))))))))))))
    (pss_one (ps_ret pe_bl))), ?_⟩
  refine ⟨_, rfl, a, _, rfl, .inl hS, _, _, rfl, ?_⟩
  obtain ⟨n, en, hn⟩ : ∃ n : Nat, 1 + (if (((ns.map V.int).length : Nat) : Int) < 3 then (((ns.map V.int).length : Nat) : Int) else (3 : Int)) = (n : Int) ∧ n ≤ 4 := by
    split
    · exact ⟨1 + (ns.map V.int).length, by omega, by omega⟩
    · exact ⟨4, by decide, by decide⟩
  refine ⟨_, _, rfl, rfl, (n : Int), congrArg (fun z => [V.int z]) en, by omega, by omega, ?_⟩
  rw [Int.toNat_natCast]
  refine for_range (n := n) (fun i σ H5 => ∃ (y1 y2 y3 y4 y5 y6 y7 y8 : Option V), σ = [some (.ref a), y1, y2, y3, y4, y5, y6, y7, y8] ∧ Same H H5) ⟨_, _, _, _, _, _, _, _, rfl, Same.refl _⟩ ?_ ?_
  · rintro i σ H5 hi ⟨y1, y2, y3, y4, y5, y6, y7, y8, rfl, s5⟩
    dsimp only [gName]
    try simp only [L2.start, List.map_cons, List.map_nil, List.length_cons, List.length_nil, List.replicate_succ, List.replicate_zero, List.cons_append, List.nil_append, List.set_cons_succ, List.set_cons_zero, Nat.reduceAdd, Nat.reduceSub, Nat.zero_add]
    refine ⟨_, rfl, _, rfl, a, ns, _, rfl, s5.seq hS, by omega, by omega, fun b H6 nb s6 B6 => ?_⟩
    dsimp only [gName]
    try simp only [L2.start, List.map_cons, List.map_nil, List.length_cons, List.length_nil, List.replicate_succ, List.replicate_zero, List.cons_append, List.nil_append, List.set_cons_succ, List.set_cons_zero, Nat.reduceAdd, Nat.reduceSub, Nat.zero_add]
    refine ⟨_, rfl, b, _, _, rfl, B6, by decide, by decide, by decide, by omega, by decide, fun r1 H1 u1 v1 B1 k1 => ?_⟩
    replace B1 := bx1 B1
    obtain ⟨r, rfl⟩ : ∃ r : Nat, r1 = (r : Int) := ⟨r1.toNat, by omega⟩
    obtain ⟨m, em, m1, m8⟩ : ∃ m : Nat, 1 + (r : Int) = (m : Int) ∧ 1 ≤ m ∧ m ≤ 8 := ⟨1 + r, by omega, by omega, by omega⟩
    refine ⟨_, _, rfl, rfl, _, rfl, b, _, 2, rfl, B1, by omega, by omega, fun ss DN H2 lss hss nds hq lss2 nDN eDN B2 k2 => ?_⟩
    refine ⟨_, rfl, DN, _, rfl, SqL.of eDN, fun NL nNL => ?_⟩
    rw [cut2 ss lss2]
    obtain ⟨n0, n1, rest, rfl⟩ : ∃ n0 n1 rest, ss = n0 :: n1 :: rest := by
      match ss, lss2 with
      | x :: y :: z, _ => exact ⟨x, y, z, rfl⟩
    rw [show List.map V.str (List.take 2 (n0 :: n1 :: rest)) = [V.str n0, V.str n1] from rfl]
    have h0 := hss n0 (by simp)
    have q0 : HQ n0 := hq n0 (by simp)
    have q1 : HQ n1 := hq n1 (by simp)
    have n01 : n0 ≠ n1 := fun z => by
      rw [List.nodup_cons] at nds
      exact nds.1 (by rw [z]; simp)
    have sNL := same_upd (o := .lst [.str n0, .str n1]) nNL
    have eNL : (upd H2 NL (.lst [.str n0, .str n1])) NL = some (.lst [.str n0, .str n1]) := upd_same
    have nNLb : NL ≠ b := (B2.ne nNL).symm
    have nb5 : H5 b = none := nb
    have B3 := B2.same sNL
    have k03 := (k1.trans k2).trans (Keep.ofSame sNL)
    have S3 : Same H5 (upd H2 NL (.lst [.str n0, .str n1])) := sExtB s6 k03 nb5
    show ∃ v, ∃ u, [V.int (1 + (r : Int)), V.ref NL] = [v, u] ∧ _
    refine ⟨_, _, rfl, ?_⟩
    rw [em]
    generalize upd H2 NL (.lst [.str n0, .str n1]) = H3 at *
    try dsimp only [gName]
    try simp only [L2.start, List.map_cons, List.map_nil, List.length_cons, List.length_nil, List.replicate_succ, List.replicate_zero, List.cons_append, List.nil_append, List.set_cons_succ, List.set_cons_zero, Nat.reduceAdd, Nat.reduceSub, Nat.zero_add]
    replace B3 : BoxAt 200 H3 b := B3.mono (by omega)
    refine ⟨_, rfl, _, rfl, _, rfl, b, _, _, rfl, B3, by decide, by decide, by decide, by decide, by decide, fun r4 H4 u4 v4 B4 k4 => ?_⟩
    replace B4 := bx1 B4
    obtain ⟨ng, rfl⟩ : ∃ ng : Nat, r4 = (ng : Int) := ⟨r4.toNat, by omega⟩
    refine ⟨b, _, m, ng, rfl, B4, by omega, by omega, by omega, by omega, fun R gs H7 lgs ok nRb hR B7 k7 => ?_⟩
    have k37 := k4.trans k7
    have eN7 := k37 _ _ eNL nNLb
    have S7 := sExtB S3 k37 nb5
    replace B7 : BoxAt 1000 H7 b := B7.mono (by omega)
    have Zs : ∀ z ∈ [b, NL], H7 z ≠ none := memL44 B7.some (memL44 (some_ne eN7) (fun _ z => nomatch z))
    refine ⟨_, rfl, [b, NL], R, m, gs, rfl, Zs, hR, ok, by omega, by omega, fun p H8 s8 N8 ⟨z1, z2, z3, z4⟩ => ?_⟩
    have B8 := B7.same s8
    have eN8 := s8 _ _ eN7
    have S8 := S7.trans s8
    have back5 : ∀ {y : Addr}, H7 y = none → H5 y = none := fun h => back44 S7 h
    have zx := back5 z1
    have zm := back5 z2
    have zd := back5 z3
    have zn := back5 z4
    try dsimp only [gName]
    try simp only [L2.start, List.map_cons, List.map_nil, List.length_cons, List.length_nil, List.replicate_succ, List.replicate_zero, List.cons_append, List.nil_append, List.set_cons_succ, List.set_cons_zero, Nat.reduceAdd, Nat.reduceSub, Nat.zero_add]
    obtain ⟨_, _, _, dx8, _, _, f8, _⟩ := id N8
    refine ⟨_, rfl, _, rfl, p.x, dx8, _, rfl, f8, [b, NL], p, m, gs, [], rfl, N8, _, rfl, by omega, by omega, _, _, rfl, rfl, ?_⟩
    show gName 6 (.int ((m : Int) + (gs.length : Nat))) _ _ _
    rw [show (m : Int) + ((gs.length : Nat) : Int) = ((m + gs.length : Nat) : Int) by omega]
    have lg : gs.length ≤ 20 := by omega
    try dsimp only [gName]
    try simp only [L2.start, List.map_cons, List.map_nil, List.length_cons, List.length_nil, List.replicate_succ, List.replicate_zero, List.cons_append, List.nil_append, List.set_cons_succ, List.set_cons_zero, Nat.reduceAdd, Nat.reduceSub, Nat.zero_add]
    refine ⟨_, rfl, p.x, dx8, _, rfl, f8, rfl, _, rfl, NL, _, _, _, rfl, rfl, SqL.of eN8, atI_nat (j := 0) rfl, _, rfl, b, _, _, rfl, B8, by decide, by decide, by decide, by decide, by decide, fun rk H9 uk vk B9 k9 => ?_⟩
    replace B9 := bx1 B9
    obtain ⟨nk, rfl⟩ : ∃ nk : Nat, rk = (nk : Int) := ⟨rk.toNat, by omega⟩
    refine ⟨_, rfl, by omega, by omega, fun W nW => ?_⟩
    rw [Int.toNat_natCast]
    have nWb : W ≠ b := (B9.ne nW).symm
    refine lc_range (n := nk) (fun j G => Keep b H9 G ∧ BoxAt (1002 + 2 * j) G b ∧ ∃ ws : List Nat, G W = some (.lst (nts ws)) ∧ ws.length = j ∧ ∀ w ∈ ws, w < m + gs.length) ⟨Keep.new nW, (B9.same (same_upd nW)).mono (by omega), [], upd_same, rfl, fun _ h => nomatch h⟩ ?_ ?_
    · rintro j G hj ⟨kG, BG, ws, eW, lw, hws⟩
      refine ⟨rfl, yesT ?_⟩
      try dsimp only [gName]
      try simp only [L2.start, List.map_cons, List.map_nil, List.length_cons, List.length_nil, List.replicate_succ, List.replicate_zero, List.cons_append, List.nil_append, List.set_cons_succ, List.set_cons_zero, Nat.reduceAdd, Nat.reduceSub, Nat.zero_add]
      refine ⟨_, rfl, _, rfl, b, _, _, rfl, BG, by omega, by omega, by omega, by omega, by decide, fun rr G2 u v B2' k2' => ?_⟩
      replace B2' := bx1 B2'
      obtain ⟨rw', rfl⟩ : ∃ x : Nat, rr = (x : Int) := ⟨rr.toNat, by omega⟩
      refine ⟨_, k2' _ _ eW nWb, by rw [nts_len, lw]; exact small1000 (by omega), fun x o e nx => ?_, BoxAt.mono (B2'.at (upd_ne nWb.symm)) (by omega), ws ++ [rw'], by rw [upd_same]; unfold nts; rw [List.map_append]; rfl, by rw [List.length_append, lw]; rfl, fun w hw => ?_⟩
      · rw [upd_ne (ne_of_none e nW)]
        exact k2' _ _ (kG _ _ e nx) nx
      · rcases List.mem_append.mp hw with h | h
        · exact hws w h
        · rw [List.mem_singleton.mp h]
          omega
    · rintro G ⟨kG, BG, ws0, eW, lw0, hws0⟩
      have k8G := k9.trans kG
      have NG := N8.keepB k8G BG.some (by simp)
      have SG : Same H5 G := sExtB S8 k8G nb5
      have eNG := k8G _ _ eN8 nNLb
      have nbn : b ≠ p.dn := fun z => B7.some (by rw [z]; exact z4)
      have nbm : b ≠ p.lm := fun z => B7.some (by rw [z]; exact z2)
      have nbd : b ≠ p.ld := fun z => B7.some (by rw [z]; exact z3)
      have nNn : NL ≠ p.dn := fun z => some_ne eN7 (by rw [z]; exact z4)
      have nNm : NL ≠ p.lm := fun z => some_ne eN7 (by rw [z]; exact z2)
      have nNd : NL ≠ p.ld := fun z => some_ne eN7 (by rw [z]; exact z3)
      replace BG : BoxAt 1100 G b := BG.mono (by omega)
      refine ⟨[b, NL], p, m, gs, [], n0, W, ws0, rfl, NG, (fun z => nomatch z), .inl (SqL.of eW), hws0, Nat.zero_le _, fun HA kA NA => ?_⟩
      have BA := BG.keepS kA (by simpa using nbn)
      have SA := sExt SG kA (memL44 zn (fun _ z => nomatch z))
      have eNA := kA.1 _ _ eNG (by simpa using nNn)
      obtain ⟨_, _, _, dxA, _, _, fA, _⟩ := id NA
      refine ⟨_, rfl, p.x, dxA, _, rfl, fA, rfl, _, rfl, NL, _, _, _, rfl, rfl, SqL.of eNA, atI_nat (j := 1) rfl, (by show 1 ≤ sizeLine; decide), fun T nT => ?_⟩
      have sT := same_upd (o := .tup [.int 0]) nT
      have eT : (upd HA T (.tup [.int 0])) T = some (.tup [.int 0]) := upd_same
      have NT := NA.same sT
      have BT := BA.same sT
      have ST := SA.trans sT
      have eNT := sT _ _ eNA
      generalize upd HA T (.tup [.int 0]) = HT at *
      refine ⟨[b, NL], p, m, gs, [(n0, ws0)], n1, T, [0], rfl, NT, (by simpa using n01.symm), .inr (SqT.of eT), (fun w hw => by rw [List.mem_singleton.mp hw]; omega), (show 1 ≤ 900 by decide), fun HB kB NB => ?_⟩
      have BB := BT.keepS kB (by simpa using nbn)
      have SB := sExt ST kB (memL44 zn (fun _ z => nomatch z))
      have eNB := kB.1 _ _ eNT (by simpa using nNn)
      obtain ⟨nm, hnm⟩ : ∃ nm, nm = [(n0, ws0)] ++ [(n1, [0])] := ⟨_, rfl⟩
      rw [← hnm] at NB
      have en : nm.map (·.1) = [n0, n1] := by rw [hnm]; rfl
      have ln : nm.length = 2 := by rw [hnm]; rfl
      try dsimp only [tNext]
      try simp only [L2.start, List.map_cons, List.map_nil, List.length_cons, List.length_nil, List.replicate_succ, List.replicate_zero, List.cons_append, List.nil_append, List.set_cons_succ, List.set_cons_zero, Nat.reduceAdd, Nat.reduceSub, Nat.zero_add]
      refine ⟨20, rfl, by decide, by decide, ?_⟩
      refine for_range (n := 20) (fun j σ G => ∃ (y7 y8 : Option V), σ = [some (.ref a), some (.int (0 + (i : Int))), some (.ref b), some (.int (m : Int)), some (.ref NL), some (.ref p.x), some (.int ((m + gs.length : Nat) : Int)), y7, y8] ∧ Keep b HB G ∧ BoxAt (1100 + 60 * j) G b) ⟨_, _, rfl, fun _ _ e _ => e, BB.mono (by omega)⟩ ?_ ?_
      · rintro j σ G2 hj ⟨y7, y8, rfl, k2', BG2⟩
        try dsimp only [gName]
        try simp only [L2.start, List.map_cons, List.map_nil, List.length_cons, List.length_nil, List.replicate_succ, List.replicate_zero, List.cons_append, List.nil_append, List.set_cons_succ, List.set_cons_zero, Nat.reduceAdd, Nat.reduceSub, Nat.zero_add]
        have NG2 := NB.keepB k2' BG2.some (by simp)
        have eNG2 := k2' _ _ eNB nNLb
        obtain ⟨_, _, _, _, _, _, _, _⟩ := id NG2
        refine ⟨_, rfl, [b, NL], p, m, gs, nm, rfl, NG2, by omega, by omega, fun D1 HC ys1 sC hp1 hs1 dD1 => ?_⟩
        have BC := BG2.same sC
        try dsimp only [gName]
        try simp only [L2.start, List.map_cons, List.map_nil, List.length_cons, List.length_nil, List.replicate_succ, List.replicate_zero, List.cons_append, List.nil_append, List.set_cons_succ, List.set_cons_zero, Nat.reduceAdd, Nat.reduceSub, Nat.zero_add]
        refine ⟨_, rfl, _, rfl, _, rfl, [b, NL], p, m, gs, nm, b, NL, _, n0, n1, rfl, NG2.same sC, by simp, BC, by omega, nNLb, sC _ _ eNG2, en, q0, q1, h0.1, by omega, by omega, fun HD BD kD => ?_⟩
        refine ⟨_, rfl, iteF ?_⟩
        have kCD := (Keep.ofSame (b := b) sC).trans kD
        have ND := NG2.keepB kCD BD.some (by simp)
        refine ⟨_, rfl, [b, NL], p, m, gs, nm, rfl, ND, by omega, by omega, fun D2 HE ys2 sE hp2 hs2 dD2 => ?_⟩
        have ey : ys2 = ys1 := sortS_one hp2 hs2 hp1 hs1
        subst ey
        have f1 := dD1 b HE ⟨_, BG2⟩ (kD.trans (Keep.ofSame sE))
        have f2 := dD2 b HE ⟨_, BD⟩ (fun _ _ e _ => e)
        refine ⟨_, rfl, _, _, toldD m gs nm ys2, 3, rfl, rfl, ?_, f2, f1, fun HF sF => ?_⟩
        · refine lv_told m gs nm ys2 (by omega) (by rw [hp2.length_eq, List.length_map, ln]; decide) (fun x hx => ?_) (fun g hg k ws e => ?_)
          · rw [hnm] at hx
            simp only [List.cons_append, List.nil_append, List.mem_cons, List.not_mem_nil, or_false] at hx
            rcases hx with h | h <;> subst h
            · show ws0.length ≤ 1000
              omega
            · show 1 ≤ 1000
              decide
          · obtain ⟨i', hi'⟩ := List.mem_iff_getElem?.mp hg
            have := ok i' g hi'
            rw [e] at this
            rcases this.1 with h | h
            · omega
            · omega
        · refine ⟨_, rfl, iteF ?_⟩
          exact ⟨_, _, rfl, (k2'.trans kCD).trans (Keep.ofSame (sE.trans sF)), BoxAt.mono (BD.same (sE.trans sF)) (by omega)⟩
      · rintro σ G2 ⟨y7, y8, rfl, k2', BG2⟩
        have NG2 := NB.keepB k2' BG2.some (by simp)
        have eNG2 := k2' _ _ eNB nNLb
        have SG2 := sExtB SB k2' nb5
        try dsimp only [tNext]
        try simp only [L2.start, List.map_cons, List.map_nil, List.length_cons, List.length_nil, List.replicate_succ, List.replicate_zero, List.cons_append, List.nil_append, List.set_cons_succ, List.set_cons_zero, Nat.reduceAdd, Nat.reduceSub, Nat.zero_add]
        obtain ⟨_, _, _, dx2, _, _, f2, _⟩ := id NG2
        refine ⟨_, rfl, p.x, dx2, _, rfl, f2, rfl, [b, NL], p, m, gs, nm, 0, rfl, NG2, by omega, by omega, fun HH kH NH => ?_⟩
        have SH := sExt SG2 kH (memL44 zm (memL44 zd (fun _ z => nomatch z)))
        have eNH := kH.1 _ _ eNG2 (by simp only [List.mem_cons, List.not_mem_nil, or_false]; exact fun z => z.elim nNm nNd)
        have lg' : (gs ++ [Gt.w "other" [0]]).length = gs.length + 1 := by rw [List.length_append]; rfl
        obtain ⟨_, _, _, dx3, _, _, f3, _⟩ := id NH
        refine ⟨_, rfl, p.x, dx3, _, rfl, f3, rfl, _, rfl, [b, NL], p, m, gs ++ [.w "other" [0]], nm, m + gs.length, rfl, NH, by omega, fun HI sI => ?_⟩
        refine ⟨(by show 2 ≤ sizeLine; decide), fun LA nLA => ?_⟩
        have sLA := same_upd (o := .lst [.int ((m + gs.length : Nat) : Int), .int (dpW m (gs ++ [.w "other" [0]]) (m + gs.length))]) nLA
        have eLA : (upd HI LA (.lst [.int ((m + gs.length : Nat) : Int), .int (dpW m (gs ++ [.w "other" [0]]) (m + gs.length))])) LA = some (.lst [.int ((m + gs.length : Nat) : Int), .int (dpW m (gs ++ [.w "other" [0]]) (m + gs.length))]) := upd_same
        have sHI := sI.trans sLA
        generalize upd HI LA (.lst [.int ((m + gs.length : Nat) : Int), .int (dpW m (gs ++ [.w "other" [0]]) (m + gs.length))]) = HJ at *
        have NJ := NH.same sHI
        obtain ⟨_, _, _, dx4, _, _, f4, _⟩ := id NJ
        refine ⟨_, rfl, _, rfl, p.x, dx4, _, rfl, f4, rfl, [b, NL], p, m, gs ++ [.w "other" [0]], nm, 0, rfl, NJ, by omega, fun HK sK => ⟨_, _, rfl, rfl, (by show 2 ≤ sizeLine; decide), fun LB nLB => ?_⟩⟩
        have sLB := same_upd (o := .lst [.int ((m + gs.length : Nat) : Int), .int (dpW m (gs ++ [.w "other" [0]]) 0 + 1)]) nLB
        have eLB : (upd HK LB (.lst [.int ((m + gs.length : Nat) : Int), .int (dpW m (gs ++ [.w "other" [0]]) 0 + 1)])) LB = some (.lst [.int ((m + gs.length : Nat) : Int), .int (dpW m (gs ++ [.w "other" [0]]) 0 + 1)]) := upd_same
        have sJL := sK.trans sLB
        have eLA' := sJL _ _ eLA
        rw [dp_more m gs m1] at eLA'
        dsimp only
        generalize upd HK LB (.lst [.int ((m + gs.length : Nat) : Int), .int (dpW m (gs ++ [.w "other" [0]]) 0 + 1)]) = HL at *
        refine ⟨_, _, .list [.int ((m + gs.length : Nat) : Int), .int (dpW m (gs ++ [.w "other" [0]]) 0 + 1)], 3, rfl, rfl, ⟨by show 2 ≤ 1000000; decide, fun d hd => by
          simp only [List.mem_cons, List.not_mem_nil, or_false] at hd
          rcases hd with h | h <;> subst h <;> trivial⟩, .lst (SqL.of eLA') (.cons (.int _) (.cons (.int _) .nil)), .lst (SqL.of eLB) (.cons (.int _) (.cons (.int _) .nil)), fun HM sM => ?_⟩
        refine ⟨_, rfl, iteF ?_⟩
        have sAll := (sHI.trans sJL).trans sM
        have NM := NH.same sAll
        have SM := SH.trans sAll
        have eNM := sAll _ _ eNH
        try dsimp only [tNext]
        try simp only [L2.start, List.map_cons, List.map_nil, List.length_cons, List.length_nil, List.replicate_succ, List.replicate_zero, List.cons_append, List.nil_append, List.set_cons_succ, List.set_cons_zero, Nat.reduceAdd, Nat.reduceSub, Nat.zero_add]
        obtain ⟨_, _, _, dx5, _, _, f5, _⟩ := id NM
        refine ⟨_, rfl, p.x, dx5, _, rfl, f5, rfl, _, rfl, (by show 1 ≤ sizeLine; decide), fun LC nLC => ?_⟩
        have sLC := same_upd (o := .lst [.int ((m + gs.length : Nat) : Int)]) nLC
        have eLC : (upd HM LC (.lst [.int ((m + gs.length : Nat) : Int)])) LC = some (.lst [.int ((m + gs.length : Nat) : Int)]) := upd_same
        have NC := NM.same sLC
        have SC := SM.trans sLC
        have eNC := sLC _ _ eNM
        dsimp only
        generalize upd HM LC (.lst [.int ((m + gs.length : Nat) : Int)]) = HN at *
        have qn : ("q" : Str) ∉ nm.map (·.1) := by
          rw [en]
          simp only [List.mem_cons, List.not_mem_nil, or_false]
          rintro (h | h)
          · exact hq_ne q0 rfl h
          · exact hq_ne q1 rfl h
        refine ⟨[b, NL], p, m, gs ++ [.w "other" [0]], nm, "q", LC, [m + gs.length], rfl, NC, qn, .inl (SqL.of eLC), (fun w hw => by rw [List.mem_singleton.mp hw]; omega), by omega, fun HO kO NO => ?_⟩
        have SO := sExt SC kO (memL44 zn (fun _ z => nomatch z))
        have eNO := kO.1 _ _ eNC (by simpa using nNn)
        try dsimp only [tNext]
        try simp only [L2.start, List.map_cons, List.map_nil, List.length_cons, List.length_nil, List.replicate_succ, List.replicate_zero, List.cons_append, List.nil_append, List.set_cons_succ, List.set_cons_zero, Nat.reduceAdd, Nat.reduceSub, Nat.zero_add]
        obtain ⟨_, _, _, dx6, _, _, f6, _⟩ := id NO
        have hi2 : (nm ++ [(("q" : Str), [m + gs.length])])[2]? = some (("q" : Str), [m + gs.length]) := by
          rw [List.getElem?_append_right (by omega), ln]
          rfl
        refine ⟨_, rfl, p.x, dx6, _, rfl, f6, rfl, [b, NL], p, m, gs ++ [.w "other" [0]], nm ++ [(("q" : Str), [m + gs.length])], 2, "q", [m + gs.length], rfl, NO, hi2, fun t7 nt7 => ?_⟩
        have s7 := same_upd (o := .lst (nts [m + gs.length])) nt7
        have e7 : (upd HO t7 (.lst (nts [m + gs.length]))) t7 = some (.lst (nts [m + gs.length])) := upd_same
        have N7 := NO.same s7
        have S7' := SO.trans s7
        have eN7' := s7 _ _ eNO
        generalize upd HO t7 (.lst (nts [m + gs.length])) = HP at *
        refine ⟨_, rfl, (by show 1 ≤ sizeLine; decide), fun LD nLD => ?_⟩
        have sLD := same_upd (o := .lst [.int ((m + gs.length : Nat) : Int)]) nLD
        have eLD : (upd HP LD (.lst [.int ((m + gs.length : Nat) : Int)])) LD = some (.lst [.int ((m + gs.length : Nat) : Int)]) := upd_same
        have e7' := sLD _ _ e7
        have N8' := N7.same sLD
        have S8' := S7'.trans sLD
        have eN8' := sLD _ _ eN7'
        dsimp only
        generalize upd HP LD (.lst [.int ((m + gs.length : Nat) : Int)]) = HR at *
        refine ⟨.list [.int ((m + gs.length : Nat) : Int)], .list [.int ((m + gs.length : Nat) : Int)], .lst (SqL.of e7') (.cons (.int _) .nil), .lst (SqL.of eLD) (.cons (.int _) .nil), rfl, rfl, by simp [PyData.depth, PyData.depthAll], ?_⟩
        rw [PySem.SeqAt.eqv_refl_plain _ rfl]
        refine ⟨_, rfl, iteF ?_⟩
        obtain ⟨_, _, _, dx7, _, _, f7, _⟩ := id N8'
        refine ⟨_, rfl, p.x, dx7, _, rfl, f7, rfl, [b, NL], p, m, gs ++ [.w "other" [0]], nm ++ [(("q" : Str), [m + gs.length])], rfl, N8', (by rw [List.length_append, ln]; show 2 + 1 < 64; decide), fun ys3 t8 HS hp3 hs3 s9 nt8 e8 => ?_⟩
        refine ⟨_, rfl, (by show 1 ≤ sizeLine; decide), fun LE nLE => ?_⟩
        have sLE := same_upd (o := .lst [.str "q"]) nLE
        have eLE : (upd HS LE (.lst [.str "q"])) LE = some (.lst [.str "q"]) := upd_same
        have eNS := sLE _ _ (s9 _ _ eN8')
        have e8' := sLE _ _ e8
        have S9 := (S8'.trans s9).trans sLE
        generalize upd HS LE (.lst [.str "q"]) = HT' at *
        refine ⟨NL, LE, _, _, rfl, rfl, eNS, eLE, (by show 2 + 1 ≤ sizeLine; decide), fun LF nLF => ?_⟩
        have sLF := same_upd (o := .lst ([n0, n1, ("q" : Str)].map V.str)) nLF
        have eLF : (upd HT' LF (.lst ([n0, n1, ("q" : Str)].map V.str))) LF = some (.lst ([n0, n1, ("q" : Str)].map V.str)) := upd_same
        have e8a := sLF _ _ e8'
        have S10 := S9.trans sLF
        refine ⟨LF, [n0, n1, "q"], rfl, SqL.of eLF, (by show 3 < 64; decide), fun ys4 t9 hp4 hs4 nt9 => ?_⟩
        have s10 := same_upd (o := .lst (ys4.map V.str)) nt9
        have enm' : (nm ++ [(("q" : Str), [m + gs.length])]).map (·.1) = [n0, n1, "q"] := by rw [List.map_append, en]; rfl
        rw [enm'] at hp3
        have ey := sortS_one hp3 hs3 hp4 hs4
        subst ey
        have plS : (PyData.list (ys3.map PyData.str)).plain = true ∧ (PyData.list (ys3.map PyData.str)).depth ≤ 64 := pl_list fun d hd => by
          obtain ⟨x, _, rfl⟩ := List.mem_map.mp hd
          exact ⟨rfl, by simp [PyData.depth]⟩
        refine ⟨.list (ys3.map PyData.str), .list (ys3.map PyData.str), .lst (SqL.of (s10 _ _ e8a)) (dpa_strs ys3), .lst (SqL.of upd_same) (dpa_strs ys3), plS.1, plS.1, plS.2, ?_⟩
        rw [PySem.SeqAt.eqv_refl_plain _ plS.1]
        refine ⟨_, rfl, iteF ?_⟩
        exact ⟨_, _, _, _, _, _, _, _, rfl, s5.trans (S10.trans s10)⟩
  · rintro σ H5 ⟨y1, y2, y3, y4, y5, y6, y7, y8, rfl, s5⟩
    exact q _
end
theorem all_mk {l : PySem.W.OpenLaw} {w : World} {K : PySem.W.Frag} {h : Heap} {mg : Str → Option Value} {fa f1 f2 f3 f4 f5 f6 f7 f8 f9 f10 f11 f12 f13 f14 f15 f16 f17 f18 f19 f20 f21 f22 f23 f24 f25 f26 f27 f28 f29 C : Addr} (X : K.In h) (G : h.Ns mainGlobals mg) (hfa : mg "law" = some (.ref fa))
    {od1 an1 od2 an2 od3 an3 od4 an4 od5 an5 od6 an6 od7 an7 od8 an8 od9 an9 od10 an10 od11 an11 od12 an12 od13 an13 od14 an14 od15 an15 od16 an16 od17 an17 od18 an18 od19 an19 od20 an20 od21 an21 od22 an22 od23 an23 od24 an24 od25 an25 od26 an26 od27 an27 od28 an28 od29 an29 : Option Addr} {sl1 sl2 sl3 sl4 sl5 sl6 sl7 sl8 sl9 sl10 sl11 sl12 sl13 sl14 sl15 sl16 sl17 sl18 sl19 sl20 sl21 sl22 sl23 sl24 sl25 sl26 sl27 sl28 sl29 : Array (Option Value)} {oc1 kV1 dc1 pm1 cd1 ct1 oc2 kV2 dc2 pm2 cd2 ct2 oc3 kV3 dc3 pm3 cd3 ct3 oc4 kV4 dc4 pm4 cd4 ct4 oc5 kV5 dc5 pm5 cd5 ct5 oc6 kV6 dc6 pm6 cd6 ct6 oc7 kV7 dc7 pm7 cd7 ct7 oc8 kV8 dc8 pm8 cd8 ct8 oc9 kV9 dc9 pm9 cd9 ct9 oc10 kV10 dc10 pm10 cd10 ct10 oc11 kV11 dc11 pm11 cd11 ct11 oc12 kV12 dc12 pm12 cd12 ct12 oc13 kV13 dc13 pm13 cd13 ct13 oc14 kV14 dc14 pm14 cd14 ct14 oc15 kV15 dc15 pm15 cd15 ct15 oc16 kV16 dc16 pm16 cd16 ct16 oc17 kV17 dc17 pm17 cd17 ct17 oc18 kV18 dc18 pm18 cd18 ct18 oc19 kV19 dc19 pm19 cd19 ct19 oc20 kV20 dc20 pm20 cd20 ct20 oc21 kV21 dc21 pm21 cd21 ct21 oc22 kV22 dc22 pm22 cd22 ct22 oc23 kV23 dc23 pm23 cd23 ct23 oc24 kV24 dc24 pm24 cd24 ct24 oc25 kV25 dc25 pm25 cd25 ct25 oc26 kV26 dc26 pm26 cd26 ct26 oc27 kV27 dc27 pm27 cd27 ct27 oc28 kV28 dc28 pm28 cd28 ct28 oc29 kV29 dc29 pm29 cd29 ct29 : Value}
     {ENoWire INoWire NNoWire : Addr} {nmNoWire qqNoWire : Str} {bsNoWire sbNoWire : List Value} {snNoWire : List Str} {abNoWire : Bool} {coNoWire : Option Bool} {ddNoWire odINoWire anINoWire : Option Addr} {kaNoWire kbNoWire kcNoWire kdNoWire keNoWire : Option Value} {ocINoWire dcINoWire pmINoWire cdINoWire ctINoWire : Value} {slINoWire : Array (Option Value)} {p1NoWire p2NoWire q1NoWire q2NoWire q3NoWire q4NoWire : Pos} {ENoName INoName NNoName : Addr} {nmNoName qqNoName : Str} {bsNoName sbNoName : List Value} {snNoName : List Str} {abNoName : Bool} {coNoName : Option Bool} {ddNoName odINoName anINoName : Option Addr} {kaNoName kbNoName kcNoName kdNoName keNoName : Option Value} {ocINoName dcINoName pmINoName cdINoName ctINoName : Value} {slINoName : Array (Option Value)} {p1NoName p2NoName q1NoName q2NoName q3NoName q4NoName : Pos} {ETaken ITaken NTaken : Addr} {nmTaken qqTaken : Str} {bsTaken sbTaken : List Value} {snTaken : List Str} {abTaken : Bool} {coTaken : Option Bool} {ddTaken odITaken anITaken : Option Addr} {kaTaken kbTaken kcTaken kdTaken keTaken : Option Value} {ocITaken dcITaken pmITaken cdITaken ctITaken : Value} {slITaken : Array (Option Value)} {p1Taken p2Taken q1Taken q2Taken q3Taken q4Taken : Pos} {EBadForm : Addr} {EBadText : Addr} {EBadRow : Addr} {EUnfit : Addr} {ETooFew : Addr} {ENoStep : Addr} {EUndone : Addr} {EBusy : Addr} {ENoPlace : Addr} {ENoDeed : Addr} {ENoStage : Addr} {EBadDeed : Addr} {ETooMuch : Addr} {EStuck : Addr}
    (a1 : PySem.W.nsIn K mainGlobals "_law_box" = some (some (.ref f1))) (l1 : K.lookup f1 = some ⟨oc1, od1, .func (PySem.W.fnOf "_law_box" "_law_box" (defArgs sBox) (defBody sBox) (defScope sBox) .none kV1 dc1 pm1 an1 cd1 ct1), sl1⟩) (c1 : PySem.W.codeIn K cd1 "_law_box" = true) (k1 : PySem.W.keepIn K (.ref f1) = true)
    (a2 : PySem.W.nsIn K mainGlobals "_law_take" = some (some (.ref f2))) (l2 : K.lookup f2 = some ⟨oc2, od2, .func (PySem.W.fnOf "_law_take" "_law_take" (defArgs sTake) (defBody sTake) (defScope sTake) .none kV2 dc2 pm2 an2 cd2 ct2), sl2⟩) (c2 : PySem.W.codeIn K cd2 "_law_take" = true) (k2 : PySem.W.keepIn K (.ref f2) = true)
    (a3 : PySem.W.nsIn K mainGlobals "_law_same" = some (some (.ref f3))) (l3 : K.lookup f3 = some ⟨oc3, od3, .func (PySem.W.fnOf "_law_same" "_law_same" (defArgs sSame) (defBody sSame) (defScope sSame) .none kV3 dc3 pm3 an3 cd3 ct3), sl3⟩) (c3 : PySem.W.codeIn K cd3 "_law_same" = true) (k3 : PySem.W.keepIn K (.ref f3) = true)
    (a4 : PySem.W.nsIn K mainGlobals "_law_classes" = some (some (.ref f4))) (l4 : K.lookup f4 = some ⟨oc4, od4, .func (PySem.W.fnOf "_law_classes" "_law_classes" (defArgs s__law_classes) (defBody s__law_classes) (defScope s__law_classes) .none kV4 dc4 pm4 an4 cd4 ct4), sl4⟩) (c4 : PySem.W.codeIn K cd4 "_law_classes" = true) (k4 : PySem.W.keepIn K (.ref f4) = true)
    (a5 : PySem.W.nsIn K mainGlobals "_law_names" = some (some (.ref f5))) (l5 : K.lookup f5 = some ⟨oc5, od5, .func (PySem.W.fnOf "_law_names" "_law_names" (defArgs s__law_names) (defBody s__law_names) (defScope s__law_names) .none kV5 dc5 pm5 an5 cd5 ct5), sl5⟩) (c5 : PySem.W.codeIn K cd5 "_law_names" = true) (k5 : PySem.W.keepIn K (.ref f5) = true)
    (a6 : PySem.W.nsIn K mainGlobals "_law_gates" = some (some (.ref f6))) (l6 : K.lookup f6 = some ⟨oc6, od6, .func (PySem.W.fnOf "_law_gates" "_law_gates" (defArgs s__law_gates) (defBody s__law_gates) (defScope s__law_gates) .none kV6 dc6 pm6 an6 cd6 ct6), sl6⟩) (c6 : PySem.W.codeIn K cd6 "_law_gates" = true) (k6 : PySem.W.keepIn K (.ref f6) = true)
    (a7 : PySem.W.nsIn K mainGlobals "_law_made" = some (some (.ref f7))) (l7 : K.lookup f7 = some ⟨oc7, od7, .func (PySem.W.fnOf "_law_made" "_law_made" (defArgs s__law_made) (defBody s__law_made) (defScope s__law_made) .none kV7 dc7 pm7 an7 cd7 ct7), sl7⟩) (c7 : PySem.W.codeIn K cd7 "_law_made" = true) (k7 : PySem.W.keepIn K (.ref f7) = true)
    (a8 : PySem.W.nsIn K mainGlobals "_law_two" = some (some (.ref f8))) (l8 : K.lookup f8 = some ⟨oc8, od8, .func (PySem.W.fnOf "_law_two" "_law_two" (defArgs s__law_two) (defBody s__law_two) (defScope s__law_two) .none kV8 dc8 pm8 an8 cd8 ct8), sl8⟩) (c8 : PySem.W.codeIn K cd8 "_law_two" = true) (k8 : PySem.W.keepIn K (.ref f8) = true)
    (a9 : PySem.W.nsIn K mainGlobals "_law_asked" = some (some (.ref f9))) (l9 : K.lookup f9 = some ⟨oc9, od9, .func (PySem.W.fnOf "_law_asked" "_law_asked" (defArgs s__law_asked) (defBody s__law_asked) (defScope s__law_asked) .none kV9 dc9 pm9 an9 cd9 ct9), sl9⟩) (c9 : PySem.W.codeIn K cd9 "_law_asked" = true) (k9 : PySem.W.keepIn K (.ref f9) = true)
    (a10 : PySem.W.nsIn K mainGlobals "_law_strange" = some (some (.ref f10))) (l10 : K.lookup f10 = some ⟨oc10, od10, .func (PySem.W.fnOf "_law_strange" "_law_strange" (defArgs s__law_strange) (defBody s__law_strange) (defScope s__law_strange) .none kV10 dc10 pm10 an10 cd10 ct10), sl10⟩) (c10 : PySem.W.codeIn K cd10 "_law_strange" = true) (k10 : PySem.W.keepIn K (.ref f10) = true)
    (a11 : PySem.W.nsIn K mainGlobals "_law_told" = some (some (.ref f11))) (l11 : K.lookup f11 = some ⟨oc11, od11, .func (PySem.W.fnOf "_law_told" "_law_told" (defArgs s__law_told) (defBody s__law_told) (defScope s__law_told) .none kV11 dc11 pm11 an11 cd11 ct11), sl11⟩) (c11 : PySem.W.codeIn K cd11 "_law_told" = true) (k11 : PySem.W.keepIn K (.ref f11) = true)
    (a12 : PySem.W.nsIn K mainGlobals "_law_ask_right" = some (some (.ref f12))) (l12 : K.lookup f12 = some ⟨oc12, od12, .func (PySem.W.fnOf "_law_ask_right" "_law_ask_right" (defArgs s__law_ask_right) (defBody s__law_ask_right) (defScope s__law_ask_right) .none kV12 dc12 pm12 an12 cd12 ct12), sl12⟩) (c12 : PySem.W.codeIn K cd12 "_law_ask_right" = true) (k12 : PySem.W.keepIn K (.ref f12) = true)
    (a13 : PySem.W.nsIn K mainGlobals "law" = some (some (.ref f13))) (l13 : K.lookup f13 = some ⟨oc13, od13, .func (PySem.W.fnOf "law" "law" (defArgs s_law) (defBody s_law) (defScope s_law) .none kV13 dc13 pm13 an13 cd13 ct13), sl13⟩) (c13 : PySem.W.codeIn K cd13 "law" = true) (k13 : PySem.W.keepIn K (.ref f13) = true)
    (aC : PySem.W.nsIn K mainGlobals "Net" = some (some (.ref C)))
    (pgC : PySem.W.plainGet K C Str.empty = true) (hdC : PySem.W.hasDictIn K C = true) (poC : PySem.W.plainOver K C = true) (saC : PySem.W.findIn K (.ref C) "__setattr__" = some (some (.builtin "object.__setattr__"))) (mkC : PySem.W.makesIn K C = true) (kcC : PySem.W.keepIn K (.ref C) = true)
    (naC0 : PySem.W.findIn K (.ref C) "input_count" = some none)
    (naC1 : PySem.W.findIn K (.ref C) "made" = some none)
    (naC2 : PySem.W.findIn K (.ref C) "depths" = some none)
    (naC3 : PySem.W.findIn K (.ref C) "by_name" = some none)
    (a14 : PySem.W.findIn K (.ref C) "__init__" = some (some (.ref f14))) (i14 : PySem.W.isFn K (.ref f14) = true) (l14 : K.lookup f14 = some ⟨oc14, od14, .func (PySem.W.fnOf "__init__" "Net.__init__" (defArgs s_Net___init__) (defBody s_Net___init__) (defScope s_Net___init__) .none kV14 dc14 pm14 an14 cd14 ct14), sl14⟩) (c14 : PySem.W.codeIn K cd14 "Net.__init__" = true) (k14 : PySem.W.keepIn K (.ref f14) = true)
    (a15 : PySem.W.findIn K (.ref C) "both" = some (some (.ref f15))) (i15 : PySem.W.isFn K (.ref f15) = true) (l15 : K.lookup f15 = some ⟨oc15, od15, .func (PySem.W.fnOf "both" "Net.both" (defArgs s_Net_both) (defBody s_Net_both) (defScope s_Net_both) .none kV15 dc15 pm15 an15 cd15 ct15), sl15⟩) (c15 : PySem.W.codeIn K cd15 "Net.both" = true) (k15 : PySem.W.keepIn K (.ref f15) = true)
    (a16 : PySem.W.findIn K (.ref C) "either" = some (some (.ref f16))) (i16 : PySem.W.isFn K (.ref f16) = true) (l16 : K.lookup f16 = some ⟨oc16, od16, .func (PySem.W.fnOf "either" "Net.either" (defArgs s_Net_either) (defBody s_Net_either) (defScope s_Net_either) .none kV16 dc16 pm16 an16 cd16 ct16), sl16⟩) (c16 : PySem.W.codeIn K cd16 "Net.either" = true) (k16 : PySem.W.keepIn K (.ref f16) = true)
    (a17 : PySem.W.findIn K (.ref C) "unlike" = some (some (.ref f17))) (i17 : PySem.W.isFn K (.ref f17) = true) (l17 : K.lookup f17 = some ⟨oc17, od17, .func (PySem.W.fnOf "unlike" "Net.unlike" (defArgs s_Net_unlike) (defBody s_Net_unlike) (defScope s_Net_unlike) .none kV17 dc17 pm17 an17 cd17 ct17), sl17⟩) (c17 : PySem.W.codeIn K cd17 "Net.unlike" = true) (k17 : PySem.W.keepIn K (.ref f17) = true)
    (a18 : PySem.W.findIn K (.ref C) "other" = some (some (.ref f18))) (i18 : PySem.W.isFn K (.ref f18) = true) (l18 : K.lookup f18 = some ⟨oc18, od18, .func (PySem.W.fnOf "other" "Net.other" (defArgs s_Net_other) (defBody s_Net_other) (defScope s_Net_other) .none kV18 dc18 pm18 an18 cd18 ct18), sl18⟩) (c18 : PySem.W.codeIn K cd18 "Net.other" = true) (k18 : PySem.W.keepIn K (.ref f18) = true)
    (a19 : PySem.W.findIn K (.ref C) "fixed" = some (some (.ref f19))) (i19 : PySem.W.isFn K (.ref f19) = true) (l19 : K.lookup f19 = some ⟨oc19, od19, .func (PySem.W.fnOf "fixed" "Net.fixed" (defArgs s_Net_fixed) (defBody s_Net_fixed) (defScope s_Net_fixed) .none kV19 dc19 pm19 an19 cd19 ct19), sl19⟩) (c19 : PySem.W.codeIn K cd19 "Net.fixed" = true) (k19 : PySem.W.keepIn K (.ref f19) = true)
    (a20 : PySem.W.findIn K (.ref C) "put" = some (some (.ref f20))) (i20 : PySem.W.isFn K (.ref f20) = true) (l20 : K.lookup f20 = some ⟨oc20, od20, .func (PySem.W.fnOf "put" "Net.put" (defArgs s_Net_put) (defBody s_Net_put) (defScope s_Net_put) .none kV20 dc20 pm20 an20 cd20 ct20), sl20⟩) (c20 : PySem.W.codeIn K cd20 "Net.put" = true) (k20 : PySem.W.keepIn K (.ref f20) = true)
    (a21 : PySem.W.findIn K (.ref C) "put_gate" = some (some (.ref f21))) (i21 : PySem.W.isFn K (.ref f21) = true) (l21 : K.lookup f21 = some ⟨oc21, od21, .func (PySem.W.fnOf "put_gate" "Net.put_gate" (defArgs s_Net_put_gate) (defBody s_Net_put_gate) (defScope s_Net_put_gate) .none kV21 dc21 pm21 an21 cd21 ct21), sl21⟩) (c21 : PySem.W.codeIn K cd21 "Net.put_gate" = true) (k21 : PySem.W.keepIn K (.ref f21) = true)
    (a22 : PySem.W.findIn K (.ref C) "need" = some (some (.ref f22))) (i22 : PySem.W.isFn K (.ref f22) = true) (l22 : K.lookup f22 = some ⟨oc22, od22, .func (PySem.W.fnOf "need" "Net.need" (defArgs s_Net_need) (defBody s_Net_need) (defScope s_Net_need) .none kV22 dc22 pm22 an22 cd22 ct22), sl22⟩) (c22 : PySem.W.codeIn K cd22 "Net.need" = true) (k22 : PySem.W.keepIn K (.ref f22) = true)
    (a23 : PySem.W.findIn K (.ref C) "give" = some (some (.ref f23))) (i23 : PySem.W.isFn K (.ref f23) = true) (l23 : K.lookup f23 = some ⟨oc23, od23, .func (PySem.W.fnOf "give" "Net.give" (defArgs s_Net_give) (defBody s_Net_give) (defScope s_Net_give) .none kV23 dc23 pm23 an23 cd23 ct23), sl23⟩) (c23 : PySem.W.codeIn K cd23 "Net.give" = true) (k23 : PySem.W.keepIn K (.ref f23) = true)
    (a24 : PySem.W.findIn K (.ref C) "given" = some (some (.ref f24))) (i24 : PySem.W.isFn K (.ref f24) = true) (l24 : K.lookup f24 = some ⟨oc24, od24, .func (PySem.W.fnOf "given" "Net.given" (defArgs s_Net_given) (defBody s_Net_given) (defScope s_Net_given) .none kV24 dc24 pm24 an24 cd24 ct24), sl24⟩) (c24 : PySem.W.codeIn K cd24 "Net.given" = true) (k24 : PySem.W.keepIn K (.ref f24) = true)
    (a25 : PySem.W.findIn K (.ref C) "names" = some (some (.ref f25))) (i25 : PySem.W.isFn K (.ref f25) = true) (l25 : K.lookup f25 = some ⟨oc25, od25, .func (PySem.W.fnOf "names" "Net.names" (defArgs s_Net_names) (defBody s_Net_names) (defScope s_Net_names) .none kV25 dc25 pm25 an25 cd25 ct25), sl25⟩) (c25 : PySem.W.codeIn K cd25 "Net.names" = true) (k25 : PySem.W.keepIn K (.ref f25) = true)
    (a26 : PySem.W.findIn K (.ref C) "inputs" = some (some (.ref f26))) (i26 : PySem.W.isFn K (.ref f26) = true) (l26 : K.lookup f26 = some ⟨oc26, od26, .func (PySem.W.fnOf "inputs" "Net.inputs" (defArgs s_Net_inputs) (defBody s_Net_inputs) (defScope s_Net_inputs) .none kV26 dc26 pm26 an26 cd26 ct26), sl26⟩) (c26 : PySem.W.codeIn K cd26 "Net.inputs" = true) (k26 : PySem.W.keepIn K (.ref f26) = true)
    (a27 : PySem.W.findIn K (.ref C) "gates" = some (some (.ref f27))) (i27 : PySem.W.isFn K (.ref f27) = true) (l27 : K.lookup f27 = some ⟨oc27, od27, .func (PySem.W.fnOf "gates" "Net.gates" (defArgs s_Net_gates) (defBody s_Net_gates) (defScope s_Net_gates) .none kV27 dc27 pm27 an27 cd27 ct27), sl27⟩) (c27 : PySem.W.codeIn K cd27 "Net.gates" = true) (k27 : PySem.W.keepIn K (.ref f27) = true)
    (a28 : PySem.W.findIn K (.ref C) "depth" = some (some (.ref f28))) (i28 : PySem.W.isFn K (.ref f28) = true) (l28 : K.lookup f28 = some ⟨oc28, od28, .func (PySem.W.fnOf "depth" "Net.depth" (defArgs s_Net_depth) (defBody s_Net_depth) (defScope s_Net_depth) .none kV28 dc28 pm28 an28 cd28 ct28), sl28⟩) (c28 : PySem.W.codeIn K cd28 "Net.depth" = true) (k28 : PySem.W.keepIn K (.ref f28) = true)
    (a29 : PySem.W.findIn K (.ref C) "__len__" = some (some (.ref f29))) (i29 : PySem.W.isFn K (.ref f29) = true) (l29 : K.lookup f29 = some ⟨oc29, od29, .func (PySem.W.fnOf "__len__" "Net.__len__" (defArgs s_Net___len__) (defBody s_Net___len__) (defScope s_Net___len__) .none kV29 dc29 pm29 an29 cd29 ct29), sl29⟩) (c29 : PySem.W.codeIn K cd29 "Net.__len__" = true) (k29 : PySem.W.keepIn K (.ref f29) = true)
    (z1 : PySem.W.nsIn K mainGlobals "len" = some none)
    (z2 : PySem.W.nsIn K mainGlobals "abs" = some none)
    (z3 : PySem.W.nsIn K mainGlobals "int" = some none)
    (z4 : PySem.W.nsIn K mainGlobals "divmod" = some none)
    (z5 : PySem.W.nsIn K mainGlobals "list" = some none)
    (z6 : PySem.W.nsIn K mainGlobals "enumerate" = some none)
    (z7 : PySem.W.nsIn K mainGlobals "isinstance" = some none)
    (z8 : PySem.W.nsIn K mainGlobals "tuple" = some none)
    (z9 : PySem.W.nsIn K mainGlobals "str" = some none)
    (z10 : PySem.W.nsIn K mainGlobals "bool" = some none)
    (z11 : PySem.W.nsIn K mainGlobals "zip" = some none)
    (z12 : PySem.W.nsIn K mainGlobals "all" = some none)
    (z13 : PySem.W.nsIn K mainGlobals "range" = some none)
    (z14 : PySem.W.nsIn K mainGlobals "max" = some none)
    (z15 : PySem.W.nsIn K mainGlobals "any" = some none)
    (z16 : PySem.W.nsIn K mainGlobals "min" = some none)
    (z17 : PySem.W.nsIn K mainGlobals "sum" = some none)
    (zsorted : PySem.W.nsIn K mainGlobals "sorted" = some none)
    (aENoWire : PySem.W.nsIn K mainGlobals "NoWire" = some (some (.ref ENoWire)))
    (cENoWire : K.lookup ENoWire = some (excClassObj nmNoWire qqNoWire ENoWire NNoWire bsNoWire [.type "IndexError", .type "LookupError", .type "Exception", .type "BaseException", .type "object"] true snNoWire sbNoWire abNoWire coNoWire ddNoWire kaNoWire kbNoWire kcNoWire kdNoWire keNoWire "IndexError.__new__"))
    (saENoWire : PySem.W.findIn K (.ref ENoWire) "__setattr__" = some (some (.builtin "object.__setattr__")))
    (gaENoWire : PySem.W.findIn K (.ref ENoWire) "__getattribute__" = some (some (.builtin "BaseException.__getattribute__")))
    (ggENoWire : PySem.W.findIn K (.ref ENoWire) "__getattr__" = some none)
    (nwENoWire : PySem.W.findIn K (.ref ENoWire) "what" = some none)
    (inENoWire : PySem.W.findIn K (.ref ENoWire) "__init__" = some (some (.ref INoWire)))
    (tiENoWire : PySem.W.typeIn K (.ref INoWire) = some (.type "function"))
    (liENoWire : K.lookup INoWire = some ⟨ocINoWire, odINoWire, .func (PySem.W.fnOf "__init__" "NoWire.__init__" (PySem.WhX.whA p1NoWire p2NoWire) (PySem.WhX.whB q1NoWire q2NoWire q3NoWire q4NoWire) PySem.WhX.whS .none .none dcINoWire pmINoWire anINoWire cdINoWire ctINoWire), slINoWire⟩)
    (ciENoWire : PySem.W.codeIn K cdINoWire "NoWire.__init__" = true)
    (kcENoWire : PySem.W.keepIn K (.ref ENoWire) = true)
    (exENoWire : PySem.W.subIn K (.ref ENoWire) (.type "BaseException") = some true)
    (tyENoWire : PySem.W.typeIn K (.ref ENoWire) = some (.type "type"))
    (hdENoWire : PySem.W.hasDictIn K ENoWire = true)
    (clENoWire : PySem.W.findIn K (.ref ENoWire) "__class__" = some (some (.builtin "object.__class__")))
    (spENoWire : PySem.W.specialIn K (.builtin "object.__class__") "__get__" = some (some (.builtin "getset_descriptor.__get__")))
    (tkENoWire : PySem.W.takesIn K (.builtin "object.__class__") = some true)
    (mrENoWire : PySem.W.mroIn K ENoWire (.type "object") = some true)
    (suENoWire : PySem.W.subIn K (.ref ENoWire) (.ref ENoWire) = some true)
    (aENoName : PySem.W.nsIn K mainGlobals "NoName" = some (some (.ref ENoName)))
    (cENoName : K.lookup ENoName = some (excClassObj nmNoName qqNoName ENoName NNoName bsNoName [.type "KeyError", .type "LookupError", .type "Exception", .type "BaseException", .type "object"] true snNoName sbNoName abNoName coNoName ddNoName kaNoName kbNoName kcNoName kdNoName keNoName "LookupError.__new__"))
    (saENoName : PySem.W.findIn K (.ref ENoName) "__setattr__" = some (some (.builtin "object.__setattr__")))
    (gaENoName : PySem.W.findIn K (.ref ENoName) "__getattribute__" = some (some (.builtin "BaseException.__getattribute__")))
    (ggENoName : PySem.W.findIn K (.ref ENoName) "__getattr__" = some none)
    (nwENoName : PySem.W.findIn K (.ref ENoName) "what" = some none)
    (inENoName : PySem.W.findIn K (.ref ENoName) "__init__" = some (some (.ref INoName)))
    (tiENoName : PySem.W.typeIn K (.ref INoName) = some (.type "function"))
    (liENoName : K.lookup INoName = some ⟨ocINoName, odINoName, .func (PySem.W.fnOf "__init__" "NoName.__init__" (PySem.WhX.whA p1NoName p2NoName) (PySem.WhX.whB q1NoName q2NoName q3NoName q4NoName) PySem.WhX.whS .none .none dcINoName pmINoName anINoName cdINoName ctINoName), slINoName⟩)
    (ciENoName : PySem.W.codeIn K cdINoName "NoName.__init__" = true)
    (kcENoName : PySem.W.keepIn K (.ref ENoName) = true)
    (exENoName : PySem.W.subIn K (.ref ENoName) (.type "BaseException") = some true)
    (tyENoName : PySem.W.typeIn K (.ref ENoName) = some (.type "type"))
    (hdENoName : PySem.W.hasDictIn K ENoName = true)
    (clENoName : PySem.W.findIn K (.ref ENoName) "__class__" = some (some (.builtin "object.__class__")))
    (spENoName : PySem.W.specialIn K (.builtin "object.__class__") "__get__" = some (some (.builtin "getset_descriptor.__get__")))
    (tkENoName : PySem.W.takesIn K (.builtin "object.__class__") = some true)
    (mrENoName : PySem.W.mroIn K ENoName (.type "object") = some true)
    (suENoName : PySem.W.subIn K (.ref ENoName) (.ref ENoName) = some true)
    (aETaken : PySem.W.nsIn K mainGlobals "Taken" = some (some (.ref ETaken)))
    (cETaken : K.lookup ETaken = some (excClassObj nmTaken qqTaken ETaken NTaken bsTaken [.type "LookupError", .type "Exception", .type "BaseException", .type "object"] true snTaken sbTaken abTaken coTaken ddTaken kaTaken kbTaken kcTaken kdTaken keTaken "LookupError.__new__"))
    (saETaken : PySem.W.findIn K (.ref ETaken) "__setattr__" = some (some (.builtin "object.__setattr__")))
    (gaETaken : PySem.W.findIn K (.ref ETaken) "__getattribute__" = some (some (.builtin "BaseException.__getattribute__")))
    (ggETaken : PySem.W.findIn K (.ref ETaken) "__getattr__" = some none)
    (nwETaken : PySem.W.findIn K (.ref ETaken) "what" = some none)
    (inETaken : PySem.W.findIn K (.ref ETaken) "__init__" = some (some (.ref ITaken)))
    (tiETaken : PySem.W.typeIn K (.ref ITaken) = some (.type "function"))
    (liETaken : K.lookup ITaken = some ⟨ocITaken, odITaken, .func (PySem.W.fnOf "__init__" "Taken.__init__" (PySem.WhX.whA p1Taken p2Taken) (PySem.WhX.whB q1Taken q2Taken q3Taken q4Taken) PySem.WhX.whS .none .none dcITaken pmITaken anITaken cdITaken ctITaken), slITaken⟩)
    (ciETaken : PySem.W.codeIn K cdITaken "Taken.__init__" = true)
    (kcETaken : PySem.W.keepIn K (.ref ETaken) = true)
    (exETaken : PySem.W.subIn K (.ref ETaken) (.type "BaseException") = some true)
    (tyETaken : PySem.W.typeIn K (.ref ETaken) = some (.type "type"))
    (hdETaken : PySem.W.hasDictIn K ETaken = true)
    (clETaken : PySem.W.findIn K (.ref ETaken) "__class__" = some (some (.builtin "object.__class__")))
    (spETaken : PySem.W.specialIn K (.builtin "object.__class__") "__get__" = some (some (.builtin "getset_descriptor.__get__")))
    (tkETaken : PySem.W.takesIn K (.builtin "object.__class__") = some true)
    (mrETaken : PySem.W.mroIn K ETaken (.type "object") = some true)
    (suETaken : PySem.W.subIn K (.ref ETaken) (.ref ETaken) = some true)
    (aEBadForm : PySem.W.nsIn K mainGlobals "BadForm" = some (some (.ref EBadForm)))
    (tyEBadForm : PySem.W.typeIn K (.ref EBadForm) = some (.type "type"))
    (hdEBadForm : PySem.W.hasDictIn K EBadForm = true)
    (aEBadText : PySem.W.nsIn K mainGlobals "BadText" = some (some (.ref EBadText)))
    (tyEBadText : PySem.W.typeIn K (.ref EBadText) = some (.type "type"))
    (hdEBadText : PySem.W.hasDictIn K EBadText = true)
    (aEBadRow : PySem.W.nsIn K mainGlobals "BadRow" = some (some (.ref EBadRow)))
    (tyEBadRow : PySem.W.typeIn K (.ref EBadRow) = some (.type "type"))
    (hdEBadRow : PySem.W.hasDictIn K EBadRow = true)
    (aEUnfit : PySem.W.nsIn K mainGlobals "Unfit" = some (some (.ref EUnfit)))
    (tyEUnfit : PySem.W.typeIn K (.ref EUnfit) = some (.type "type"))
    (hdEUnfit : PySem.W.hasDictIn K EUnfit = true)
    (aETooFew : PySem.W.nsIn K mainGlobals "TooFew" = some (some (.ref ETooFew)))
    (tyETooFew : PySem.W.typeIn K (.ref ETooFew) = some (.type "type"))
    (hdETooFew : PySem.W.hasDictIn K ETooFew = true)
    (aENoStep : PySem.W.nsIn K mainGlobals "NoStep" = some (some (.ref ENoStep)))
    (tyENoStep : PySem.W.typeIn K (.ref ENoStep) = some (.type "type"))
    (hdENoStep : PySem.W.hasDictIn K ENoStep = true)
    (aEUndone : PySem.W.nsIn K mainGlobals "Undone" = some (some (.ref EUndone)))
    (tyEUndone : PySem.W.typeIn K (.ref EUndone) = some (.type "type"))
    (hdEUndone : PySem.W.hasDictIn K EUndone = true)
    (aEBusy : PySem.W.nsIn K mainGlobals "Busy" = some (some (.ref EBusy)))
    (tyEBusy : PySem.W.typeIn K (.ref EBusy) = some (.type "type"))
    (hdEBusy : PySem.W.hasDictIn K EBusy = true)
    (aENoPlace : PySem.W.nsIn K mainGlobals "NoPlace" = some (some (.ref ENoPlace)))
    (tyENoPlace : PySem.W.typeIn K (.ref ENoPlace) = some (.type "type"))
    (hdENoPlace : PySem.W.hasDictIn K ENoPlace = true)
    (aENoDeed : PySem.W.nsIn K mainGlobals "NoDeed" = some (some (.ref ENoDeed)))
    (tyENoDeed : PySem.W.typeIn K (.ref ENoDeed) = some (.type "type"))
    (hdENoDeed : PySem.W.hasDictIn K ENoDeed = true)
    (aENoStage : PySem.W.nsIn K mainGlobals "NoStage" = some (some (.ref ENoStage)))
    (tyENoStage : PySem.W.typeIn K (.ref ENoStage) = some (.type "type"))
    (hdENoStage : PySem.W.hasDictIn K ENoStage = true)
    (aEBadDeed : PySem.W.nsIn K mainGlobals "BadDeed" = some (some (.ref EBadDeed)))
    (tyEBadDeed : PySem.W.typeIn K (.ref EBadDeed) = some (.type "type"))
    (hdEBadDeed : PySem.W.hasDictIn K EBadDeed = true)
    (aETooMuch : PySem.W.nsIn K mainGlobals "TooMuch" = some (some (.ref ETooMuch)))
    (tyETooMuch : PySem.W.typeIn K (.ref ETooMuch) = some (.type "type"))
    (hdETooMuch : PySem.W.hasDictIn K ETooMuch = true)
    (aEStuck : PySem.W.nsIn K mainGlobals "Stuck" = some (some (.ref EStuck)))
    (tyEStuck : PySem.W.typeIn K (.ref EStuck) = some (.type "type"))
    (hdEStuck : PySem.W.hasDictIn K EStuck = true)
    (zEIndexError : PySem.W.nsIn K mainGlobals "IndexError" = some none)
    (zEKeyError : PySem.W.nsIn K mainGlobals "KeyError" = some none)
    (zELookupError : PySem.W.nsIn K mainGlobals "LookupError" = some none)
    (sqNoWire_BadForm : PySem.W.subIn K (.ref ENoWire) (.ref EBadForm) = some false)
    (nqNoWire_BadForm : (Value.ref ENoWire == Value.ref EBadForm) = false)
    (sqNoWire_BadText : PySem.W.subIn K (.ref ENoWire) (.ref EBadText) = some false)
    (nqNoWire_BadText : (Value.ref ENoWire == Value.ref EBadText) = false)
    (sqNoWire_BadRow : PySem.W.subIn K (.ref ENoWire) (.ref EBadRow) = some false)
    (nqNoWire_BadRow : (Value.ref ENoWire == Value.ref EBadRow) = false)
    (sqNoWire_Unfit : PySem.W.subIn K (.ref ENoWire) (.ref EUnfit) = some false)
    (nqNoWire_Unfit : (Value.ref ENoWire == Value.ref EUnfit) = false)
    (sqNoWire_TooFew : PySem.W.subIn K (.ref ENoWire) (.ref ETooFew) = some false)
    (nqNoWire_TooFew : (Value.ref ENoWire == Value.ref ETooFew) = false)
    (sqNoWire_NoStep : PySem.W.subIn K (.ref ENoWire) (.ref ENoStep) = some false)
    (nqNoWire_NoStep : (Value.ref ENoWire == Value.ref ENoStep) = false)
    (sqNoWire_Undone : PySem.W.subIn K (.ref ENoWire) (.ref EUndone) = some false)
    (nqNoWire_Undone : (Value.ref ENoWire == Value.ref EUndone) = false)
    (sqNoWire_Busy : PySem.W.subIn K (.ref ENoWire) (.ref EBusy) = some false)
    (nqNoWire_Busy : (Value.ref ENoWire == Value.ref EBusy) = false)
    (sqNoWire_NoPlace : PySem.W.subIn K (.ref ENoWire) (.ref ENoPlace) = some false)
    (nqNoWire_NoPlace : (Value.ref ENoWire == Value.ref ENoPlace) = false)
    (sqNoWire_NoDeed : PySem.W.subIn K (.ref ENoWire) (.ref ENoDeed) = some false)
    (nqNoWire_NoDeed : (Value.ref ENoWire == Value.ref ENoDeed) = false)
    (sqNoWire_NoName : PySem.W.subIn K (.ref ENoWire) (.ref ENoName) = some false)
    (nqNoWire_NoName : (Value.ref ENoWire == Value.ref ENoName) = false)
    (sqNoWire_NoStage : PySem.W.subIn K (.ref ENoWire) (.ref ENoStage) = some false)
    (nqNoWire_NoStage : (Value.ref ENoWire == Value.ref ENoStage) = false)
    (sqNoWire_Taken : PySem.W.subIn K (.ref ENoWire) (.ref ETaken) = some false)
    (nqNoWire_Taken : (Value.ref ENoWire == Value.ref ETaken) = false)
    (sqNoWire_BadDeed : PySem.W.subIn K (.ref ENoWire) (.ref EBadDeed) = some false)
    (nqNoWire_BadDeed : (Value.ref ENoWire == Value.ref EBadDeed) = false)
    (sqNoWire_TooMuch : PySem.W.subIn K (.ref ENoWire) (.ref ETooMuch) = some false)
    (nqNoWire_TooMuch : (Value.ref ENoWire == Value.ref ETooMuch) = false)
    (sqNoWire_Stuck : PySem.W.subIn K (.ref ENoWire) (.ref EStuck) = some false)
    (nqNoWire_Stuck : (Value.ref ENoWire == Value.ref EStuck) = false)
    (sqNoName_BadForm : PySem.W.subIn K (.ref ENoName) (.ref EBadForm) = some false)
    (nqNoName_BadForm : (Value.ref ENoName == Value.ref EBadForm) = false)
    (sqNoName_BadText : PySem.W.subIn K (.ref ENoName) (.ref EBadText) = some false)
    (nqNoName_BadText : (Value.ref ENoName == Value.ref EBadText) = false)
    (sqNoName_BadRow : PySem.W.subIn K (.ref ENoName) (.ref EBadRow) = some false)
    (nqNoName_BadRow : (Value.ref ENoName == Value.ref EBadRow) = false)
    (sqNoName_Unfit : PySem.W.subIn K (.ref ENoName) (.ref EUnfit) = some false)
    (nqNoName_Unfit : (Value.ref ENoName == Value.ref EUnfit) = false)
    (sqNoName_TooFew : PySem.W.subIn K (.ref ENoName) (.ref ETooFew) = some false)
    (nqNoName_TooFew : (Value.ref ENoName == Value.ref ETooFew) = false)
    (sqNoName_NoStep : PySem.W.subIn K (.ref ENoName) (.ref ENoStep) = some false)
    (nqNoName_NoStep : (Value.ref ENoName == Value.ref ENoStep) = false)
    (sqNoName_Undone : PySem.W.subIn K (.ref ENoName) (.ref EUndone) = some false)
    (nqNoName_Undone : (Value.ref ENoName == Value.ref EUndone) = false)
    (sqNoName_Busy : PySem.W.subIn K (.ref ENoName) (.ref EBusy) = some false)
    (nqNoName_Busy : (Value.ref ENoName == Value.ref EBusy) = false)
    (sqNoName_NoWire : PySem.W.subIn K (.ref ENoName) (.ref ENoWire) = some false)
    (nqNoName_NoWire : (Value.ref ENoName == Value.ref ENoWire) = false)
    (sqNoName_NoPlace : PySem.W.subIn K (.ref ENoName) (.ref ENoPlace) = some false)
    (nqNoName_NoPlace : (Value.ref ENoName == Value.ref ENoPlace) = false)
    (sqNoName_NoDeed : PySem.W.subIn K (.ref ENoName) (.ref ENoDeed) = some false)
    (nqNoName_NoDeed : (Value.ref ENoName == Value.ref ENoDeed) = false)
    (sqNoName_NoStage : PySem.W.subIn K (.ref ENoName) (.ref ENoStage) = some false)
    (nqNoName_NoStage : (Value.ref ENoName == Value.ref ENoStage) = false)
    (sqNoName_Taken : PySem.W.subIn K (.ref ENoName) (.ref ETaken) = some false)
    (nqNoName_Taken : (Value.ref ENoName == Value.ref ETaken) = false)
    (sqNoName_BadDeed : PySem.W.subIn K (.ref ENoName) (.ref EBadDeed) = some false)
    (nqNoName_BadDeed : (Value.ref ENoName == Value.ref EBadDeed) = false)
    (sqNoName_TooMuch : PySem.W.subIn K (.ref ENoName) (.ref ETooMuch) = some false)
    (nqNoName_TooMuch : (Value.ref ENoName == Value.ref ETooMuch) = false)
    (sqNoName_Stuck : PySem.W.subIn K (.ref ENoName) (.ref EStuck) = some false)
    (nqNoName_Stuck : (Value.ref ENoName == Value.ref EStuck) = false)
    (sqTaken_BadForm : PySem.W.subIn K (.ref ETaken) (.ref EBadForm) = some false)
    (nqTaken_BadForm : (Value.ref ETaken == Value.ref EBadForm) = false)
    (sqTaken_BadText : PySem.W.subIn K (.ref ETaken) (.ref EBadText) = some false)
    (nqTaken_BadText : (Value.ref ETaken == Value.ref EBadText) = false)
    (sqTaken_BadRow : PySem.W.subIn K (.ref ETaken) (.ref EBadRow) = some false)
    (nqTaken_BadRow : (Value.ref ETaken == Value.ref EBadRow) = false)
    (sqTaken_Unfit : PySem.W.subIn K (.ref ETaken) (.ref EUnfit) = some false)
    (nqTaken_Unfit : (Value.ref ETaken == Value.ref EUnfit) = false)
    (sqTaken_TooFew : PySem.W.subIn K (.ref ETaken) (.ref ETooFew) = some false)
    (nqTaken_TooFew : (Value.ref ETaken == Value.ref ETooFew) = false)
    (sqTaken_NoStep : PySem.W.subIn K (.ref ETaken) (.ref ENoStep) = some false)
    (nqTaken_NoStep : (Value.ref ETaken == Value.ref ENoStep) = false)
    (sqTaken_Undone : PySem.W.subIn K (.ref ETaken) (.ref EUndone) = some false)
    (nqTaken_Undone : (Value.ref ETaken == Value.ref EUndone) = false)
    (sqTaken_Busy : PySem.W.subIn K (.ref ETaken) (.ref EBusy) = some false)
    (nqTaken_Busy : (Value.ref ETaken == Value.ref EBusy) = false)
    (sqTaken_NoWire : PySem.W.subIn K (.ref ETaken) (.ref ENoWire) = some false)
    (nqTaken_NoWire : (Value.ref ETaken == Value.ref ENoWire) = false)
    (sqTaken_NoPlace : PySem.W.subIn K (.ref ETaken) (.ref ENoPlace) = some false)
    (nqTaken_NoPlace : (Value.ref ETaken == Value.ref ENoPlace) = false)
    (sqTaken_NoDeed : PySem.W.subIn K (.ref ETaken) (.ref ENoDeed) = some false)
    (nqTaken_NoDeed : (Value.ref ETaken == Value.ref ENoDeed) = false)
    (sqTaken_NoName : PySem.W.subIn K (.ref ETaken) (.ref ENoName) = some false)
    (nqTaken_NoName : (Value.ref ETaken == Value.ref ENoName) = false)
    (sqTaken_NoStage : PySem.W.subIn K (.ref ETaken) (.ref ENoStage) = some false)
    (nqTaken_NoStage : (Value.ref ETaken == Value.ref ENoStage) = false)
    (sqTaken_BadDeed : PySem.W.subIn K (.ref ETaken) (.ref EBadDeed) = some false)
    (nqTaken_BadDeed : (Value.ref ETaken == Value.ref EBadDeed) = false)
    (sqTaken_TooMuch : PySem.W.subIn K (.ref ETaken) (.ref ETooMuch) = some false)
    (nqTaken_TooMuch : (Value.ref ETaken == Value.ref ETooMuch) = false)
    (sqTaken_Stuck : PySem.W.subIn K (.ref ETaken) (.ref EStuck) = some false)
    (nqTaken_Stuck : (Value.ref ETaken == Value.ref EStuck) = false)
    (sqNoWire_IndexError : PySem.W.subIn K (.ref ENoWire) (.type "IndexError") = some true)
    (sqNoWire_KeyError : PySem.W.subIn K (.ref ENoWire) (.type "KeyError") = some false)
    (sqNoWire_LookupError : PySem.W.subIn K (.ref ENoWire) (.type "LookupError") = some true)
    (sqNoName_IndexError : PySem.W.subIn K (.ref ENoName) (.type "IndexError") = some false)
    (sqNoName_KeyError : PySem.W.subIn K (.ref ENoName) (.type "KeyError") = some true)
    (sqNoName_LookupError : PySem.W.subIn K (.ref ENoName) (.type "LookupError") = some true)
    (sqTaken_IndexError : PySem.W.subIn K (.ref ETaken) (.type "IndexError") = some false)
    (sqTaken_KeyError : PySem.W.subIn K (.ref ETaken) (.type "KeyError") = some false)
    (sqTaken_LookupError : PySem.W.subIn K (.ref ETaken) (.type "LookupError") = some true)
    : ∃ fd : FuncData, (∀ (s : Shared) (v : Value), BindsTo s fd ⟨[v], []⟩ [("_law_script", v)]) ∧ ∀ base : Heap, K.In base → base.Ns mainGlobals mg → FnOk l.prog w K mg base CX0 12 fa fd ["_law_script"] (spLaw K) := by
  have e := hfa.symm.trans (PySem.W.mg_of X G a13)
  cases e
  have F1 := fun_mk (st := sBox) l1 c1 k1
  have b1 := F1.binds (ps := ["_law_script", "_law_k"]) fun _ _ _ _ _ _ us hl => match us, hl with | [_, _], _ => rfl
  have m1 := PySem.W.mg_of X G a1
  have F2 := fun_mk (st := sTake) l2 c2 k2
  have b2 := F2.binds (ps := ["_law_box_here", "_law_size"]) fun _ _ _ _ _ _ us hl => match us, hl with | [_, _], _ => rfl
  have m2 := PySem.W.mg_of X G a2
  have F3 := fun_mk (st := sSame) l3 c3 k3
  have b3 := F3.binds (ps := ["_law_found", "_law_due"]) fun _ _ _ _ _ _ us hl => match us, hl with | [_, _], _ => rfl
  have m3 := PySem.W.mg_of X G a3
  have F4 := fun_mk (st := s__law_classes) l4 c4 k4
  have b4 := F4.binds (ps := ["_law_caught"]) fun _ _ _ _ _ _ us hl => match us, hl with | [_], _ => rfl
  have m4 := PySem.W.mg_of X G a4
  have F5 := fun_mk (st := s__law_names) l5 c5 k5
  have b5 := F5.binds (ps := ["_law_box_here", "_law_size"]) fun _ _ _ _ _ _ us hl => match us, hl with | [_, _], _ => rfl
  have m5 := PySem.W.mg_of X G a5
  have F6 := fun_mk (st := s__law_gates) l6 c6 k6
  have b6 := F6.binds (ps := ["_law_box_here", "_law_wide", "_law_size"]) fun _ _ _ _ _ _ us hl => match us, hl with | [_, _, _], _ => rfl
  have m6 := PySem.W.mg_of X G a6
  have F7 := fun_mk (st := s__law_made) l7 c7 k7
  have b7 := F7.binds (ps := ["_law_rows", "_law_wide"]) fun _ _ _ _ _ _ us hl => match us, hl with | [_, _], _ => rfl
  have m7 := PySem.W.mg_of X G a7
  have F8 := fun_mk (st := s__law_two) l8 c8 k8
  have b8 := F8.binds (ps := ["_law_net", "_law_how", "_law_wires"]) fun _ _ _ _ _ _ us hl => match us, hl with | [_, _, _], _ => rfl
  have m8 := PySem.W.mg_of X G a8
  have F9 := fun_mk (st := s__law_asked) l9 c9 k9
  have b9 := F9.binds (ps := ["_law_net", "_law_how", "_law_wires", "_law_name"]) fun _ _ _ _ _ _ us hl => match us, hl with | [_, _, _, _], _ => rfl
  have m9 := PySem.W.mg_of X G a9
  have F10 := fun_mk (st := s__law_strange) l10 c10 k10
  have b10 := F10.binds (ps := ["_law_box_here", "_law_there"]) fun _ _ _ _ _ _ us hl => match us, hl with | [_, _], _ => rfl
  have m10 := PySem.W.mg_of X G a10
  have F11 := fun_mk (st := s__law_told) l11 c11 k11
  have b11 := F11.binds (ps := ["_law_net"]) fun _ _ _ _ _ _ us hl => match us, hl with | [_], _ => rfl
  have m11 := PySem.W.mg_of X G a11
  have F12 := fun_mk (st := s__law_ask_right) l12 c12 k12
  have b12 := F12.binds (ps := ["_law_box_here", "_law_net", "_law_names_here"]) fun _ _ _ _ _ _ us hl => match us, hl with | [_, _, _], _ => rfl
  have m12 := PySem.W.mg_of X G a12
  have F13 := fun_mk (st := s_law) l13 c13 k13
  have F14 := fun_mk (st := s_Net___init__) l14 c14 k14
  have b14 := F14.binds (ps := ["self", "many"]) fun _ _ _ _ _ _ us hl => match us, hl with | [_, _], _ => rfl
  have M14 : Meth K C "__init__" f14 := ⟨a14, i14, k14⟩
  have F15 := fun_mk (st := s_Net_both) l15 c15 k15
  have b15 := F15.binds (ps := ["self", "a", "b"]) fun _ _ _ _ _ _ us hl => match us, hl with | [_, _, _], _ => rfl
  have M15 : Meth K C "both" f15 := ⟨a15, i15, k15⟩
  have F16 := fun_mk (st := s_Net_either) l16 c16 k16
  have b16 := F16.binds (ps := ["self", "a", "b"]) fun _ _ _ _ _ _ us hl => match us, hl with | [_, _, _], _ => rfl
  have M16 : Meth K C "either" f16 := ⟨a16, i16, k16⟩
  have F17 := fun_mk (st := s_Net_unlike) l17 c17 k17
  have b17 := F17.binds (ps := ["self", "a", "b"]) fun _ _ _ _ _ _ us hl => match us, hl with | [_, _, _], _ => rfl
  have M17 : Meth K C "unlike" f17 := ⟨a17, i17, k17⟩
  have F18 := fun_mk (st := s_Net_other) l18 c18 k18
  have b18 := F18.binds (ps := ["self", "a"]) fun _ _ _ _ _ _ us hl => match us, hl with | [_, _], _ => rfl
  have M18 : Meth K C "other" f18 := ⟨a18, i18, k18⟩
  have F19 := fun_mk (st := s_Net_fixed) l19 c19 k19
  have b19 := F19.binds (ps := ["self", "bit"]) fun _ _ _ _ _ _ us hl => match us, hl with | [_, _], _ => rfl
  have M19 : Meth K C "fixed" f19 := ⟨a19, i19, k19⟩
  have F20 := fun_mk (st := s_Net_put) l20 c20 k20
  have b20 := F20.binds (ps := ["self", "kind", "wires"]) fun _ _ _ _ _ _ us hl => match us, hl with | [_, _, _], _ => rfl
  have M20 : Meth K C "put" f20 := ⟨a20, i20, k20⟩
  have F21 := fun_mk (st := s_Net_put_gate) l21 c21 k21
  have b21 := F21.binds (ps := ["self", "gate", "depth"]) fun _ _ _ _ _ _ us hl => match us, hl with | [_, _, _], _ => rfl
  have M21 : Meth K C "put_gate" f21 := ⟨a21, i21, k21⟩
  have F22 := fun_mk (st := s_Net_need) l22 c22 k22
  have b22 := F22.binds (ps := ["self", "wires"]) fun _ _ _ _ _ _ us hl => match us, hl with | [_, _], _ => rfl
  have M22 : Meth K C "need" f22 := ⟨a22, i22, k22⟩
  have F23 := fun_mk (st := s_Net_give) l23 c23 k23
  have b23 := F23.binds (ps := ["self", "name", "wires"]) fun _ _ _ _ _ _ us hl => match us, hl with | [_, _, _], _ => rfl
  have M23 : Meth K C "give" f23 := ⟨a23, i23, k23⟩
  have F24 := fun_mk (st := s_Net_given) l24 c24 k24
  have b24 := F24.binds (ps := ["self", "name"]) fun _ _ _ _ _ _ us hl => match us, hl with | [_, _], _ => rfl
  have M24 : Meth K C "given" f24 := ⟨a24, i24, k24⟩
  have F25 := fun_mk (st := s_Net_names) l25 c25 k25
  have b25 := F25.binds (ps := ["self"]) fun _ _ _ _ _ _ us hl => match us, hl with | [_], _ => rfl
  have M25 : Meth K C "names" f25 := ⟨a25, i25, k25⟩
  have F26 := fun_mk (st := s_Net_inputs) l26 c26 k26
  have b26 := F26.binds (ps := ["self"]) fun _ _ _ _ _ _ us hl => match us, hl with | [_], _ => rfl
  have M26 : Meth K C "inputs" f26 := ⟨a26, i26, k26⟩
  have F27 := fun_mk (st := s_Net_gates) l27 c27 k27
  have b27 := F27.binds (ps := ["self"]) fun _ _ _ _ _ _ us hl => match us, hl with | [_], _ => rfl
  have M27 : Meth K C "gates" f27 := ⟨a27, i27, k27⟩
  have F28 := fun_mk (st := s_Net_depth) l28 c28 k28
  have b28 := F28.binds (ps := ["self", "wire"]) fun _ _ _ _ _ _ us hl => match us, hl with | [_, _], _ => rfl
  have M28 : Meth K C "depth" f28 := ⟨a28, i28, k28⟩
  have F29 := fun_mk (st := s_Net___len__) l29 c29 k29
  have b29 := F29.binds (ps := ["self"]) fun _ _ _ _ _ _ us hl => match us, hl with | [_], _ => rfl
  have M29 : Meth K C "__len__" f29 := ⟨a29, i29, k29⟩
  have clC : Cls K C := ⟨pgC, hdC, poC, saC⟩
  have mgC := PySem.W.mg_of X G aC
  have B : Bl mg := ⟨PySem.W.mg_none_of X G z1, PySem.W.mg_none_of X G z2, PySem.W.mg_none_of X G z3, PySem.W.mg_none_of X G z4, PySem.W.mg_none_of X G z5, PySem.W.mg_none_of X G z6, PySem.W.mg_none_of X G z7, PySem.W.mg_none_of X G z8, PySem.W.mg_none_of X G z9, PySem.W.mg_none_of X G z10, PySem.W.mg_none_of X G z11, PySem.W.mg_none_of X G z12, PySem.W.mg_none_of X G z13, PySem.W.mg_none_of X G z14, PySem.W.mg_none_of X G z15, PySem.W.mg_none_of X G z16, PySem.W.mg_none_of X G z17⟩
  refine ⟨PySem.W.fnOf "law" "law" (defArgs s_law) (defBody s_law) (defScope s_law) .none kV13 dc13 pm13 an13 cd13 ct13, fun s v => .of_eq rfl, fun base _ _ => ?_⟩
  have L : LL K mg C (pkz f1 [f2, f3, f4, f5, f6, f7, f8, f9, f10, f11, f12, f14, f15, f16, f17, f18, f19, f20, f21, f22, f23, f24, f25, f26, f27, f28, f29]) (pkz _ [_, _, _, _, _, _, _, _, _, _, _, _, _, _, _, _, _, _, _, _, _, _, _, _, _, _, _])  ENoWire INoWire ENoName INoName ETaken ITaken EBadForm EBadText EBadRow EUnfit ETooFew ENoStep EUndone EBusy ENoPlace ENoDeed ENoStage EBadDeed ETooMuch EStuck := ⟨F1, m1, b1, F2, m2, b2, F3, m3, b3, F4, m4, b4, F5, m5, b5, F6, m6, b6, F7, m7, b7, F8, m8, b8, F9, m9, b9, F10, m10, b10, F11, m11, b11, F12, m12, b12, ⟨clC, naC0, naC1, naC2, naC3, mgC⟩, ⟨mkC, a14, i14, kcC⟩, F14, b14, F15, b15, M15, F16, b16, M16, F17, b17, M17, F18, b18, M18, F19, b19, M19, F20, b20, M20, F21, b21, M21, F22, b22, M22, F23, b23, M23, F24, b24, M24, F25, b25, M25, F26, b26, M26, F27, b27, M27, F28, b28, M28, F29, b29, M29, PySem.W.mg_none_of X G zsorted, PySem.W.mg_of X G aENoWire, ⟨⟨gaENoWire, ggENoWire, nwENoWire, kcENoWire, exENoWire, tyENoWire, hdENoWire, clENoWire, spENoWire, tkENoWire, mrENoWire⟩, ⟨_, _, _, _, _, _, _, _, _, _, _, _, _, _, _, _, _, _, _, PySem.F.excBase_IndexError, by decide +kernel, by decide +kernel, by decide +kernel, cENoWire, by decide +kernel, PySem.F.store_IndexError.passes⟩, saENoWire, inENoWire, tiENoWire, ⟨_, _, _, _, _, _, _, _, _, _, _, _, _, _, _, liENoWire, ciENoWire⟩⟩, PySem.W.exm_ref exENoWire hdENoWire tyENoWire suENoWire, PySem.W.mg_of X G aENoName, ⟨⟨gaENoName, ggENoName, nwENoName, kcENoName, exENoName, tyENoName, hdENoName, clENoName, spENoName, tkENoName, mrENoName⟩, ⟨_, _, _, _, _, _, _, _, _, _, _, _, _, _, _, _, _, _, _, PySem.F.excBase_LookupError, by decide +kernel, by decide +kernel, by decide +kernel, cENoName, by decide +kernel, PySem.F.store_KeyError.passes⟩, saENoName, inENoName, tiENoName, ⟨_, _, _, _, _, _, _, _, _, _, _, _, _, _, _, liENoName, ciENoName⟩⟩, PySem.W.exm_ref exENoName hdENoName tyENoName suENoName, PySem.W.mg_of X G aETaken, ⟨⟨gaETaken, ggETaken, nwETaken, kcETaken, exETaken, tyETaken, hdETaken, clETaken, spETaken, tkETaken, mrETaken⟩, ⟨_, _, _, _, _, _, _, _, _, _, _, _, _, _, _, _, _, _, _, PySem.F.excBase_LookupError, by decide +kernel, by decide +kernel, by decide +kernel, cETaken, by decide +kernel, PySem.F.store_LookupError.passes⟩, saETaken, inETaken, tiETaken, ⟨_, _, _, _, _, _, _, _, _, _, _, _, _, _, _, liETaken, ciETaken⟩⟩, PySem.W.exm_ref exETaken hdETaken tyETaken suETaken, PySem.W.mg_of X G aEBadForm, PySem.W.mg_of X G aEBadText, PySem.W.mg_of X G aEBadRow, PySem.W.mg_of X G aEUnfit, PySem.W.mg_of X G aETooFew, PySem.W.mg_of X G aENoStep, PySem.W.mg_of X G aEUndone, PySem.W.mg_of X G aEBusy, PySem.W.mg_of X G aENoPlace, PySem.W.mg_of X G aENoDeed, PySem.W.mg_of X G aENoStage, PySem.W.mg_of X G aEBadDeed, PySem.W.mg_of X G aETooMuch, PySem.W.mg_of X G aEStuck, PySem.W.mg_none_of X G zEIndexError, PySem.W.mg_none_of X G zEKeyError, PySem.W.mg_none_of X G zELookupError, kit_own nqNoWire_BadForm hdEBadForm tyEBadForm sqNoWire_BadForm, kit_own nqNoWire_BadText hdEBadText tyEBadText sqNoWire_BadText, kit_own nqNoWire_BadRow hdEBadRow tyEBadRow sqNoWire_BadRow, kit_own nqNoWire_Unfit hdEUnfit tyEUnfit sqNoWire_Unfit, kit_own nqNoWire_TooFew hdETooFew tyETooFew sqNoWire_TooFew, kit_own nqNoWire_NoStep hdENoStep tyENoStep sqNoWire_NoStep, kit_own nqNoWire_Undone hdEUndone tyEUndone sqNoWire_Undone, kit_own nqNoWire_Busy hdEBusy tyEBusy sqNoWire_Busy, kit_self, kit_own nqNoWire_NoPlace hdENoPlace tyENoPlace sqNoWire_NoPlace, kit_own nqNoWire_NoDeed hdENoDeed tyENoDeed sqNoWire_NoDeed, kit_own nqNoWire_NoName hdENoName tyENoName sqNoWire_NoName, kit_own nqNoWire_NoStage hdENoStage tyENoStage sqNoWire_NoStage, kit_own nqNoWire_Taken hdETaken tyETaken sqNoWire_Taken, kit_own nqNoWire_BadDeed hdEBadDeed tyEBadDeed sqNoWire_BadDeed, kit_own nqNoWire_TooMuch hdETooMuch tyETooMuch sqNoWire_TooMuch, kit_own nqNoWire_Stuck hdEStuck tyEStuck sqNoWire_Stuck, kit_own nqNoName_BadForm hdEBadForm tyEBadForm sqNoName_BadForm, kit_own nqNoName_BadText hdEBadText tyEBadText sqNoName_BadText, kit_own nqNoName_BadRow hdEBadRow tyEBadRow sqNoName_BadRow, kit_own nqNoName_Unfit hdEUnfit tyEUnfit sqNoName_Unfit, kit_own nqNoName_TooFew hdETooFew tyETooFew sqNoName_TooFew, kit_own nqNoName_NoStep hdENoStep tyENoStep sqNoName_NoStep, kit_own nqNoName_Undone hdEUndone tyEUndone sqNoName_Undone, kit_own nqNoName_Busy hdEBusy tyEBusy sqNoName_Busy, kit_own nqNoName_NoWire hdENoWire tyENoWire sqNoName_NoWire, kit_own nqNoName_NoPlace hdENoPlace tyENoPlace sqNoName_NoPlace, kit_own nqNoName_NoDeed hdENoDeed tyENoDeed sqNoName_NoDeed, kit_self, kit_own nqNoName_NoStage hdENoStage tyENoStage sqNoName_NoStage, kit_own nqNoName_Taken hdETaken tyETaken sqNoName_Taken, kit_own nqNoName_BadDeed hdEBadDeed tyEBadDeed sqNoName_BadDeed, kit_own nqNoName_TooMuch hdETooMuch tyETooMuch sqNoName_TooMuch, kit_own nqNoName_Stuck hdEStuck tyEStuck sqNoName_Stuck, kit_own nqTaken_BadForm hdEBadForm tyEBadForm sqTaken_BadForm, kit_own nqTaken_BadText hdEBadText tyEBadText sqTaken_BadText, kit_own nqTaken_BadRow hdEBadRow tyEBadRow sqTaken_BadRow, kit_own nqTaken_Unfit hdEUnfit tyEUnfit sqTaken_Unfit, kit_own nqTaken_TooFew hdETooFew tyETooFew sqTaken_TooFew, kit_own nqTaken_NoStep hdENoStep tyENoStep sqTaken_NoStep, kit_own nqTaken_Undone hdEUndone tyEUndone sqTaken_Undone, kit_own nqTaken_Busy hdEBusy tyEBusy sqTaken_Busy, kit_own nqTaken_NoWire hdENoWire tyENoWire sqTaken_NoWire, kit_own nqTaken_NoPlace hdENoPlace tyENoPlace sqTaken_NoPlace, kit_own nqTaken_NoDeed hdENoDeed tyENoDeed sqTaken_NoDeed, kit_own nqTaken_NoName hdENoName tyENoName sqTaken_NoName, kit_own nqTaken_NoStage hdENoStage tyENoStage sqTaken_NoStage, kit_self, kit_own nqTaken_BadDeed hdEBadDeed tyEBadDeed sqTaken_BadDeed, kit_own nqTaken_TooMuch hdETooMuch tyETooMuch sqTaken_TooMuch, kit_own nqTaken_Stuck hdEStuck tyEStuck sqTaken_Stuck, kit_bt sqNoWire_IndexError, kit_bt sqNoWire_KeyError, kit_bt sqNoWire_LookupError, kit_bt sqNoName_IndexError, kit_bt sqNoName_KeyError, kit_bt sqNoName_LookupError, kit_bt sqTaken_IndexError, kit_bt sqTaken_KeyError, kit_bt sqTaken_LookupError, PySem.W.exm_ref exENoName hdENoName tyENoName sqNoWire_NoName, PySem.W.exm_ref exETaken hdETaken tyETaken sqNoWire_Taken, PySem.W.exm_ref exENoWire hdENoWire tyENoWire sqNoName_NoWire, PySem.W.exm_ref exETaken hdETaken tyETaken sqNoName_Taken, PySem.W.exm_ref exENoWire hdENoWire tyENoWire sqTaken_NoWire, PySem.W.exm_ref exENoName hdENoName tyENoName sqTaken_NoName⟩
  exact ok_law F13 B L
end GZ
open PySem PySem.W PyProof.Rows
set_option maxRecDepth 100000 in
set_option maxHeartbeats 0 in
theorem PySem.Challenge.cw_guessedzeros_k44_wires_and_names_that_ar_holds : PySem.Challenge.rw_guessedzeros_k44_wires_and_names_that_ar.Holds := by
  w_on; o_law; k_headLK; (case hw => w_witness2)
  k_fill
  refine L2.walk_of (l := PySem.Challenge.rw_guessedzeros_k44_wires_and_names_that_ar) (n := 63) (k := 12) (x := "_law_script") (CX := fun _ => L2.CX0) (sp := fun w => GZ.spLaw _) rfl (by decide) rfl ⟨rfl, by decide, by decide⟩ (fun w h Y => PySem.W.kIn_of Y) ?F (fun _ _ a ns hl _ hS => ⟨a, ns, rfl, hS, hl, fun _ => rfl⟩) (fun _ _ _ _ _ h => h)
  case F =>
    intro w mg fa h KX G hmg
    refine' GZ.all_mk KX G hmg ?a1 ?l1 ?c1 ?k1 ?a2 ?l2 ?c2 ?k2 ?a3 ?l3 ?c3 ?k3 ?a4 ?l4 ?c4 ?k4 ?a5 ?l5 ?c5 ?k5 ?a6 ?l6 ?c6 ?k6 ?a7 ?l7 ?c7 ?k7 ?a8 ?l8 ?c8 ?k8 ?a9 ?l9 ?c9 ?k9 ?a10 ?l10 ?c10 ?k10 ?a11 ?l11 ?c11 ?k11 ?a12 ?l12 ?c12 ?k12 ?a13 ?l13 ?c13 ?k13 ?aC ?pgC ?hdC ?poC ?saC ?mkC ?kcC ?naC0 ?naC1 ?naC2 ?naC3 ?a14 ?i14 ?l14 ?c14 ?k14 ?a15 ?i15 ?l15 ?c15 ?k15 ?a16 ?i16 ?l16 ?c16 ?k16 ?a17 ?i17 ?l17 ?c17 ?k17 ?a18 ?i18 ?l18 ?c18 ?k18 ?a19 ?i19 ?l19 ?c19 ?k19 ?a20 ?i20 ?l20 ?c20 ?k20 ?a21 ?i21 ?l21 ?c21 ?k21 ?a22 ?i22 ?l22 ?c22 ?k22 ?a23 ?i23 ?l23 ?c23 ?k23 ?a24 ?i24 ?l24 ?c24 ?k24 ?a25 ?i25 ?l25 ?c25 ?k25 ?a26 ?i26 ?l26 ?c26 ?k26 ?a27 ?i27 ?l27 ?c27 ?k27 ?a28 ?i28 ?l28 ?c28 ?k28 ?a29 ?i29 ?l29 ?c29 ?k29 ?z1 ?z2 ?z3 ?z4 ?z5 ?z6 ?z7 ?z8 ?z9 ?z10 ?z11 ?z12 ?z13 ?z14 ?z15 ?z16 ?z17 ?zsorted ?aENoWire ?cENoWire ?saENoWire ?gaENoWire ?ggENoWire ?nwENoWire ?inENoWire ?tiENoWire ?liENoWire ?ciENoWire ?kcENoWire ?exENoWire ?tyENoWire ?hdENoWire ?clENoWire ?spENoWire ?tkENoWire ?mrENoWire ?suENoWire ?aENoName ?cENoName ?saENoName ?gaENoName ?ggENoName ?nwENoName ?inENoName ?tiENoName ?liENoName ?ciENoName ?kcENoName ?exENoName ?tyENoName ?hdENoName ?clENoName ?spENoName ?tkENoName ?mrENoName ?suENoName ?aETaken ?cETaken ?saETaken ?gaETaken ?ggETaken ?nwETaken ?inETaken ?tiETaken ?liETaken ?ciETaken ?kcETaken ?exETaken ?tyETaken ?hdETaken ?clETaken ?spETaken ?tkETaken ?mrETaken ?suETaken ?aEBadForm ?tyEBadForm ?hdEBadForm ?aEBadText ?tyEBadText ?hdEBadText ?aEBadRow ?tyEBadRow ?hdEBadRow ?aEUnfit ?tyEUnfit ?hdEUnfit ?aETooFew ?tyETooFew ?hdETooFew ?aENoStep ?tyENoStep ?hdENoStep ?aEUndone ?tyEUndone ?hdEUndone ?aEBusy ?tyEBusy ?hdEBusy ?aENoPlace ?tyENoPlace ?hdENoPlace ?aENoDeed ?tyENoDeed ?hdENoDeed ?aENoStage ?tyENoStage ?hdENoStage ?aEBadDeed ?tyEBadDeed ?hdEBadDeed ?aETooMuch ?tyETooMuch ?hdETooMuch ?aEStuck ?tyEStuck ?hdEStuck ?zEIndexError ?zEKeyError ?zELookupError ?sqNoWire_BadForm ?nqNoWire_BadForm ?sqNoWire_BadText ?nqNoWire_BadText ?sqNoWire_BadRow ?nqNoWire_BadRow ?sqNoWire_Unfit ?nqNoWire_Unfit ?sqNoWire_TooFew ?nqNoWire_TooFew ?sqNoWire_NoStep ?nqNoWire_NoStep ?sqNoWire_Undone ?nqNoWire_Undone ?sqNoWire_Busy ?nqNoWire_Busy ?sqNoWire_NoPlace ?nqNoWire_NoPlace ?sqNoWire_NoDeed ?nqNoWire_NoDeed ?sqNoWire_NoName ?nqNoWire_NoName ?sqNoWire_NoStage ?nqNoWire_NoStage ?sqNoWire_Taken ?nqNoWire_Taken ?sqNoWire_BadDeed ?nqNoWire_BadDeed ?sqNoWire_TooMuch ?nqNoWire_TooMuch ?sqNoWire_Stuck ?nqNoWire_Stuck ?sqNoName_BadForm ?nqNoName_BadForm ?sqNoName_BadText ?nqNoName_BadText ?sqNoName_BadRow ?nqNoName_BadRow ?sqNoName_Unfit ?nqNoName_Unfit ?sqNoName_TooFew ?nqNoName_TooFew ?sqNoName_NoStep ?nqNoName_NoStep ?sqNoName_Undone ?nqNoName_Undone ?sqNoName_Busy ?nqNoName_Busy ?sqNoName_NoWire ?nqNoName_NoWire ?sqNoName_NoPlace ?nqNoName_NoPlace ?sqNoName_NoDeed ?nqNoName_NoDeed ?sqNoName_NoStage ?nqNoName_NoStage ?sqNoName_Taken ?nqNoName_Taken ?sqNoName_BadDeed ?nqNoName_BadDeed ?sqNoName_TooMuch ?nqNoName_TooMuch ?sqNoName_Stuck ?nqNoName_Stuck ?sqTaken_BadForm ?nqTaken_BadForm ?sqTaken_BadText ?nqTaken_BadText ?sqTaken_BadRow ?nqTaken_BadRow ?sqTaken_Unfit ?nqTaken_Unfit ?sqTaken_TooFew ?nqTaken_TooFew ?sqTaken_NoStep ?nqTaken_NoStep ?sqTaken_Undone ?nqTaken_Undone ?sqTaken_Busy ?nqTaken_Busy ?sqTaken_NoWire ?nqTaken_NoWire ?sqTaken_NoPlace ?nqTaken_NoPlace ?sqTaken_NoDeed ?nqTaken_NoDeed ?sqTaken_NoName ?nqTaken_NoName ?sqTaken_NoStage ?nqTaken_NoStage ?sqTaken_BadDeed ?nqTaken_BadDeed ?sqTaken_TooMuch ?nqTaken_TooMuch ?sqTaken_Stuck ?nqTaken_Stuck ?sqNoWire_IndexError ?sqNoWire_KeyError ?sqNoWire_LookupError ?sqNoName_IndexError ?sqNoName_KeyError ?sqNoName_LookupError ?sqTaken_IndexError ?sqTaken_KeyError ?sqTaken_LookupError
    (case a1 => k_is)
    (case l1 => k_is)
    (case c1 => k_is)
    (case k1 => k_is)
    (case a2 => k_is)
    (case l2 => k_is)
    (case c2 => k_is)
    (case k2 => k_is)
    (case a3 => k_is)
    (case l3 => k_is)
    (case c3 => k_is)
    (case k3 => k_is)
    (case a4 => k_is)
    (case l4 => k_is)
    (case c4 => k_is)
    (case k4 => k_is)
    (case a5 => k_is)
    (case l5 => k_is)
    (case c5 => k_is)
    (case k5 => k_is)
    (case a6 => k_is)
    (case l6 => k_is)
    (case c6 => k_is)
    (case k6 => k_is)
    (case a7 => k_is)
    (case l7 => k_is)
    (case c7 => k_is)
    (case k7 => k_is)
    (case a8 => k_is)
    (case l8 => k_is)
    (case c8 => k_is)
    (case k8 => k_is)
    (case a9 => k_is)
    (case l9 => k_is)
    (case c9 => k_is)
    (case k9 => k_is)
    (case a10 => k_is)
    (case l10 => k_is)
    (case c10 => k_is)
    (case k10 => k_is)
    (case a11 => k_is)
    (case l11 => k_is)
    (case c11 => k_is)
    (case k11 => k_is)
    (case a12 => k_is)
    (case l12 => k_is)
    (case c12 => k_is)
    (case k12 => k_is)
    (case a13 => k_is)
    (case l13 => k_is)
    (case c13 => k_is)
    (case k13 => k_is)
    (case aC => k_is)
    (case pgC => k_is)
    (case hdC => k_is)
    (case poC => k_is)
    (case saC => k_is)
    (case mkC => k_is)
    (case kcC => k_is)
    (case naC0 => k_is)
    (case naC1 => k_is)
    (case naC2 => k_is)
    (case naC3 => k_is)
    (case a14 => k_is)
    (case i14 => k_is)
    (case l14 => k_is)
    (case c14 => k_is)
    (case k14 => k_is)
    (case a15 => k_is)
    (case i15 => k_is)
    (case l15 => k_is)
    (case c15 => k_is)
    (case k15 => k_is)
    (case a16 => k_is)
    (case i16 => k_is)
    (case l16 => k_is)
    (case c16 => k_is)
    (case k16 => k_is)
    (case a17 => k_is)
    (case i17 => k_is)
    (case l17 => k_is)
    (case c17 => k_is)
    (case k17 => k_is)
    (case a18 => k_is)
    (case i18 => k_is)
    (case l18 => k_is)
    (case c18 => k_is)
    (case k18 => k_is)
    (case a19 => k_is)
    (case i19 => k_is)
    (case l19 => k_is)
    (case c19 => k_is)
    (case k19 => k_is)
    (case a20 => k_is)
    (case i20 => k_is)
    (case l20 => k_is)
    (case c20 => k_is)
    (case k20 => k_is)
    (case a21 => k_is)
    (case i21 => k_is)
    (case l21 => k_is)
    (case c21 => k_is)
    (case k21 => k_is)
    (case a22 => k_is)
    (case i22 => k_is)
    (case l22 => k_is)
    (case c22 => k_is)
    (case k22 => k_is)
    (case a23 => k_is)
    (case i23 => k_is)
    (case l23 => k_is)
    (case c23 => k_is)
    (case k23 => k_is)
    (case a24 => k_is)
    (case i24 => k_is)
    (case l24 => k_is)
    (case c24 => k_is)
    (case k24 => k_is)
    (case a25 => k_is)
    (case i25 => k_is)
    (case l25 => k_is)
    (case c25 => k_is)
    (case k25 => k_is)
    (case a26 => k_is)
    (case i26 => k_is)
    (case l26 => k_is)
    (case c26 => k_is)
    (case k26 => k_is)
    (case a27 => k_is)
    (case i27 => k_is)
    (case l27 => k_is)
    (case c27 => k_is)
    (case k27 => k_is)
    (case a28 => k_is)
    (case i28 => k_is)
    (case l28 => k_is)
    (case c28 => k_is)
    (case k28 => k_is)
    (case a29 => k_is)
    (case i29 => k_is)
    (case l29 => k_is)
    (case c29 => k_is)
    (case k29 => k_is)
    (case z1 => k_is)
    (case z2 => k_is)
    (case z3 => k_is)
    (case z4 => k_is)
    (case z5 => k_is)
    (case z6 => k_is)
    (case z7 => k_is)
    (case z8 => k_is)
    (case z9 => k_is)
    (case z10 => k_is)
    (case z11 => k_is)
    (case z12 => k_is)
    (case z13 => k_is)
    (case z14 => k_is)
    (case z15 => k_is)
    (case z16 => k_is)
    (case z17 => k_is)
    (case zsorted => k_is)
    (case aENoWire => k_is)
    (case cENoWire => k_is)
    (case saENoWire => k_is)
    (case gaENoWire => k_is)
    (case ggENoWire => k_is)
    (case nwENoWire => k_is)
    (case inENoWire => k_is)
    (case tiENoWire => k_is)
    (case liENoWire => k_is)
    (case ciENoWire => k_is)
    (case kcENoWire => k_is)
    (case exENoWire => k_is)
    (case tyENoWire => k_is)
    (case hdENoWire => k_is)
    (case clENoWire => k_is)
    (case spENoWire => k_is)
    (case tkENoWire => k_is)
    (case mrENoWire => k_is)
    (case suENoWire => first | rfl | k_is)
    (case aENoName => k_is)
    (case cENoName => k_is)
    (case saENoName => k_is)
    (case gaENoName => k_is)
    (case ggENoName => k_is)
    (case nwENoName => k_is)
    (case inENoName => k_is)
    (case tiENoName => k_is)
    (case liENoName => k_is)
    (case ciENoName => k_is)
    (case kcENoName => k_is)
    (case exENoName => k_is)
    (case tyENoName => k_is)
    (case hdENoName => k_is)
    (case clENoName => k_is)
    (case spENoName => k_is)
    (case tkENoName => k_is)
    (case mrENoName => k_is)
    (case suENoName => first | rfl | k_is)
    (case aETaken => k_is)
    (case cETaken => k_is)
    (case saETaken => k_is)
    (case gaETaken => k_is)
    (case ggETaken => k_is)
    (case nwETaken => k_is)
    (case inETaken => k_is)
    (case tiETaken => k_is)
    (case liETaken => k_is)
    (case ciETaken => k_is)
    (case kcETaken => k_is)
    (case exETaken => k_is)
    (case tyETaken => k_is)
    (case hdETaken => k_is)
    (case clETaken => k_is)
    (case spETaken => k_is)
    (case tkETaken => k_is)
    (case mrETaken => k_is)
    (case suETaken => first | rfl | k_is)
    (case aEBadForm => k_is)
    (case tyEBadForm => k_is)
    (case hdEBadForm => k_is)
    (case aEBadText => k_is)
    (case tyEBadText => k_is)
    (case hdEBadText => k_is)
    (case aEBadRow => k_is)
    (case tyEBadRow => k_is)
    (case hdEBadRow => k_is)
    (case aEUnfit => k_is)
    (case tyEUnfit => k_is)
    (case hdEUnfit => k_is)
    (case aETooFew => k_is)
    (case tyETooFew => k_is)
    (case hdETooFew => k_is)
    (case aENoStep => k_is)
    (case tyENoStep => k_is)
    (case hdENoStep => k_is)
    (case aEUndone => k_is)
    (case tyEUndone => k_is)
    (case hdEUndone => k_is)
    (case aEBusy => k_is)
    (case tyEBusy => k_is)
    (case hdEBusy => k_is)
    (case aENoPlace => k_is)
    (case tyENoPlace => k_is)
    (case hdENoPlace => k_is)
    (case aENoDeed => k_is)
    (case tyENoDeed => k_is)
    (case hdENoDeed => k_is)
    (case aENoStage => k_is)
    (case tyENoStage => k_is)
    (case hdENoStage => k_is)
    (case aEBadDeed => k_is)
    (case tyEBadDeed => k_is)
    (case hdEBadDeed => k_is)
    (case aETooMuch => k_is)
    (case tyETooMuch => k_is)
    (case hdETooMuch => k_is)
    (case aEStuck => k_is)
    (case tyEStuck => k_is)
    (case hdEStuck => k_is)
    (case zEIndexError => k_is)
    (case zEKeyError => k_is)
    (case zELookupError => k_is)
    (case sqNoWire_BadForm => first | rfl | k_is)
    (case nqNoWire_BadForm => rfl)
    (case sqNoWire_BadText => first | rfl | k_is)
    (case nqNoWire_BadText => rfl)
    (case sqNoWire_BadRow => first | rfl | k_is)
    (case nqNoWire_BadRow => rfl)
    (case sqNoWire_Unfit => first | rfl | k_is)
    (case nqNoWire_Unfit => rfl)
    (case sqNoWire_TooFew => first | rfl | k_is)
    (case nqNoWire_TooFew => rfl)
    (case sqNoWire_NoStep => first | rfl | k_is)
    (case nqNoWire_NoStep => rfl)
    (case sqNoWire_Undone => first | rfl | k_is)
    (case nqNoWire_Undone => rfl)
    (case sqNoWire_Busy => first | rfl | k_is)
    (case nqNoWire_Busy => rfl)
    (case sqNoWire_NoPlace => first | rfl | k_is)
    (case nqNoWire_NoPlace => rfl)
    (case sqNoWire_NoDeed => first | rfl | k_is)
    (case nqNoWire_NoDeed => rfl)
    (case sqNoWire_NoName => first | rfl | k_is)
    (case nqNoWire_NoName => rfl)
    (case sqNoWire_NoStage => first | rfl | k_is)
    (case nqNoWire_NoStage => rfl)
    (case sqNoWire_Taken => first | rfl | k_is)
    (case nqNoWire_Taken => rfl)
    (case sqNoWire_BadDeed => first | rfl | k_is)
    (case nqNoWire_BadDeed => rfl)
    (case sqNoWire_TooMuch => first | rfl | k_is)
    (case nqNoWire_TooMuch => rfl)
    (case sqNoWire_Stuck => first | rfl | k_is)
    (case nqNoWire_Stuck => rfl)
    (case sqNoName_BadForm => first | rfl | k_is)
    (case nqNoName_BadForm => rfl)
    (case sqNoName_BadText => first | rfl | k_is)
    (case nqNoName_BadText => rfl)
    (case sqNoName_BadRow => first | rfl | k_is)
    (case nqNoName_BadRow => rfl)
    (case sqNoName_Unfit => first | rfl | k_is)
    (case nqNoName_Unfit => rfl)
    (case sqNoName_TooFew => first | rfl | k_is)
    (case nqNoName_TooFew => rfl)
    (case sqNoName_NoStep => first | rfl | k_is)
    (case nqNoName_NoStep => rfl)
    (case sqNoName_Undone => first | rfl | k_is)
    (case nqNoName_Undone => rfl)
    (case sqNoName_Busy => first | rfl | k_is)
    (case nqNoName_Busy => rfl)
    (case sqNoName_NoWire => first | rfl | k_is)
    (case nqNoName_NoWire => rfl)
    (case sqNoName_NoPlace => first | rfl | k_is)
    (case nqNoName_NoPlace => rfl)
    (case sqNoName_NoDeed => first | rfl | k_is)
    (case nqNoName_NoDeed => rfl)
    (case sqNoName_NoStage => first | rfl | k_is)
    (case nqNoName_NoStage => rfl)
    (case sqNoName_Taken => first | rfl | k_is)
    (case nqNoName_Taken => rfl)
    (case sqNoName_BadDeed => first | rfl | k_is)
    (case nqNoName_BadDeed => rfl)
    (case sqNoName_TooMuch => first | rfl | k_is)
    (case nqNoName_TooMuch => rfl)
    (case sqNoName_Stuck => first | rfl | k_is)
    (case nqNoName_Stuck => rfl)
    (case sqTaken_BadForm => first | rfl | k_is)
    (case nqTaken_BadForm => rfl)
    (case sqTaken_BadText => first | rfl | k_is)
    (case nqTaken_BadText => rfl)
    (case sqTaken_BadRow => first | rfl | k_is)
    (case nqTaken_BadRow => rfl)
    (case sqTaken_Unfit => first | rfl | k_is)
    (case nqTaken_Unfit => rfl)
    (case sqTaken_TooFew => first | rfl | k_is)
    (case nqTaken_TooFew => rfl)
    (case sqTaken_NoStep => first | rfl | k_is)
    (case nqTaken_NoStep => rfl)
    (case sqTaken_Undone => first | rfl | k_is)
    (case nqTaken_Undone => rfl)
    (case sqTaken_Busy => first | rfl | k_is)
    (case nqTaken_Busy => rfl)
    (case sqTaken_NoWire => first | rfl | k_is)
    (case nqTaken_NoWire => rfl)
    (case sqTaken_NoPlace => first | rfl | k_is)
    (case nqTaken_NoPlace => rfl)
    (case sqTaken_NoDeed => first | rfl | k_is)
    (case nqTaken_NoDeed => rfl)
    (case sqTaken_NoName => first | rfl | k_is)
    (case nqTaken_NoName => rfl)
    (case sqTaken_NoStage => first | rfl | k_is)
    (case nqTaken_NoStage => rfl)
    (case sqTaken_BadDeed => first | rfl | k_is)
    (case nqTaken_BadDeed => rfl)
    (case sqTaken_TooMuch => first | rfl | k_is)
    (case nqTaken_TooMuch => rfl)
    (case sqTaken_Stuck => first | rfl | k_is)
    (case nqTaken_Stuck => rfl)
    (case sqNoWire_IndexError => first | rfl | k_is)
    (case sqNoWire_KeyError => first | rfl | k_is)
    (case sqNoWire_LookupError => first | rfl | k_is)
    (case sqNoName_IndexError => first | rfl | k_is)
    (case sqNoName_KeyError => first | rfl | k_is)
    (case sqNoName_LookupError => first | rfl | k_is)
    (case sqTaken_IndexError => first | rfl | k_is)
    (case sqTaken_KeyError => first | rfl | k_is)
    (case sqTaken_LookupError => first | rfl | k_is)

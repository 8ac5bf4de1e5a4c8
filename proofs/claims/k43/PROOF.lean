import PyProof.Rows.All
import Wide.All
import OpenK.AllK
import Wide.FinOn
import HandS.ForMost
import HandS.Walk
import HandS.Zip
import HandS.WideBits
import HandS.IsInst
import OpenK.KEqL
import HandS.More
import HandS.Flow
import HandS.NoneIn
import HandS.Defaults
import HandS.Wide
import HandS.Style
import HandS.Dict
import HandS.Star
import HandS.Conv
import HandS.Small
import HandS.Codes
import HandS.Text
import HandS.WordsDict
import KE.OsRunLaw
import KE.GoesZip
import KE.GoesMore
import KE.GoesEnum
import HandS.Deep
import HandS.OwnEq
import PyProof.Rows.FactsT3
import PySem.Challenge.RW_guessedzeros_k43_nets_laid_gate_by_gate
set_option Elab.async false
set_option linter.all false
set_option maxRecDepth 100000
set_option maxHeartbeats 40000000
namespace GZ
open PySem PySem.Spec PyProof.Rows L2
/-! ### the text by places -/
def topS (i : Nat) : Stmt := PySem.Challenge.pw_guessedzeros_k43_nets_laid_gate_by_gate.main.body.getD i (.Pass ⟨0, 0, 0, 0⟩)
abbrev s_Net___init__ : Stmt := inClass (topS 6) 0
theorem sc_Net___init__ : FnScope ["self", "many"] ["self", "many"] (defScope s_Net___init__) := ⟨rfl, rfl, rfl, by decide +kernel, rfl, by decide +kernel, by decide +kernel⟩
abbrev s_Net_both : Stmt := inClass (topS 6) 1
theorem sc_Net_both : FnScope ["self", "a", "b"] ["self", "a", "b"] (defScope s_Net_both) := ⟨rfl, rfl, rfl, by decide +kernel, rfl, by decide +kernel, by decide +kernel⟩
abbrev s_Net_either : Stmt := inClass (topS 6) 2
theorem sc_Net_either : FnScope ["self", "a", "b"] ["self", "a", "b"] (defScope s_Net_either) := ⟨rfl, rfl, rfl, by decide +kernel, rfl, by decide +kernel, by decide +kernel⟩
abbrev s_Net_unlike : Stmt := inClass (topS 6) 3
theorem sc_Net_unlike : FnScope ["self", "a", "b"] ["self", "a", "b"] (defScope s_Net_unlike) := ⟨rfl, rfl, rfl, by decide +kernel, rfl, by decide +kernel, by decide +kernel⟩
abbrev s_Net_other : Stmt := inClass (topS 6) 4
theorem sc_Net_other : FnScope ["self", "a"] ["self", "a"] (defScope s_Net_other) := ⟨rfl, rfl, rfl, by decide +kernel, rfl, by decide +kernel, by decide +kernel⟩
abbrev s_Net_fixed : Stmt := inClass (topS 6) 5
theorem sc_Net_fixed : FnScope ["self", "bit"] ["self", "bit"] (defScope s_Net_fixed) := ⟨rfl, rfl, rfl, by decide +kernel, rfl, by decide +kernel, by decide +kernel⟩
abbrev s_Net_put : Stmt := inClass (topS 6) 6
theorem sc_Net_put : FnScope ["self", "kind", "wires", "depth", "wire"] ["self", "kind", "wires"] (defScope s_Net_put) := ⟨rfl, rfl, rfl, by decide +kernel, rfl, by decide +kernel, by decide +kernel⟩
abbrev s_Net_put_gate : Stmt := inClass (topS 6) 7
theorem sc_Net_put_gate : FnScope ["self", "gate", "depth"] ["self", "gate", "depth"] (defScope s_Net_put_gate) := ⟨rfl, rfl, rfl, by decide +kernel, rfl, by decide +kernel, by decide +kernel⟩
abbrev s_Net_need : Stmt := inClass (topS 6) 8
theorem sc_Net_need : FnScope ["self", "wires", "wire"] ["self", "wires"] (defScope s_Net_need) := ⟨rfl, rfl, rfl, by decide +kernel, rfl, by decide +kernel, by decide +kernel⟩
abbrev s_Net_give : Stmt := inClass (topS 6) 9
theorem sc_Net_give : FnScope ["self", "name", "wires"] ["self", "name", "wires"] (defScope s_Net_give) := ⟨rfl, rfl, rfl, by decide +kernel, rfl, by decide +kernel, by decide +kernel⟩
abbrev s_Net_given : Stmt := inClass (topS 6) 10
theorem sc_Net_given : FnScope ["self", "name"] ["self", "name"] (defScope s_Net_given) := ⟨rfl, rfl, rfl, by decide +kernel, rfl, by decide +kernel, by decide +kernel⟩
abbrev s_Net_names : Stmt := inClass (topS 6) 11
theorem sc_Net_names : FnScope ["self"] ["self"] (defScope s_Net_names) := ⟨rfl, rfl, rfl, by decide +kernel, rfl, by decide +kernel, by decide +kernel⟩
abbrev s_Net_inputs : Stmt := inClass (topS 6) 12
theorem sc_Net_inputs : FnScope ["self"] ["self"] (defScope s_Net_inputs) := ⟨rfl, rfl, rfl, by decide +kernel, rfl, by decide +kernel, by decide +kernel⟩
abbrev s_Net_gates : Stmt := inClass (topS 6) 13
theorem sc_Net_gates : FnScope ["self"] ["self"] (defScope s_Net_gates) := ⟨rfl, rfl, rfl, by decide +kernel, rfl, by decide +kernel, by decide +kernel⟩
abbrev s_Net_depth : Stmt := inClass (topS 6) 14
theorem sc_Net_depth : FnScope ["self", "wire"] ["self", "wire"] (defScope s_Net_depth) := ⟨rfl, rfl, rfl, by decide +kernel, rfl, by decide +kernel, by decide +kernel⟩
abbrev s_Net___len__ : Stmt := inClass (topS 6) 15
theorem sc_Net___len__ : FnScope ["self"] ["self"] (defScope s_Net___len__) := ⟨rfl, rfl, rfl, by decide +kernel, rfl, by decide +kernel, by decide +kernel⟩
abbrev sBox : Stmt := topS 8
abbrev sTake : Stmt := topS 9
abbrev sSame : Stmt := topS 10
abbrev s__law_names : Stmt := topS 11
theorem sc__law_names : FnScope ["_law_box_here", "_law_size", "_law_signs", "_law_first", "_law_found", "_law_k", "_law_last"] ["_law_box_here", "_law_size"] (defScope s__law_names) := ⟨rfl, rfl, rfl, by decide +kernel, rfl, by decide +kernel, by decide +kernel⟩
abbrev s__law_gates : Stmt := topS 12
theorem sc__law_gates : FnScope ["_law_box_here", "_law_wide", "_law_size", "_law_rows", "_law_k", "_law_here", "_law_sort", "_law_a", "_law_b"] ["_law_box_here", "_law_wide", "_law_size"] (defScope s__law_gates) := ⟨rfl, rfl, rfl, by decide +kernel, rfl, by decide +kernel, by decide +kernel⟩
abbrev s__law_laid : Stmt := topS 13
theorem sc__law_laid : FnScope ["_law_net", "_law_row"] ["_law_net", "_law_row"] (defScope s__law_laid) := ⟨rfl, rfl, rfl, by decide +kernel, rfl, by decide +kernel, by decide +kernel⟩
abbrev s__law_depths : Stmt := topS 14
theorem sc__law_depths : FnScope ["_law_rows", "_law_many", "_law_found", "_law_row", "_law_wire"] ["_law_rows", "_law_many"] (defScope s__law_depths) := ⟨rfl, rfl, rfl, by decide +kernel, rfl, by decide +kernel, by decide +kernel⟩
abbrev s__law_stands : Stmt := topS 15
theorem sc__law_stands : FnScope ["_law_net", "_law_many", "_law_rows", "_law_lists", "_law_told", "_law_last", "_law_one", "_law_name", "_law_wire"] ["_law_net", "_law_many", "_law_rows", "_law_lists"] (defScope s__law_stands) := ⟨rfl, rfl, rfl, by decide +kernel, rfl, by decide +kernel, by decide +kernel⟩
abbrev s__law_named : Stmt := topS 16
theorem sc__law_named : FnScope ["_law_box_here", "_law_net", "_law_many", "_law_rows", "_law_lists", "_law_name", "_law_wires", "_law_turn"] ["_law_box_here", "_law_net", "_law_many", "_law_rows", "_law_lists"] (defScope s__law_named) := ⟨rfl, rfl, rfl, by decide +kernel, rfl, by decide +kernel, by decide +kernel⟩
abbrev s_law : Stmt := topS 17
theorem sc_law : FnScope ["_law_script", "_law_k", "_law_box_here", "_law_sizes", "_law_nets", "_law_kept", "_law_lists", "_law_due", "_law_turn", "_law_at", "_law_many"] ["_law_script"] (defScope s_law) := ⟨rfl, rfl, rfl, by decide +kernel, rfl, by decide +kernel, by decide +kernel⟩
/-! ### built-in names that the text leaves alone -/
structure Bl (mg : Str → Option Value) : Prop where
  len : mg "len" = none
  abs : mg "abs" = none
  int : mg "int" = none
  divmod : mg "divmod" = none
  list : mg "list" = none
  enumerate : mg "enumerate" = none
  isinstance : mg "isinstance" = none
  tuple : mg "tuple" = none
  str : mg "str" = none
  bool : mg "bool" = none
  zip : mg "zip" = none
  all : mg "all" = none
  range : mg "range" = none
  max : mg "max" = none
  any : mg "any" = none
  min : mg "min" = none
  sum : mg "sum" = none
/-! ### rules with the written part told (for the blocks of comprehensions) -/
section
variable {X : Cx} {K : PySem.W.Frag}
theorem call_len_seqK (h : X.K = K := by rfl) : CallR X (.builtin "len") (fun xs H Q => ∃ p ys, xs = [.ref p] ∧ (SqL K H p ys ∨ SqT K H p ys) ∧ Q (.int ys.length) H) := by subst h; exact call_len_seq
theorem call_list_ofK (h : X.K = K := by rfl) : CallR X (.type "list") (fun xs H Q => ∃ p ys, xs = [.ref p] ∧ (SqL K H p ys ∨ SqT K H p ys) ∧ ∀ l, H l = none → Q (.ref l) (upd H l (.lst ys))) := by subst h; exact call_list_of
theorem call_tuple_ofK (h : X.K = K := by rfl) : CallR X (.type "tuple") (fun xs H Q => ∃ p ys, xs = [.ref p] ∧ ((SqL K H p ys ∧ ∀ l, H l = none → Q (.ref l) (upd H l (.tup ys))) ∨ (SqT K H p ys ∧ Q (.ref p) H))) := by subst h; exact call_tuple_of
theorem ix_listK (h : X.K = K := by rfl) : IxR X (rIxL K) := by subst h; exact ix_list
theorem ix_tupK (h : X.K = K := by rfl) : IxR X (rIxT K) := by subst h; exact ix_tup
theorem ix_seqK (h : X.K = K := by rfl) : IxR X (rIx K) := by subst h; exact ix_seq
theorem op_in_seqK (h : X.K = K := by rfl) : OpR X (compareOp .In) (rIn K false) := by subst h; exact op_in_seq
theorem op_notIn_seqK (h : X.K = K := by rfl) : OpR X (compareOp .NotIn) (rIn K true) := by subst h; exact op_notIn_seq
theorem sl_listK (h : X.K = K := by rfl) : SlR X (rSlL K) := by subst h; exact sl_list
theorem cr_sumK (hc : X.calm = true) (h : X.K = K := by rfl) : CallR X (.builtin "sum") (rSum K) := by subst h; exact cr_sum hc
theorem cr_allK (hc : X.calm = true) (h : X.K = K := by rfl) : CallR X (.builtin "all") (rAll K) := by subst h; exact cr_all hc
theorem cr_anyK (hc : X.calm = true) (h : X.K = K := by rfl) : CallR X (.builtin "any") (rAny K) := by subst h; exact cr_any hc
theorem call_isiK' (h : X.K = K := by rfl) : CallR X (.builtin "isinstance") (rIsi K) := by subst h; exact call_isi
theorem pi_listK {tg l : Expr} {tl : TE} (hl : PE X l tl) (h : X.K = K := by rfl) : PI X tg l (iList K tl) := by subst h; exact pi_list hl
theorem pi_tupK {tg l : Expr} {tl : TE} (hl : PE X l tl) (h : X.K = K := by rfl) : PI X tg l (iTup K tl) := by subst h; exact pi_tup hl
theorem pe_fldK {e : Expr} {ta : TE} {f : Str} {pos : Pos} (he : PE X e ta) (hb : attributeBase e f X.env (eval e X.env) = eval e X.env) (h : X.K = K := by rfl) : PE X (.Attribute e f pos) (tFld K ta f) := by subst h; exact pe_fld he hb
end
/-! ### heaps -/
theorem same_upd {H : Hp} {p : Addr} {o : HO} (h : H p = none) : Same H (upd H p o) := fun b x e => by
  rw [upd_ne (ne_of_none e h)]
  exact e
/-- all but what stands at b is as it was -/
def Keep (b : Addr) (H H' : Hp) : Prop := ∀ p o, H p = some o → p ≠ b → H' p = some o
theorem Keep.refl (b : Addr) (H : Hp) : Keep b H H := fun _ _ h _ => h
theorem Keep.trans {b : Addr} {H H1 H2 : Hp} (x : Keep b H H1) (y : Keep b H1 H2) : Keep b H H2 := fun p o h n => y p o (x p o h n) n
theorem Keep.ofSame {b : Addr} {H H1 : Hp} (x : Same H H1) : Keep b H H1 := fun p o h _ => x p o h
theorem Keep.upd {b : Addr} {H : Hp} {o : HO} : Keep b H (upd H b o) := fun p x h n => by
  rw [upd_ne n]
  exact h
theorem Keep.new {b p : Addr} {H : Hp} {o : HO} (h : H p = none) : Keep b H (L2.upd H p o) := .ofSame (same_upd h)
theorem Keep.seq {K : PySem.W.Frag} {b a : Addr} {H H' : Hp} {xs : List V} (e : Keep b H H') (n : a ≠ b) (h : SqL K H a xs) : SqL K H' a xs := by
  rcases h with (h | ⟨o, h⟩) | h
  · exact .inl (.inl (e _ _ h n))
  · exact .inl (.inr ⟨o, e _ _ h n⟩)
  · exact .inr h
theorem Keep.seqT {K : PySem.W.Frag} {b a : Addr} {H H' : Hp} {xs : List V} (e : Keep b H H') (n : a ≠ b) (h : SqT K H a xs) : SqT K H' a xs := by
  rcases h with (h | ⟨o, h⟩) | h
  · exact .inl (.inl (e _ _ h n))
  · exact .inl (.inr ⟨o, e _ _ h n⟩)
  · exact .inr h
theorem Same.seqT {K : PySem.W.Frag} {a : Addr} {H H' : Hp} {xs : List V} (e : Same H H') (h : SqT K H a xs) : SqT K H' a xs := by
  rcases h with (h | ⟨o, h⟩) | h
  · exact .inl (.inl (e _ _ h))
  · exact .inl (.inr ⟨o, e _ _ h⟩)
  · exact .inr h
/-- a drawing box: three ints, the last at most c -/
def BoxAt (c : Int) (H : Hp) (b : Addr) : Prop := ∃ x0 x1 x2 : Int, H b = some (.lst [.int x0, .int x1, .int x2]) ∧ 0 ≤ x0 ∧ 0 ≤ x1 ∧ x1 < 2147483647 ∧ 0 ≤ x2 ∧ x2 ≤ c
theorem BoxAt.mono {c d : Int} {H : Hp} {b : Addr} (h : BoxAt c H b) (l : c ≤ d) : BoxAt d H b := by
  obtain ⟨x0, x1, x2, e, a1, a2, a3, a4, a5⟩ := h
  exact ⟨x0, x1, x2, e, a1, a2, a3, a4, by omega⟩
theorem BoxAt.same {c : Int} {H H' : Hp} {b : Addr} (h : BoxAt c H b) (s : Same H H') : BoxAt c H' b := by
  obtain ⟨x0, x1, x2, e, r⟩ := h
  exact ⟨x0, x1, x2, s _ _ e, r⟩
theorem BoxAt.at {c : Int} {H H' : Hp} {b : Addr} (h : BoxAt c H b) (s : H' b = H b) : BoxAt c H' b := by
  obtain ⟨x0, x1, x2, e, r⟩ := h
  exact ⟨x0, x1, x2, by rw [s]; exact e, r⟩
theorem BoxAt.ne {c : Int} {H : Hp} {b p : Addr} (h : BoxAt c H b) (n : H p = none) : b ≠ p := by
  obtain ⟨x0, x1, x2, e, r⟩ := h
  exact ne_of_none e n
theorem e7 : (10 : Int) ^ ((7 : Int).toNat) = 10000000 := by decide
theorem e18 : (10 : Int) ^ ((18 : Int).toNat) = 1000000000000000000 := by decide
theorem divp_small {i j : Int} (h0 : 0 < j) (h1 : j < 2 ^ 250) : CDivP i j := by
  refine ⟨h0, ?_⟩
  show (decide ((if j == 0 then 0 else j.natAbs.log2 / 30 + 1) > 300) && _) = false
  rw [if_neg (show ¬ (j == 0) = true by simpa using (show j ≠ 0 by omega))]
  have hl : j.natAbs.log2 < 250 := PySem.Flt.log2_lt_of (by decide) (by omega)
  rw [decide_eq_false (show ¬ (j.natAbs.log2 / 30 + 1 > 300) by omega), Bool.false_and]
section
variable {P : Program} {w : World} {K : PySem.W.Frag} {mg : Str → Option Value} {base : Heap}
/-! ### _law_take -/
theorem scTake : FnScope ["_law_box_here", "_law_size", "_law_found", "_law_step", "_law_once", "_law_twice"] ["_law_box_here", "_law_size"] (defScope sTake) := ⟨rfl, rfl, rfl, by decide +kernel, rfl, by decide +kernel, by decide +kernel⟩
def spTake (k : Nat) : Sp := fun vs H Q _ => ∃ (b : Addr) (n c : Int), vs = [.ref b, .int n] ∧ BoxAt c H b ∧ 1 ≤ n ∧ n ≤ 10000000 ^ k ∧ n < 2 ^ 250 ∧ c + 2 ^ k ≤ 1000000000 ∧ 0 < k ∧
  ∀ (r : Int) (H' : Hp), 0 ≤ r → r < n → BoxAt (c + 2 ^ (k - 1)) H' b → Keep b H H' → Q (.int r) H'
theorem take_none {f : Addr} {fd : FuncData} : FnOk P w K mg base CX0 0 f fd ["_law_box_here", "_law_size"] (spTake 0) := by
  have no : ∀ vs H Q E, ¬ spTake 0 vs H Q E := fun vs H Q E h => by
    obtain ⟨b, n, c, _, _, _, _, _, _, h0, _⟩ := h
    omega
  exact ⟨fun vs H Q E h => absurd h (no vs H Q E), fun A outer s H args us vs Q E _ _ _ _ h => absurd h (no vs H Q E)⟩
theorem ok_take1 {f : Addr} {fd : FuncData} {k : Nat} (F : Fun K "_law_take" "_law_take" sTake f fd) (G : FnOk P w K mg base CX0 k f fd ["_law_box_here", "_law_size"] (spTake k)) (bf : Binds K fd ["_law_box_here", "_law_size"] []) (mf : mg "_law_take" = some (.ref f)) (B : Bl mg) :
    FnOk P w K mg base CX0 (k + 1) f fd ["_law_box_here", "_law_size"] (spTake (k + 1)) := by
  refine F.ok scTake (fun vs H Q E h => ?_) (fun cdv A outer s H vs Q E hr h => ?_)
  · obtain ⟨b, n, c, rfl, _⟩ := h
    rfl
  obtain ⟨b, n, c, rfl, hB, hn1, hnk, hn60, hc, _, q⟩ := h
  obtain ⟨x0, x1, x2, hb, h0, h1, h1', h2, h2'⟩ := hB
  have hp : (0 : Int) < 2 ^ k := Int.pow_pos (by decide)
  have hk2 : (2 : Int) ^ (k + 1) = 2 ^ k * 2 := Int.pow_succ 2 k
  refine ⟨_, pss_cons (ps_if (pt_cmpR op_gt (pe_ix ix_list (pv 0) pe_int (fun _ _ => rfl)) pe_int (nomark _))
      (pss_cons (ps_asg (pe_callB call_divmodW (by rfl) B.divmod boot_divmod (pa_cons (pe_ix ix_list (pv 0) pe_int (fun _ _ => rfl)) (pa_cons (pv 1) pa_nil)))
          (pg_tup (by rfl) (pgs_cons (pg_sub (pv 0) pe_int set_list) (pgs_cons (pg_name (i := 2) scTake.nd rfl (.inl rfl)) pgs_nil))))
        (pss_one (ps_ret (pv 2)))) pss_nil)
    (pss_cons (ps_if (pt_cmpR op_gt (pv 1) (pe_op op_pow pe_int pe_int) (nomark _))
      (pss_one (ps_ret (pe_op op_mod (pe_op op_add (pe_call G hr (by rfl) mf F.kp bf .nil pass0 (pa_cons (pv 0) (pa_cons (pe_op op_pow pe_int pe_int) pa_nil)))
          (pe_op op_mul (pe_op op_pow pe_int pe_int) (pe_call G hr (by rfl) mf F.kp bf .nil pass0 (pa_cons (pv 0) (pa_cons (pe_op op_add (pe_op op_fdiv (pe_op op_sub (pv 1) pe_int) (pe_op op_pow pe_int pe_int)) pe_int) pa_nil))))) (pv 1)))) pss_nil)
    (pss_cons (ps_asg (pe_op op_add (pe_ix ix_list (pv 0) pe_int (fun _ _ => rfl)) pe_int) (pg_sub (pv 0) pe_int set_list))
    (pss_cons (ps_set (i := 3) scTake.nd rfl (.inl rfl) (pe_op op_add pe_int (pe_op op_mul (pe_ix ix_list (pv 0) pe_int (fun _ _ => rfl)) (pe_ix ix_list (pv 0) pe_int (fun _ _ => rfl)))))
    (pss_cons (ps_set (i := 4) scTake.nd rfl (.inl rfl) (pe_op op_mod (pe_op op_mul (pe_op op_add (pe_ix ix_list (pv 0) pe_int (fun _ _ => rfl)) (pe_op op_mul pe_int (pe_ix ix_list (pv 0) pe_int (fun _ _ => rfl)))) (pv 3)) pe_int))
    (pss_cons (ps_set (i := 5) scTake.nd rfl (.inl rfl) (pe_op op_mod (pe_op op_add (pe_op op_mul (pv 4) (pe_op op_add (pe_op op_mod (pv 4) pe_int) pe_int)) (pe_ix ix_list (pv 0) pe_int (fun _ _ => rfl))) pe_int))
    (pss_one (ps_ret (pe_op op_mod (pe_op op_fdiv (pe_op op_mod (pe_op op_mul (pv 5) (pe_op op_add (pe_op op_mod (pv 5) pe_int) pe_int)) pe_int) pe_int) (pv 1))))))))), ?_⟩
  refine ⟨_, rfl, b, _, _, _, rfl, rfl, SqL.of hb, rfl, _, _, rfl, rfl, _, rfl, ite2 (fun cc => ?_) (fun cc => ?_)⟩
  · -- the great number's own digits
    refine ⟨_, rfl, b, _, _, _, rfl, rfl, SqL.of hb, rfl, _, rfl, _, _, rfl, divp_small (by omega) (by omega), fun p np => ?_⟩
    have nbp : b ≠ p := ne_of_none hb np
    refine ⟨p, _, rfl, .inl (.inl upd_same), rfl, _, _, rfl, _, rfl, b, _, _, 0, rfl, rfl, (by rw [upd_ne nbp]; exact hb), rfl, _, _, rfl, rfl, _, rfl, ?_⟩
    refine q _ _ (Int.emod_nonneg _ (by omega)) (Int.emod_lt_of_pos _ (by omega)) ⟨x0 / n, x1, x2, upd_same, Int.ediv_nonneg h0 (by omega), h1, h1', h2, by show x2 ≤ c + 2 ^ k; omega⟩ ?_
    exact Keep.trans (Keep.new np) Keep.upd
  · refine ⟨_, rfl, _, _, rfl, rfl, ⟨by decide, by decide, by decide⟩, _, _, rfl, rfl, _, rfl, ite2 (fun c2 => ?_) (fun c2 => ?_)⟩
    · -- two lesser draws
      have c3 : (10 : Int) ^ ((7 : Int).toNat) < n := of_decide_eq_true c2
      rw [e7] at c3
      have hk : 0 < k := by
        rcases Nat.eq_zero_or_pos k with z | z
        · subst z
          rw [show (10000000 : Int) ^ (0 + 1) = 10000000 by decide] at hnk
          omega
        · exact z
      obtain ⟨j, rfl⟩ : ∃ j, k = j + 1 := ⟨k - 1, by omega⟩
      have hj2 : (2 : Int) ^ (j + 1) = 2 ^ j * 2 := Int.pow_succ 2 j
      have hjp : (0 : Int) < 2 ^ j := Int.pow_pos (by decide)
      have h10 : (10000000 : Int) ≤ 10000000 ^ (j + 1) := by
        rw [Int.pow_succ]
        have : (0 : Int) < 10000000 ^ j := Int.pow_pos (by decide)
        omega
      have hdiv : (n - 1) / 10000000 + 1 ≤ 10000000 ^ (j + 1) := by
        rw [Int.pow_succ] at hnk
        have : n - 1 < 10000000 ^ (j + 1) * 10000000 := by omega
        have := Int.ediv_lt_of_lt_mul (by decide) this
        omega
      refine ⟨_, rfl, _, _, rfl, rfl, ⟨by decide, by decide, by decide⟩, b, _, c, rfl, ⟨x0, x1, x2, hb, h0, h1, h1', h2, h2'⟩, (by rw [e7]; decide), (by rw [e7]; exact h10), (by rw [e7]; decide), by omega, by omega, fun r1 H1 a1 a2 B1 k1 => ?_⟩
      refine ⟨_, _, rfl, rfl, ⟨by decide, by decide, by decide⟩, _, rfl, _, rfl, _, _, rfl, rfl, _, _, rfl, rfl, ⟨by decide, by decide, by decide⟩, _, _, rfl, rfl, (by rw [e7]; exact ⟨by decide, by decide⟩), _, _, rfl, rfl, ?_⟩
      rw [e7]
      refine ⟨b, _, c + 2 ^ j, rfl, B1, by omega, hdiv, by omega, by omega, by omega, fun r2 H2 a3 a4 B2 k2 => ?_⟩
      refine ⟨_, _, rfl, rfl, .inl ⟨by decide, by decide⟩, _, _, rfl, rfl, _, rfl, _, _, rfl, rfl, (by show (0 : Int) < n; omega), ?_⟩
      refine q _ _ (Int.emod_nonneg _ (by omega)) (Int.emod_lt_of_pos _ (by omega)) (B2.mono ?_) (k1.trans k2)
      show c + 2 ^ j + 2 ^ j ≤ c + 2 ^ (j + 1)
      omega
    · -- a turn of the wheel
      refine ⟨_, rfl, b, _, _, _, rfl, rfl, SqL.of hb, rfl, _, _, rfl, rfl, _, rfl, b, _, _, 2, rfl, rfl, hb, rfl, ?_⟩
      have hb2 : (upd H b (.lst [.int x0, .int x1, .int (x2 + 1)])) b = some (.lst [.int x0, .int x1, .int (x2 + 1)]) := upd_same
      refine ⟨_, rfl, b, _, _, _, rfl, rfl, SqL.of hb2, rfl, _, rfl, b, _, _, _, rfl, rfl, SqL.of hb2, rfl, _, _, rfl, rfl, .inl ⟨by omega, by omega⟩, _, _, rfl, rfl, ?_⟩
      refine ⟨_, rfl, b, _, _, _, rfl, rfl, SqL.of hb2, rfl, _, rfl, b, _, _, _, rfl, rfl, SqL.of hb2, rfl, _, _, rfl, rfl, .inl ⟨by omega, by omega⟩, _, _, rfl, rfl, _, rfl, _, _, rfl, rfl, .inl ⟨by omega, by omega⟩, _, _, rfl, rfl, (by show (0 : Int) < 2147483587; decide), ?_⟩
      generalize (x1 + 39373 * (x2 + 1)) * (69621 + (x2 + 1) * (x2 + 1)) = y
      have y1 := Int.emod_nonneg y (show (2147483587 : Int) ≠ 0 by decide)
      have y2 := Int.emod_lt_of_pos y (show (0 : Int) < 2147483587 by decide)
      refine ⟨_, rfl, _, rfl, _, _, rfl, rfl, (by show (0 : Int) < 30011; decide), _, _, rfl, rfl, _, _, rfl, rfl, .inl ⟨by omega, by omega⟩, _, rfl, b, _, _, _, rfl, rfl, SqL.of hb2, rfl, _, _, rfl, rfl, _, _, rfl, rfl, (by show (0 : Int) < 2147483563; decide), ?_⟩
      generalize (y % 2147483587 * (y % 2147483587 % 30011 + 5) + (x2 + 1)) = z
      have z1 := Int.emod_nonneg z (show (2147483563 : Int) ≠ 0 by decide)
      have z2 := Int.emod_lt_of_pos z (show (0 : Int) < 2147483563 by decide)
      refine ⟨_, rfl, _, rfl, _, _, rfl, rfl, (by show (0 : Int) < 1013; decide), _, _, rfl, rfl, _, _, rfl, rfl, .inl ⟨by omega, by omega⟩, _, _, rfl, rfl, (by show (0 : Int) < 998244353; decide), _, _, rfl, rfl, ⟨by decide, by decide⟩, _, rfl, _, _, rfl, rfl, (by show (0 : Int) < n; omega), ?_⟩
      refine q _ _ (Int.emod_nonneg _ (by omega)) (Int.emod_lt_of_pos _ (by omega)) ⟨x0, x1, x2 + 1, hb2, h0, h1, h1', by omega, by show x2 + 1 ≤ c + 2 ^ k; omega⟩ Keep.upd
theorem ok_take {f : Addr} {fd : FuncData} (F : Fun K "_law_take" "_law_take" sTake f fd) (bf : Binds K fd ["_law_box_here", "_law_size"] []) (mf : mg "_law_take" = some (.ref f)) (B : Bl mg) : ∀ k : Nat, FnOk P w K mg base CX0 k f fd ["_law_box_here", "_law_size"] (spTake k)
  | 0 => take_none
  | k + 1 => ok_take1 F (ok_take F bf mf B k) bf mf B
/-! ### _law_box -/
theorem scBox : FnScope ["_law_script", "_law_k", "_law_cell"] ["_law_script", "_law_k"] (defScope sBox) := ⟨rfl, rfl, rfl, by decide +kernel, rfl, by decide +kernel, by decide +kernel⟩
def spBox (K : PySem.W.Frag) : Sp := fun vs H Q _ => ∃ (a : Addr) (zs : List Int) (k : Int), vs = [.ref a, .int k] ∧ SqL K H a (zs.map V.int) ∧ 0 ≤ k ∧ k ≤ 1000 ∧
  ∀ (p : Addr) (H' : Hp), H p = none → Same H H' → BoxAt 0 H' p → Q (.ref p) H'
theorem b01 (b : Bool) : (-(2 ^ 64) < (if b = true then (1 : Int) else 0)) ∧ (if b = true then (1 : Int) else 0) < 2 ^ 64 := by cases b <;> decide
theorem b01n (b : Bool) : 0 ≤ (if b = true then (1 : Int) else 0) := by cases b <;> decide
theorem abs_nn (i : Int) : 0 ≤ (if i < 0 then -i else i) := by
  split <;> omega
theorem at_int {zs : List Int} {k : Int} (h0 : 0 ≤ k) (h : k < (zs.length : Int)) : ∃ v : Int, atI (zs.map V.int) k = some (.int v) ∧ zs[k.toNat]? = some v := by
  have hk : k.toNat < zs.length := by omega
  have ek : k = ((k.toNat : Nat) : Int) := by omega
  have q : atI (zs.map V.int) ((k.toNat : Nat) : Int) = some (.int zs[k.toNat]) := atI_nat (by rw [List.getElem?_map, List.getElem?_eq_getElem hk] <;> rfl)
  rw [← ek] at q
  exact ⟨zs[k.toNat], q, List.getElem?_eq_getElem hk⟩
theorem ok_box {f : Addr} {fd : FuncData} {k : Nat} (F : Fun K "_law_box" "_law_box" sBox f fd) (B : Bl mg) : FnOk P w K mg base CX0 (k + 1) f fd ["_law_script", "_law_k"] (spBox K) := by
  refine F.ok scBox (fun vs H Q E h => ?_) (fun cdv A outer s H vs Q E hr h => ?_)
  · obtain ⟨a, zs, k, rfl, _⟩ := h
    rfl
  obtain ⟨a, zs, k, rfl, hS, h0, h1, q⟩ := h
  refine ⟨_, pss_cons (ps_set (i := 2) scBox.nd rfl (.inl rfl) (pe_ifExp (pt_cmpR op_lt (pv 1) (pe_callB call_len_seq (by rfl) B.len PySem.boot_len (pa_cons (pv 0) pa_nil)) (nomark _)) (pe_ix ix_list (pv 0) (pv 1) (fun _ _ => rfl)) pe_int))
    (pss_one (ps_ret (pe_lst (pa_cons (pe_op op_mul (pe_callB call_abs (by rfl) B.abs boot_abs (pa_cons (pv 2) pa_nil)) (pe_callTy call_int1 (by rfl) B.int PyProof.Rows.boot_int (pa_cons (pe_cmpR op_ge (pe_callB call_abs (by rfl) B.abs boot_abs (pa_cons (pv 2) pa_nil)) (pe_op op_pow pe_int pe_int) (nomark _)) pa_nil)))
      (pa_cons (pe_op op_mod (pe_op op_mul (pe_op op_add (pe_op op_add (pe_op op_mod (pv 2) pe_int) (pe_op op_mul pe_int (pv 1))) pe_int) pe_int) pe_int) (pa_cons pe_int pa_nil)))))), ?_⟩
  refine ⟨_, rfl, _, rfl, a, _, rfl, .inl hS, _, _, rfl, rfl, _, rfl, ite2 (fun cc => ?_) (fun cc => ?_)⟩
  · have c1 : k < (((zs.map V.int).length : Nat) : Int) := of_decide_eq_true cc
    rw [List.length_map] at c1
    obtain ⟨v, hv, _⟩ := at_int h0 c1
    refine ⟨_, rfl, _, rfl, a, _, _, _, rfl, rfl, hS, hv, ?_⟩
    refine ⟨_, rfl, _, rfl, _, rfl, _, rfl, _, _, rfl, rfl, ⟨by decide, by decide, by decide⟩, _, _, rfl, rfl, .inr ⟨_, rfl, ?_⟩⟩
    refine ⟨_, _, rfl, rfl, .inr (b01 _), _, rfl, _, _, rfl, rfl, (by show (0 : Int) < 2147483629; decide), _, rfl, _, _, rfl, rfl, .inl ⟨by decide, by decide⟩, _, _, rfl, rfl, _, _, rfl, rfl, _, _, rfl, rfl, .inr ⟨by decide, by decide⟩, _, _, rfl, rfl, (by show (0 : Int) < 2147483647; decide), (by show 3 ≤ sizeLine; decide), fun p np => ?_⟩
    refine q p _ np (same_upd np) ⟨_, _, _, upd_same, Int.mul_nonneg (abs_nn v) (b01n _), Int.emod_nonneg _ (by decide), Int.emod_lt_of_pos _ (by decide), by decide, by decide⟩
  · refine ⟨_, rfl, _, rfl, _, rfl, _, rfl, _, _, rfl, rfl, ⟨by decide, by decide, by decide⟩, _, _, rfl, rfl, .inr ⟨_, rfl, ?_⟩⟩
    refine ⟨_, _, rfl, rfl, .inr (b01 _), _, rfl, _, _, rfl, rfl, (by show (0 : Int) < 2147483629; decide), _, rfl, _, _, rfl, rfl, .inl ⟨by decide, by decide⟩, _, _, rfl, rfl, _, _, rfl, rfl, _, _, rfl, rfl, .inr ⟨by decide, by decide⟩, _, _, rfl, rfl, (by show (0 : Int) < 2147483647; decide), (by show 3 ≤ sizeLine; decide), fun p np => ?_⟩
    refine q p _ np (same_upd np) ⟨_, _, _, upd_same, Int.mul_nonneg (abs_nn 0) (b01n _), Int.emod_nonneg _ (by decide), Int.emod_lt_of_pos _ (by decide), by decide, by decide⟩
/-! ### _law_same: of two things of one kind and worth -/
theorem scSame : FnScope ["_law_found", "_law_due", "_law_one", "_law_other"] ["_law_found", "_law_due"] (defScope sSame) := ⟨rfl, rfl, rfl, by decide +kernel, rfl, by decide +kernel, by decide +kernel⟩
def Lv : Nat → PyData → Prop
  | _, .none => True
  | _, .bool _ => True
  | _, .int _ => True
  | _, .str _ => True
  | n + 1, .list ds => ds.length ≤ 1000000 ∧ ∀ d ∈ ds, Lv n d
  | n + 1, .tuple ds => ds.length ≤ 1000000 ∧ ∀ d ∈ ds, Lv n d
  | _, _ => False
mutual
theorem Dp.same {H H' : Hp} (s : Same H H') : ∀ (d : PyData) (v : V), Dp K H v d → Dp K H' v d
  | .none, _, h => by
    cases h
    exact .non
  | .bool b, _, h => by
    cases h
    exact .bl b
  | .int i, _, h => by
    cases h
    exact .int i
  | .str x, _, h => by
    cases h
    exact .str x
  | .list ds, _, h => by
    cases h with
    | lst hs ha => exact .lst (s.seq hs) (Dp.sameAll s ds _ ha)
  | .tuple ds, _, h => by
    cases h with
    | tup hs ha => exact .tup (Same.seqT s hs) (Dp.sameAll s ds _ ha)
  | .dict _, _, h => by cases h
theorem Dp.sameAll {H H' : Hp} (s : Same H H') : ∀ (ds : List PyData) (vs : List V), DpAll K H vs ds → DpAll K H' vs ds
  | [], _, h => by
    cases h
    exact .nil
  | d :: ds, _, h => by
    cases h with
    | cons h1 h2 => exact .cons (Dp.same s d _ h1) (Dp.sameAll s ds _ h2)
end
theorem DpAll.len {H : Hp} : ∀ {ds : List PyData} {vs : List V}, DpAll K H vs ds → vs.length = ds.length
  | [], _, h => by
    cases h
    rfl
  | d :: ds, _, h => by
    cases h with
    | cons h1 h2 => rw [List.length_cons, List.length_cons, DpAll.len h2]
theorem DpAll.get {H : Hp} : ∀ {ds : List PyData} {vs : List V} {i : Nat} {x : V}, DpAll K H vs ds → vs[i]? = some x → ∃ d, ds[i]? = some d ∧ Dp K H x d
  | [], _, i, x, h, e => by
    cases h
    cases e
  | d :: ds, _, 0, x, h, e => by
    cases h with
    | cons h1 h2 =>
      cases e
      exact ⟨d, rfl, h1⟩
  | d :: ds, _, i + 1, x, h, e => by
    cases h with
    | @cons _ vs _ _ h1 h2 => exact DpAll.get (ds := ds) (vs := vs) h2 (show vs[i]? = some x from e)
theorem walk_zipT {a b : Addr} {xs ys : List V} {n : Nat} (hn : n = min xs.length ys.length) : Walk (RZ.ItzT K a b) n (fun H => SqT K H a xs ∧ SqT K H b ys) (YPair (fun i => xs[i]?) (fun i => ys[i]?)) := by
  subst hn
  refine ⟨fun i _ hi q => ?_, fun _ q => ⟨xs, ys, q.1, q.2, by omega⟩, fun i H v H' _ q y => ?_⟩
  · have h1 : i < xs.length := by omega
    have h2 : i < ys.length := by omega
    exact ⟨xs, ys, xs[i], ys[i], q.1, q.2, by simp [h1], by simp [h2]⟩
  · obtain ⟨T, x, z, h1, h2, h3, h4, h5⟩ := y
    exact ⟨T, x, z, h1, h2, h3, h4 xs q.1, h5 ys q.2⟩
theorem ty_lst {H : Hp} {a : Addr} {xs : List V} (h : SqL K H a xs) : TyX K H (.ref a) (.type "list") := by
  rcases h with (h | ⟨o, h⟩) | ⟨o, its, n, h1, h2, _⟩
  · exact .base (.lst h)
  · exact .base (.frz h)
  · exact .kList h1 h2
theorem ty_tup {H : Hp} {a : Addr} {xs : List V} (h : SqT K H a xs) : TyX K H (.ref a) (.type "tuple") := by
  rcases h with (h | ⟨o, h⟩) | ⟨o, its, n, h1, h2, _⟩
  · exact .base (.tup h)
  · exact .fTuple h
  · exact .kTuple h1 h2
def spSame (K : PySem.W.Frag) (k : Nat) : Sp := fun vs H Q _ => ∃ (x y : V) (d : PyData) (j : Nat), vs = [x, y] ∧ k = j + 1 ∧ Lv j d ∧ Dp K H x d ∧ Dp K H y d ∧ ∀ H', Same H H' → Q (.bl true) H'
theorem same_none {f : Addr} {fd : FuncData} : FnOk P w K mg base CX0 0 f fd ["_law_found", "_law_due"] (spSame K 0) := by
  have no : ∀ vs H Q E, ¬ spSame K 0 vs H Q E := fun vs H Q E h => by
    obtain ⟨x, y, d, j, _, h0, _⟩ := h
    omega
  exact ⟨fun vs H Q E h => absurd h (no vs H Q E), fun A outer s H args us vs Q E _ _ _ _ h => absurd h (no vs H Q E)⟩
theorem yesT {σ : L2.St} {H : Hp} {R S : Hp → Prop} (h : R H) : tYes σ H fun b H3 => if b = true then R H3 else S H3 := h
theorem repl_snoc {α : Type} (i : Nat) (x : α) : List.replicate i x ++ [x] = List.replicate (i + 1) x := List.replicate_succ'.symm
theorem all_repl (n : Nat) : (List.replicate n true).all id = true := by
  rw [List.all_eq_true]
  intro x hx
  rw [List.eq_of_mem_replicate hx]
  rfl
theorem kitLT {t : String} {r1 r2 : Bool} (h1 : kitB t "list" = some r1) (h2 : kitB t "tuple" = some r2) : PySem.W.kitAny K (.type t) [.type "list", .type "tuple"] = some (r1 || r2) := by
  refine kitAny_cons (kit_ty h1) (fun e => ?_) (fun e => by rw [e]; rfl)
  rw [e, Bool.false_or]
  refine kitAny_cons (kit_ty h2) (fun e => ?_) (fun e => e)
  rw [e]
  rfl
theorem ok_same1 {f : Addr} {fd : FuncData} {k : Nat} (F : Fun K "_law_same" "_law_same" sSame f fd) (G : FnOk P w K mg base CX0 k f fd ["_law_found", "_law_due"] (spSame K k)) (bf : Binds K fd ["_law_found", "_law_due"] []) (mf : mg "_law_same" = some (.ref f)) (B : Bl mg) :
    FnOk P w K mg base CX0 (k + 1) f fd ["_law_found", "_law_due"] (spSame K (k + 1)) := by
  refine F.ok scSame (fun vs H Q E h => ?_) (fun cdv A outer s H vs Q E hr h => ?_)
  · obtain ⟨x, y, d, j, rfl, _⟩ := h
    rfl
  obtain ⟨x, y, d, j, rfl, ej, lv, dx, dy, q⟩ := h
  obtain rfl : k = j := by omega
  refine ⟨_, pss_cons (ps_if (pt_val (pe_callB call_isiT (by rfl) B.isinstance boot_isinstance (pa_cons (pv 1) (pa_cons (pe_tup (pa_cons (pe_bltn (v := .ty "list") (by rfl) B.list PyProof.Rows.boot_list rfl) (pa_cons (pe_bltn (v := .ty "tuple") (by rfl) B.tuple PyProof.Rows.boot_tuple rfl) pa_nil))) pa_nil))))
      (pss_cons (ps_if (PW.pt (pw_or (pt_cmpR op_ne (pe_callB call_isi (by rfl) B.isinstance boot_isinstance (pa_cons (pv 0) (pa_cons (pe_bltn (v := .ty "list") (by rfl) B.list PyProof.Rows.boot_list rfl) pa_nil))) (pe_callB call_isi (by rfl) B.isinstance boot_isinstance (pa_cons (pv 1) (pa_cons (pe_bltn (v := .ty "list") (by rfl) B.list PyProof.Rows.boot_list rfl) pa_nil))) (nomark _))
          (pw_or1 (pt_cmpR op_ne (pe_callB call_isi (by rfl) B.isinstance boot_isinstance (pa_cons (pv 0) (pa_cons (pe_bltn (v := .ty "tuple") (by rfl) B.tuple PyProof.Rows.boot_tuple rfl) pa_nil))) (pe_callB call_isi (by rfl) B.isinstance boot_isinstance (pa_cons (pv 1) (pa_cons (pe_bltn (v := .ty "tuple") (by rfl) B.tuple PyProof.Rows.boot_tuple rfl) pa_nil))) (nomark _)))))
          (pss_one (ps_ret pe_bl)) pss_nil)
        (pss_one (ps_ret (pe_and (pe_cmpR op_eq (pe_callB call_len_seq (by rfl) B.len PySem.boot_len (pa_cons (pv 0) pa_nil)) (pe_callB call_len_seq (by rfl) B.len PySem.boot_len (pa_cons (pv 1) pa_nil)) (nomark _))
          (pe_one (pe_callB (cr_all rfl) (by rfl) B.all boot_all (pa_cons (pe_lc (own := [("_law_one", 2), ("_law_other", 3)]) (g := gTup K 2 (gCons (gName 2) (gCons (gName 3) gNil))) (by rfl) scSame.nd (RZ.pi_zipA (by rfl) B.zip (pa_cons (pv 0) (pa_cons (pv 1) pa_nil)))
            (blkOk_by (own := [("_law_one", 2), ("_law_other", 3)]) (N := ["_law_found", "_law_due", "_law_one", "_law_other"]) (sc := defScope sSame) (by decide +kernel))
            (fun _ _ _ _ _ => pg_tup rfl (pgs_cons (pg_name (i := 2) scSame.nd rfl (Or.inl rfl) (.inr rfl)) (pgs_cons (pg_name (i := 3) scSame.nd rfl (Or.inl rfl) (.inr rfl)) pgs_nil))) (fun _ _ _ _ _ => pts_nil)
            (fun _ _ _ _ _ => pe_call G hr (by rfl) mf F.kp bf .nil pass0 (pa_cons (pv 2) (pa_cons (pv 3) pa_nil)))) pa_nil))))))) pss_nil)
    (pss_cons (ps_if (PW.pt (pw_or (pt_cmpR op_isN (pv 1) pe_non (nomark _)) (pw_or1 (pt_val (pe_callB call_isi (by rfl) B.isinstance boot_isinstance (pa_cons (pv 1) (pa_cons (pe_bltn (v := .ty "str") (by rfl) B.str PyProof.Rows.boot_str rfl) pa_nil)))))))
      (pss_one (ps_ret (pe_and (pe_cmpR op_eq (pv 0) (pv 1) (nomark _)) (pe_one (pe_cmpR op_eq (pe_callB call_isi (by rfl) B.isinstance boot_isinstance (pa_cons (pv 0) (pa_cons (pe_bltn (v := .ty "str") (by rfl) B.str PyProof.Rows.boot_str rfl) pa_nil))) (pe_callB call_isi (by rfl) B.isinstance boot_isinstance (pa_cons (pv 1) (pa_cons (pe_bltn (v := .ty "str") (by rfl) B.str PyProof.Rows.boot_str rfl) pa_nil))) (nomark _)))))) pss_nil)
    (pss_one (ps_ret (pe_and (pe_callB call_isi (by rfl) B.isinstance boot_isinstance (pa_cons (pv 0) (pa_cons (pe_bltn (v := .ty "int") (by rfl) B.int PyProof.Rows.boot_int rfl) pa_nil))) (pe_and (pe_cmpR op_eq (pe_callB call_isi (by rfl) B.isinstance boot_isinstance (pa_cons (pv 0) (pa_cons (pe_bltn (v := .ty "bool") (by rfl) B.bool PyProof.Rows.boot_bool rfl) pa_nil))) (pe_callB call_isi (by rfl) B.isinstance boot_isinstance (pa_cons (pv 1) (pa_cons (pe_bltn (v := .ty "bool") (by rfl) B.bool PyProof.Rows.boot_bool rfl) pa_nil))) (nomark _))
      (pe_one (pe_cmpR op_eq (pv 0) (pv 1) (nomark _)))))))), ?_⟩
  have pr : Paired ClsV [.ty "list", .ty "tuple"] [.type "list", .type "tuple"] := .cons (.ty _) (.cons (.ty _) .nil)
  refine ⟨_, rfl, (by show 2 ≤ sizeLine; decide), fun tp ntp => ?_⟩
  have s0 : Same H (upd H tp (.tup [.ty "list", .ty "tuple"])) := same_upd ntp
  cases d with
  | none =>
    cases dx
    cases dy
    refine ⟨_, tp, _, _, _, _, rfl, upd_same, pr, .base .non, kitLT (t := "NoneType") (r1 := false) (r2 := false) (by decide +kernel) (by decide +kernel), _, rfl, iteF ?_⟩
    refine ⟨_, rfl, rfl, _, rfl, iteT (iteT ?_)⟩
    refine ⟨_, rfl, _, rfl, rfl, _, rfl, iteT ?_⟩
    refine ⟨_, rfl, _, _, _, _, _, rfl, .ty _, .base .non, kit_ty (by decide +kernel : kitB "NoneType" "str" = some false), _, rfl, _, _, _, _, _, rfl, .ty _, .base .non, kit_ty (by decide +kernel : kitB "NoneType" "str" = some false), rfl, q _ s0⟩
  | bool b =>
    cases dx
    cases dy
    refine ⟨_, tp, _, _, _, _, rfl, upd_same, pr, .base (.bl _), kitLT (t := "bool") (r1 := false) (r2 := false) (by decide +kernel) (by decide +kernel), _, rfl, iteF ?_⟩
    refine ⟨_, rfl, rfl, _, rfl, iteF ?_⟩
    refine ⟨_, rfl, _, _, _, _, _, rfl, .ty _, .base (.bl _), kit_ty (by decide +kernel : kitB "bool" "str" = some false), _, rfl, iteF ?_⟩
    refine ⟨_, rfl, _, _, _, _, _, rfl, .ty _, .base (.bl _), kit_ty (by decide +kernel : kitB "bool" "int" = some true), _, rfl, iteT ?_⟩
    refine ⟨_, rfl, _, _, _, _, _, rfl, .ty _, .base (.bl _), kit_ty (by decide +kernel : kitB "bool" "bool" = some true), _, rfl, _, _, _, _, _, rfl, .ty _, .base (.bl _), kit_ty (by decide +kernel : kitB "bool" "bool" = some true), rfl, _, rfl, iteT ?_⟩
    refine ⟨_, rfl, _, rfl, rfl, ?_⟩
    rw [decide_eq_true rfl]
    exact q _ s0
  | int i =>
    cases dx
    cases dy
    refine ⟨_, tp, _, _, _, _, rfl, upd_same, pr, .base (.int _), kitLT (t := "int") (r1 := false) (r2 := false) (by decide +kernel) (by decide +kernel), _, rfl, iteF ?_⟩
    refine ⟨_, rfl, rfl, _, rfl, iteF ?_⟩
    refine ⟨_, rfl, _, _, _, _, _, rfl, .ty _, .base (.int _), kit_ty (by decide +kernel : kitB "int" "str" = some false), _, rfl, iteF ?_⟩
    refine ⟨_, rfl, _, _, _, _, _, rfl, .ty _, .base (.int _), kit_ty (by decide +kernel : kitB "int" "int" = some true), _, rfl, iteT ?_⟩
    refine ⟨_, rfl, _, _, _, _, _, rfl, .ty _, .base (.int _), kit_ty (by decide +kernel : kitB "int" "bool" = some false), _, rfl, _, _, _, _, _, rfl, .ty _, .base (.int _), kit_ty (by decide +kernel : kitB "int" "bool" = some false), rfl, _, rfl, iteT ?_⟩
    refine ⟨_, rfl, _, rfl, rfl, ?_⟩
    rw [decide_eq_true rfl]
    exact q _ s0
  | str z =>
    cases dx
    cases dy
    refine ⟨_, tp, _, _, _, _, rfl, upd_same, pr, .base (.str _), kitLT (t := "str") (r1 := false) (r2 := false) (by decide +kernel) (by decide +kernel), _, rfl, iteF ?_⟩
    refine ⟨_, rfl, rfl, _, rfl, iteF ?_⟩
    refine ⟨_, rfl, _, _, _, _, _, rfl, .ty _, .base (.str _), kit_ty (by decide +kernel : kitB "str" "str" = some true), _, rfl, iteT ?_⟩
    refine ⟨_, rfl, _, rfl, rfl, ?_⟩
    rw [decide_eq_true rfl]
    refine ⟨_, rfl, iteT ?_⟩
    exact ⟨_, rfl, _, _, _, _, _, rfl, .ty _, .base (.str _), kit_ty (by decide +kernel : kitB "str" "str" = some true), _, rfl, _, _, _, _, _, rfl, .ty _, .base (.str _), kit_ty (by decide +kernel : kitB "str" "str" = some true), rfl, q _ s0⟩
  | list ds =>
    cases dx with
    | @lst a xs _ hx ax =>
    cases dy with
    | @lst b ys _ hy ay =>
    obtain ⟨i, rfl⟩ : ∃ i, k = i + 1 := by
      cases k with
      | zero => exact absurd lv id
      | succ i => exact ⟨i, rfl⟩
    have lx := DpAll.len ax
    have ly := DpAll.len ay
    have hx1 := s0.seq hx
    have hy1 := s0.seq hy
    refine ⟨_, tp, _, _, _, _, rfl, upd_same, pr, ty_lst hy1, kitLT (t := "list") (r1 := true) (r2 := false) (by decide +kernel) (by decide +kernel), _, rfl, iteT ?_⟩
    refine ⟨_, rfl, _, _, _, _, _, rfl, .ty _, ty_lst hx1, kit_ty (by decide +kernel : kitB "list" "list" = some true), _, rfl, _, _, _, _, _, rfl, .ty _, ty_lst hy1, kit_ty (by decide +kernel : kitB "list" "list" = some true), rfl, _, rfl, iteF ?_⟩
    refine ⟨_, rfl, _, _, _, _, _, rfl, .ty _, ty_lst hx1, kit_ty (by decide +kernel : kitB "list" "tuple" = some false), _, rfl, _, _, _, _, _, rfl, .ty _, ty_lst hy1, kit_ty (by decide +kernel : kitB "list" "tuple" = some false), rfl, _, rfl, iteF ?_⟩
    refine ⟨_, rfl, a, _, rfl, .inl hx1, _, rfl, b, _, rfl, .inl hy1, rfl, ?_⟩
    rw [decide_eq_true (by rw [lx, ly])]
    refine ⟨_, rfl, iteT ?_⟩
    refine ⟨_, rfl, _, rfl, a, b, xs, ys, rfl, .inl ⟨hx1, hy1, fun D nD => ?_⟩⟩
    have sD := s0.trans (same_upd (o := .lst []) nD)
    refine lc_it (walk_zip (K := K) (a := a) (b := b) (xs := xs) (ys := ys) rfl) (fun i H3 => Same H H3 ∧ H3 D = some (.lst (List.replicate i (.bl true)))) ⟨sD, upd_same⟩ (fun i H3 _ ⟨s3, _⟩ => ⟨s3.seq hx, s3.seq hy⟩) ?_ ?_
    · rintro i v H3 H4 hi ⟨s3, eD⟩ ⟨T, x, y, rfl, nT, rfl, e1, e2⟩
      obtain ⟨d1, g1, p1⟩ := DpAll.get ax e1
      obtain ⟨d2, g2, p2⟩ := DpAll.get ay e2
      obtain rfl : d1 = d2 := Option.some.inj (g1.symm.trans g2)
      have s4 := s3.trans (same_upd (o := .tup [x, y]) nT)
      refine ⟨T, _, rfl, .inl (.inl upd_same), rfl, _, _, rfl, _, _, rfl, rfl, rfl, ?_⟩
      refine yesT ?_
      refine ⟨_, rfl, _, rfl, x, y, d1, _, rfl, rfl, lv.2 d1 (List.mem_of_getElem? g1), Dp.same s4 _ _ p1, Dp.same s4 _ _ p2, fun H5 s5 => ?_⟩
      refine ⟨_, s5 _ _ (by rw [upd_ne (ne_of_none eD nT)]; exact eD), ?_, fun p o e => ?_, ?_⟩
      · rw [List.length_replicate]
        have := lv.1
        refine Nat.lt_of_lt_of_le (show i < 1000000 by omega) (by decide)
      · rw [upd_ne (ne_of_none e (s0.free nD))]
        exact s5 _ _ (s4 _ _ e)
      · rw [upd_same, repl_snoc]
    · rintro H3 ⟨s3, eD⟩
      refine ⟨D, List.replicate (min xs.length ys.length) true, rfl, .inl (.inl (by rw [List.map_replicate]; exact eD)), ?_⟩
      rw [all_repl]
      exact q _ s3
  | tuple ds =>
    cases dx with
    | @tup a xs _ hx ax =>
    cases dy with
    | @tup b ys _ hy ay =>
    obtain ⟨i, rfl⟩ : ∃ i, k = i + 1 := by
      cases k with
      | zero => exact absurd lv id
      | succ i => exact ⟨i, rfl⟩
    have lx := DpAll.len ax
    have ly := DpAll.len ay
    have hx1 := Same.seqT s0 hx
    have hy1 := Same.seqT s0 hy
    refine ⟨_, tp, _, _, _, _, rfl, upd_same, pr, ty_tup hy1, kitLT (t := "tuple") (r1 := false) (r2 := true) (by decide +kernel) (by decide +kernel), _, rfl, iteT ?_⟩
    refine ⟨_, rfl, _, _, _, _, _, rfl, .ty _, ty_tup hx1, kit_ty (by decide +kernel : kitB "tuple" "list" = some false), _, rfl, _, _, _, _, _, rfl, .ty _, ty_tup hy1, kit_ty (by decide +kernel : kitB "tuple" "list" = some false), rfl, _, rfl, iteF ?_⟩
    refine ⟨_, rfl, _, _, _, _, _, rfl, .ty _, ty_tup hx1, kit_ty (by decide +kernel : kitB "tuple" "tuple" = some true), _, rfl, _, _, _, _, _, rfl, .ty _, ty_tup hy1, kit_ty (by decide +kernel : kitB "tuple" "tuple" = some true), rfl, _, rfl, iteF ?_⟩
    refine ⟨_, rfl, a, _, rfl, .inr hx1, _, rfl, b, _, rfl, .inr hy1, rfl, ?_⟩
    rw [decide_eq_true (by rw [lx, ly])]
    refine ⟨_, rfl, iteT ?_⟩
    refine ⟨_, rfl, _, rfl, a, b, xs, ys, rfl, .inr ⟨hx1, hy1, fun D nD => ?_⟩⟩
    have sD := s0.trans (same_upd (o := .lst []) nD)
    refine lc_it (walk_zipT (K := K) (a := a) (b := b) (xs := xs) (ys := ys) rfl) (fun i H3 => Same H H3 ∧ H3 D = some (.lst (List.replicate i (.bl true)))) ⟨sD, upd_same⟩ (fun i H3 _ ⟨s3, _⟩ => ⟨Same.seqT s3 hx, Same.seqT s3 hy⟩) ?_ ?_
    · rintro i v H3 H4 hi ⟨s3, eD⟩ ⟨T, x, y, rfl, nT, rfl, e1, e2⟩
      obtain ⟨d1, g1, p1⟩ := DpAll.get ax e1
      obtain ⟨d2, g2, p2⟩ := DpAll.get ay e2
      obtain rfl : d1 = d2 := Option.some.inj (g1.symm.trans g2)
      have s4 := s3.trans (same_upd (o := .tup [x, y]) nT)
      refine ⟨T, _, rfl, .inl (.inl upd_same), rfl, _, _, rfl, _, _, rfl, rfl, rfl, ?_⟩
      refine yesT ?_
      refine ⟨_, rfl, _, rfl, x, y, d1, _, rfl, rfl, lv.2 d1 (List.mem_of_getElem? g1), Dp.same s4 _ _ p1, Dp.same s4 _ _ p2, fun H5 s5 => ?_⟩
      refine ⟨_, s5 _ _ (by rw [upd_ne (ne_of_none eD nT)]; exact eD), ?_, fun p o e => ?_, ?_⟩
      · rw [List.length_replicate]
        have := lv.1
        refine Nat.lt_of_lt_of_le (show i < 1000000 by omega) (by decide)
      · rw [upd_ne (ne_of_none e (s0.free nD))]
        exact s5 _ _ (s4 _ _ e)
      · rw [upd_same, repl_snoc]
    · rintro H3 ⟨s3, eD⟩
      refine ⟨D, List.replicate (min xs.length ys.length) true, rfl, .inl (.inl (by rw [List.map_replicate]; exact eD)), ?_⟩
      rw [all_repl]
      exact q _ s3
  | dict _ => cases dx
theorem ok_same {f : Addr} {fd : FuncData} (F : Fun K "_law_same" "_law_same" sSame f fd) (bf : Binds K fd ["_law_found", "_law_due"] []) (mf : mg "_law_same" = some (.ref f)) (B : Bl mg) : ∀ k : Nat, FnOk P w K mg base CX0 k f fd ["_law_found", "_law_due"] (spSame K k)
  | 0 => same_none
  | k + 1 => ok_same1 F (ok_same F bf mf B k) bf mf B
end
end GZ
namespace GM
theorem pow_pos' (n : Nat) : (0 : Int) < 2 ^ n := Int.pow_pos (by decide)
theorem pow_s (n : Nat) : (2 : Int) ^ (n + 1) = 2 ^ n * 2 := Int.pow_succ 2 n
theorem pow_le' {m n : Nat} (h : m ≤ n) : (2 : Int) ^ m ≤ 2 ^ n := by
  induction n with
  | zero =>
    have : m = 0 := by omega
    rw [this]
    exact Int.le_refl _
  | succ n ih =>
    by_cases e : m = n + 1
    · rw [e]
      exact Int.le_refl _
    · have := ih (by omega)
      have := pow_s n
      have := pow_pos' n
      omega
theorem pow_add' (m n : Nat) : (2 : Int) ^ (m + n) = 2 ^ m * 2 ^ n := Int.pow_add 2 m n
theorem bits_pow {x : Nat} {e : Nat} (h : x < 2 ^ e) : PySem.Builtin.Int.intBits (x : Int) ≤ e := PyProof.Rows.intBits_le (by rw [Int.natAbs_natCast]; exact h)
theorem bits_le_pow {x : Nat} {e : Nat} (h : 2 ^ e ≤ x) : e + 1 ≤ PySem.Builtin.Int.intBits (x : Int) := by
  have hx : x ≠ 0 := by
    have := Nat.two_pow_pos e
    omega
  unfold PySem.Builtin.Int.intBits
  rw [if_neg (by simpa using hx), Int.natAbs_natCast]
  have := (Nat.le_log2 hx).mpr h
  omega
theorem bits_unique {x e : Nat} (h1 : 2 ^ e ≤ x) (h2 : x < 2 ^ (e + 1)) : PySem.Builtin.Int.intBits (x : Int) = e + 1 := by
  have := bits_pow h2
  have := bits_le_pow h1
  omega
theorem bits_ex {x : Nat} (h : 0 < x) : ∃ e, 2 ^ e ≤ x ∧ x < 2 ^ (e + 1) := ⟨x.log2, Nat.log2_self_le (by omega), Nat.lt_log2_self⟩
theorem bits_half {x : Nat} (h : 0 < x) : PySem.Builtin.Int.intBits (x : Int) = PySem.Builtin.Int.intBits ((x / 2 : Nat) : Int) + 1 := by
  obtain ⟨e, h1, h2⟩ := bits_ex h
  rw [bits_unique h1 h2]
  cases e with
  | zero =>
    have : x = 1 := by
      simp at h1 h2
      omega
    rw [this]
    rfl
  | succ e =>
    rw [bits_unique (x := x / 2) (e := e)]
    · rw [Nat.pow_succ] at h1
      omega
    · rw [Nat.pow_succ] at h2
      omega
theorem bits_double {x m : Nat} (h : 0 < x) (hm : m ≤ 1) : PySem.Builtin.Int.intBits ((2 * x + m : Nat) : Int) = PySem.Builtin.Int.intBits (x : Int) + 1 := by
  rw [bits_half (x := 2 * x + m) (by omega), show (2 * x + m) / 2 = x by omega]
theorem shr_lt {x : Int} {a b : Nat} (h0 : 0 ≤ x) (h : x < 2 ^ (a + b)) : 0 ≤ x / 2 ^ b ∧ x / 2 ^ b < 2 ^ a := by
  have hb := pow_pos' b
  refine ⟨Int.ediv_nonneg h0 (by omega), ?_⟩
  rw [pow_add'] at h
  exact Int.ediv_lt_of_lt_mul hb h
end GM
namespace GM
/-! ### words: a sign, a scale of m bits, a tail of t bits -/
def bit (a : Int) (n : Nat) : Int := a / 2 ^ n % 2
def blr (a : Int) : Nat → List Int
  | 0 => []
  | n + 1 => bit a n :: blr a n
def wv : List Int → Int
  | [] => 0
  | d :: r => d * 2 ^ r.length + wv r
theorem blr_len (a : Int) : ∀ n, (blr a n).length = n
  | 0 => rfl
  | n + 1 => by
    show (blr a n).length + 1 = n + 1
    rw [blr_len a n]
theorem div_div (w : Int) (t m : Nat) : w / 2 ^ t / 2 ^ m = w / 2 ^ (t + m) := by
  rw [pow_add', Int.ediv_ediv_of_nonneg (Int.le_of_lt (pow_pos' t))]
theorem bit_div (w : Int) (t m : Nat) : bit (w / 2 ^ t) m = bit w (m + t) := by
  unfold bit
  rw [div_div, Nat.add_comm t m]
theorem blr_take (w : Int) (t : Nat) : ∀ m, (blr w (m + t)).take m = blr (w / 2 ^ t) m
  | 0 => rfl
  | m + 1 => by
    show (blr w ((m + 1) + t)).take (m + 1) = bit (w / 2 ^ t) m :: blr (w / 2 ^ t) m
    rw [show m + 1 + t = (m + t) + 1 by omega]
    show bit w (m + t) :: (blr w (m + t)).take m = _
    rw [blr_take w t m, bit_div]
theorem blr_drop (w : Int) (t : Nat) : ∀ m, (blr w (m + t)).drop m = blr w t
  | 0 => by rw [Nat.zero_add]; rfl
  | m + 1 => by
    rw [show m + 1 + t = (m + t) + 1 by omega]
    show (blr w (m + t)).drop m = _
    exact blr_drop w t m
theorem mod_step (a : Int) (n : Nat) : bit a n * 2 ^ n + a % 2 ^ n = a % 2 ^ (n + 1) := by
  unfold bit
  have hp := pow_pos' n
  have e1 := Int.emod_add_mul_ediv a (2 ^ n)
  have e2 := Int.emod_add_mul_ediv (a / 2 ^ n) 2
  have h1 := Int.emod_nonneg a (show (2 : Int) ^ n ≠ 0 by omega)
  have h2 := Int.emod_lt_of_pos a hp
  have e3 : 2 ^ n * (a / 2 ^ n) = a / 2 ^ n % 2 * 2 ^ n + a / 2 ^ n / 2 * (2 ^ n * 2) := by
    conv => lhs; rw [← e2]
    rw [Int.mul_add, Int.mul_comm (2 ^ n) (a / 2 ^ n % 2), ← Int.mul_assoc, Int.mul_comm (2 ^ n * 2) _]
  have key : (a / 2 ^ n % 2 * 2 ^ n + a % 2 ^ n) + a / 2 ^ n / 2 * 2 ^ (n + 1) = a := by
    rw [pow_s]
    omega
  have hb : 0 ≤ a / 2 ^ n % 2 * 2 ^ n + a % 2 ^ n ∧ a / 2 ^ n % 2 * 2 ^ n + a % 2 ^ n < 2 ^ (n + 1) := by
    rw [pow_s]
    have : a / 2 ^ n % 2 = 0 ∨ a / 2 ^ n % 2 = 1 := by omega
    rcases this with z | z <;> rw [z] <;> omega
  have em := Int.add_mul_emod_self_right (a / 2 ^ n % 2 * 2 ^ n + a % 2 ^ n) (a / 2 ^ n / 2) (2 ^ (n + 1))
  rw [key, Int.emod_eq_of_lt hb.1 hb.2] at em
  exact em.symm
theorem wv_blr (a : Int) : ∀ n, wv (blr a n) = a % 2 ^ n
  | 0 => by
    show (0 : Int) = a % 1
    omega
  | n + 1 => by
    show bit a n * 2 ^ (blr a n).length + wv (blr a n) = _
    rw [blr_len, wv_blr a n, ← mod_step a n]
theorem fold2 : ∀ (ds : List Int) (w : Int), ds.foldl (fun a b => a * 2 + b) w = w * 2 ^ ds.length + wv ds
  | [], w => by
    show w = w * 2 ^ 0 + 0
    rw [Int.pow_zero]
    omega
  | d :: r, w => by
    show r.foldl (fun a b => a * 2 + b) (w * 2 + d) = w * 2 ^ (r.length + 1) + (d * 2 ^ r.length + wv r)
    rw [fold2 r, pow_s, Int.add_mul, Int.mul_assoc, Int.mul_comm 2 (2 ^ r.length)]
    omega
theorem wv_ones : ∀ k, wv (List.replicate k 1) = 2 ^ k - 1
  | 0 => rfl
  | k + 1 => by
    rw [List.replicate_succ]
    show 1 * 2 ^ (List.replicate k (1 : Int)).length + wv (List.replicate k 1) = _
    rw [List.length_replicate, wv_ones k, pow_s]
    omega
/-- sign, scale, tail of a word -/
def sgn (m t : Nat) (w : Int) : Int := w / 2 ^ (m + t) % 2
def scl (m t : Nat) (w : Int) : Int := w / 2 ^ t % 2 ^ m
def tlp (t : Nat) (w : Int) : Int := w % 2 ^ t
theorem scl_tlp (m t : Nat) (w : Int) : scl m t w * 2 ^ t + tlp t w = w % 2 ^ (m + t) := by
  induction m with
  | zero =>
    unfold scl tlp
    rw [Int.pow_zero, Int.emod_one, Int.zero_mul, Int.zero_add, Nat.zero_add]
  | succ m ih =>
    have e := mod_step (w / 2 ^ t) m
    have e2 := mod_step w (m + t)
    rw [bit_div] at e
    unfold scl at ih ⊢
    rw [← e, Int.add_mul, show m + 1 + t = (m + t) + 1 by omega, ← e2, ← ih, Int.mul_assoc, ← pow_add']
    omega
theorem sgn_01 {m t : Nat} {w : Int} : sgn m t w = 0 ∨ sgn m t w = 1 := by
  unfold sgn
  omega
theorem word_eq {m t : Nat} {w : Int} (h0 : 0 ≤ w) (h1 : w < 2 ^ (1 + m + t)) : sgn m t w * 2 ^ (m + t) + w % 2 ^ (m + t) = w := by
  have e := mod_step w (m + t)
  rw [show m + t + 1 = 1 + m + t by omega, Int.emod_eq_of_lt h0 h1] at e
  exact e
theorem scl_nn (m t : Nat) (w : Int) : 0 ≤ scl m t w ∧ scl m t w < 2 ^ m := ⟨Int.emod_nonneg _ (by have := pow_pos' m; omega), Int.emod_lt_of_pos _ (pow_pos' m)⟩
theorem tlp_nn (t : Nat) (w : Int) : 0 ≤ tlp t w ∧ tlp t w < 2 ^ t := ⟨Int.emod_nonneg _ (by have := pow_pos' t; omega), Int.emod_lt_of_pos _ (pow_pos' t)⟩
/-- with the other sign -/
def trn (m t : Nat) (w : Int) : Int := (1 - sgn m t w) * 2 ^ (m + t) + w % 2 ^ (m + t)
theorem mk_parts {m t : Nat} {s r : Int} (hs : s = 0 ∨ s = 1) (h0 : 0 ≤ r) (h1 : r < 2 ^ (m + t)) : 0 ≤ s * 2 ^ (m + t) + r ∧ s * 2 ^ (m + t) + r < 2 ^ (1 + m + t) ∧ sgn m t (s * 2 ^ (m + t) + r) = s ∧ (s * 2 ^ (m + t) + r) % 2 ^ (m + t) = r := by
  have hp := pow_pos' (m + t)
  have e : (2 : Int) ^ (1 + m + t) = 2 ^ (m + t) * 2 := by rw [← pow_s]; congr 1; omega
  have em : (s * 2 ^ (m + t) + r) % 2 ^ (m + t) = r := by
    rw [Int.add_comm, Int.add_mul_emod_self_right, Int.emod_eq_of_lt h0 h1]
  have ed : (s * 2 ^ (m + t) + r) / 2 ^ (m + t) = s := by
    rw [Int.add_comm, Int.add_mul_ediv_right _ _ (by omega), Int.ediv_eq_zero_of_lt h0 h1, Int.zero_add]
  refine ⟨?_, ?_, ?_, em⟩
  · rcases hs with z | z <;> subst z <;> omega
  · rw [e]
    rcases hs with z | z <;> subst z <;> omega
  · unfold sgn
    rw [ed]
    omega
theorem trn_trn {m t : Nat} {w : Int} (h0 : 0 ≤ w) (h1 : w < 2 ^ (1 + m + t)) : trn m t (trn m t w) = w ∧ 0 ≤ trn m t w ∧ trn m t w < 2 ^ (1 + m + t) := by
  have hp := pow_pos' (m + t)
  have hs : 1 - sgn m t w = 0 ∨ 1 - sgn m t w = 1 := by
    have := sgn_01 (m := m) (t := t) (w := w)
    omega
  obtain ⟨a, b, c, d⟩ := mk_parts (m := m) (t := t) hs (Int.emod_nonneg w (show (2 : Int) ^ (m + t) ≠ 0 by omega)) (Int.emod_lt_of_pos w hp)
  refine ⟨?_, a, b⟩
  show (1 - sgn m t (trn m t w)) * 2 ^ (m + t) + trn m t w % 2 ^ (m + t) = w
  rw [show sgn m t (trn m t w) = 1 - sgn m t w from c, show trn m t w % 2 ^ (m + t) = w % 2 ^ (m + t) from d, show 1 - (1 - sgn m t w) = sgn m t w by omega]
  exact word_eq h0 h1
end GM
namespace GZ
open PySem PySem.Spec PyProof.Rows L2
end GZ
namespace GZ
open PySem PySem.Spec PyProof.Rows L2
theorem val0 (t : Tok) : Vals [V.int 0] [Value.int 0 t] := .cons ⟨_, rfl⟩ .nil
/-! ### keyword-only parameters -/
theorem kbn_of {K : PySem.W.Frag} {x qual : Str} {st : Stmt} {D : Addr} {an : Option Addr} {doc pm cdv ct : Value} {ps ks : List Str} {n : Nat} {ml : List (Str × Value)} {g : List Value → List Value → List Value} {gV : List V → List V → List V} (hml : ∀ q ∈ ml, PySem.W.nsIn K D q.1 = some (some q.2))
    (h : ∀ us ws : List Value, us.length = n → ws.length = ks.length → KwChain D ml (bindArgs (PySem.W.fnOf x qual (defArgs st) (defBody st) (defScope st) .none (.ref D) doc pm an cdv ct) ⟨us, ks.zip ws⟩) (ps.zip (g us ws)))
    (rel : ∀ {vs : List V} {us : List Value} {zs : List V} {ws : List Value}, vs.length = n → zs.length = ks.length → Vals vs us → Vals zs ws → Vals (gV vs zs) (g us ws)) :
    ∀ (s : Shared) (us ws : List Value), K.In s.heap → us.length = n → ws.length = ks.length → BindsTo s (PySem.W.fnOf x qual (defArgs st) (defBody st) (defScope st) .none (.ref D) doc pm an cdv ct) ⟨us, ks.zip ws⟩ (ps.zip (g us ws)) :=
  fun s us ws X l1 l2 => BindsTo.of_looks fun M => KwChain.looks X hml (h us ws l1 l2)
theorem bnd_of {K : PySem.W.Frag} {x qual : Str} {st : Stmt} {D : Addr} {an : Option Addr} {doc pm cdv ct : Value} {ps : List Str} {ml : List (Str × Value)} {ds : List Value} (hml : ∀ q ∈ ml, PySem.W.nsIn K D q.1 = some (some q.2))
    (h : ∀ us : List Value, us.length + ds.length = ps.length → KwChain D ml (bindArgs (PySem.W.fnOf x qual (defArgs st) (defBody st) (defScope st) .none (.ref D) doc pm an cdv ct) ⟨us, []⟩) (ps.zip (us ++ ds))) :
    Binds K (PySem.W.fnOf x qual (defArgs st) (defBody st) (defScope st) .none (.ref D) doc pm an cdv ct) ps ds := fun s us X hl => by
  rw [List.length_append] at hl
  exact BindsTo.of_looks fun M => KwChain.looks X hml (h us hl)
/-! ### a def whose defaults aren't asked for -/
structure FunA (K : PySem.W.Frag) (x qual : Str) (st : Stmt) (f : Addr) (fd : FuncData) : Prop where
  ex : ∃ (oc : Value) (od : Option Addr) (dV kV doc pm : Value) (an : Option Addr) (cdv ct : Value) (osl : Array (Option Value)),
    fd = PySem.W.fnOf x qual (defArgs st) (defBody st) (defScope st) dV kV doc pm an cdv ct ∧ K.lookup f = some ⟨oc, od, .func fd, osl⟩ ∧ PySem.W.codeIn K cdv qual = true
  kp : PySem.W.keepIn K (.ref f) = true
theorem FunA.ok {P : Program} {w : World} {K : PySem.W.Frag} {mg : Str → Option Value} {base : Heap} {x qual : Str} {st : Stmt} {f : Addr} {fd : FuncData} {N ps : List Str} {k : Nat} {sp : Sp} (F : FunA K x qual st f fd) (S : FnScope N ps (defScope st)) (len : ∀ vs H Q E, sp vs H Q E → vs.length = ps.length)
    (hbody : ∀ (cdv : Value) (A : Around) (outer : List Env) (s : Shared) (H : Hp) (vs : List V) (Q : VK) (E : XK), Room k (A.deeper (envOfC qual (defScope st) s.heap.objs.size f cdv)) → sp vs H Q E →
      ∃ t, PSs (cxOf CX0 P w K mg base N qual (defScope st) f cdv A outer s H E).nox (defBody st) t ∧ t { nx := fun _ H' => Q .non H', rt := Q } (start N vs) H) : FnOk P w K mg base CX0 (k + 1) f fd ps sp := by
  obtain ⟨oc, od, dV, kV, doc, pm, an, cdv, ct, osl, rfl, lk, hcd⟩ := F.ex
  refine fn_of lk hcd S len fun A outer s H vs Q E hr hsp => ?_
  obtain ⟨t, h, q⟩ := hbody cdv A outer s H vs Q E hr hsp
  exact ⟨t, h.nox, q⟩
theorem bindsA {K : PySem.W.Frag} {x qual : Str} {st : Stmt} {f T : Addr} {oc oT vT : Value} {od an dT : Option Addr} {osl sT : Array (Option Value)} {kV doc pm cdv ct : Value} {nT : Nat} {ps : List Str} (l : K.lookup f = some ⟨oc, od, .func (PySem.W.fnOf x qual (defArgs st) (defBody st) (defScope st) (.ref T) kV doc pm an cdv ct), osl⟩)
    (lT : K.lookup T = some ⟨oT, dT, .seq #[vT] nT, sT⟩)
    (h : ∀ (kV doc pm : Value) (an : Option Addr) (cdv ct : Value) (us : List Value), us.length = ps.length → ∃ k, bindArgs (PySem.W.fnOf x qual (defArgs st) (defBody st) (defScope st) (.ref T) kV doc pm an cdv ct) ⟨us, []⟩ = seqItems? (.ref T) >>= k ∧ k (some #[vT]) = pure (ps.zip us)) : Binds K (PySem.W.fnOf x qual (defArgs st) (defBody st) (defScope st) (.ref T) kV doc pm an cdv ct) ps [] := by
  intro s us X hl
  rw [List.append_nil] at hl ⊢
  obtain ⟨k, e1, e2⟩ := h kV doc pm an cdv ct us hl
  refine BindsTo.of_looks fun M => ?_
  rw [e1]
  exact looks_items X lT rfl (.of_pure e2)
theorem bindsAD {K : PySem.W.Frag} {x qual : Str} {st : Stmt} {f T : Addr} {oc oT vT : Value} {od an dT : Option Addr} {osl sT : Array (Option Value)} {kV doc pm cdv ct : Value} {nT : Nat} {ps : List Str} (l : K.lookup f = some ⟨oc, od, .func (PySem.W.fnOf x qual (defArgs st) (defBody st) (defScope st) (.ref T) kV doc pm an cdv ct), osl⟩)
    (lT : K.lookup T = some ⟨oT, dT, .seq #[vT] nT, sT⟩)
    (h : ∀ (kV doc pm : Value) (an : Option Addr) (cdv ct : Value) (us : List Value), us.length + 1 = ps.length → ∃ k, bindArgs (PySem.W.fnOf x qual (defArgs st) (defBody st) (defScope st) (.ref T) kV doc pm an cdv ct) ⟨us, []⟩ = seqItems? (.ref T) >>= k ∧ k (some #[vT]) = pure (ps.zip (us ++ [vT]))) : Binds K (PySem.W.fnOf x qual (defArgs st) (defBody st) (defScope st) (.ref T) kV doc pm an cdv ct) ps [vT] := by
  intro s us X hl
  rw [List.length_append] at hl
  obtain ⟨k, e1, e2⟩ := h kV doc pm an cdv ct us hl
  refine BindsTo.of_looks fun M => ?_
  rw [e1]
  exact looks_items X lT rfl (.of_pure e2)
theorem kbindsA {x1 : Str} {K : PySem.W.Frag} {x qual : Str} {st : Stmt} {f T : Addr} {oc oT vT : Value} {od an dT : Option Addr} {osl sT : Array (Option Value)} {kV doc pm cdv ct : Value} {nT : Nat} {ps : List Str} (l : K.lookup f = some ⟨oc, od, .func (PySem.W.fnOf x qual (defArgs st) (defBody st) (defScope st) (.ref T) kV doc pm an cdv ct), osl⟩)
    (lT : K.lookup T = some ⟨oT, dT, .seq #[vT] nT, sT⟩)
    (h : ∀ (kV doc pm : Value) (an : Option Addr) (cdv ct u w : Value), ∃ k, bindArgs (PySem.W.fnOf x qual (defArgs st) (defBody st) (defScope st) (.ref T) kV doc pm an cdv ct) ⟨[u], [(x1, w)]⟩ = seqItems? (.ref T) >>= k ∧ k (some #[vT]) = pure (ps.zip [u, w])) : KBn K (PySem.W.fnOf x qual (defArgs st) (defBody st) (defScope st) (.ref T) kV doc pm an cdv ct) ps 1 [x1] (fun us ws => us ++ ws) (fun us ws => us ++ ws) := by
  refine ⟨fun s us ws X l1 l2 => ?_, fun r1 r2 => r1.append r2⟩
  match us, ws, l1, l2 with
  | [u], [w], _, _ =>
    obtain ⟨k, e1, e2⟩ := h kV doc pm an cdv ct u w
    refine BindsTo.of_looks fun M => ?_
    show PySem.W.Looks M s.heap (bindArgs (PySem.W.fnOf x qual (defArgs st) (defBody st) (defScope st) (.ref T) kV doc pm an cdv ct) ⟨[u], [(x1, w)]⟩) (ps.zip [u, w])
    rw [e1]
    exact looks_items X lT rfl (.of_pure e2)
theorem funA_mk {K : PySem.W.Frag} {x qual : Str} {st : Stmt} {f : Addr} {oc : Value} {od an : Option Addr} {osl : Array (Option Value)} {dV kV doc pm cdv ct : Value} (l : K.lookup f = some ⟨oc, od, .func (PySem.W.fnOf x qual (defArgs st) (defBody st) (defScope st) dV kV doc pm an cdv ct), osl⟩)
    (c : PySem.W.codeIn K cdv qual = true) (k : PySem.W.keepIn K (.ref f) = true) : FunA K x qual st f (PySem.W.fnOf x qual (defArgs st) (defBody st) (defScope st) dV kV doc pm an cdv ct) := ⟨⟨oc, od, dV, kV, doc, pm, an, cdv, ct, osl, rfl, l, c⟩, k⟩
section
variable {P : Program} {w : World} {K : PySem.W.Frag} {mg : Str → Option Value} {base : Heap}
theorem cutG {Cd A : Int → Int → Hp → Prop} {B : Prop} (h1 : ∀ n p H, Cd n p H → A n p H) (h2 : (∀ n p H, Cd n p H → A n p H) → B) : B := h2 h1
theorem cutA {Cd A : Addr → Hp → Prop} {B : Prop} (h1 : ∀ a H, Cd a H → A a H) (h2 : (∀ a H, Cd a H → A a H) → B) : B := h2 h1
theorem cutH {H : Hp} {A : Hp → Prop} {B : Prop} (h1 : ∀ H', Same H H' → A H') (h2 : (∀ H', Same H H' → A H') → B) : B := h2 h1
theorem cutP {A B : Prop} (h1 : A) (h2 : A → B) : B := h2 h1
theorem gB {i : Nat} {v u : Bool} {σ : L2.St} {H : Hp} {D : L2.St → Hp → Prop} (e : v = u) (h : gName i (V.bl u) σ H D) : gName i (V.bl v) σ H D := e ▸ h
theorem gI {i : Nat} {v u : Int} {σ : L2.St} {H : Hp} {D : L2.St → Hp → Prop} (e : v = u) (h : gName i (V.int u) σ H D) : gName i (V.int v) σ H D := e ▸ h
theorem dvi (a b : Int) : decide (V.int a = V.int b) = decide (a = b) := by
  by_cases c : a = b
  · rw [decide_eq_true c, decide_eq_true (congrArg V.int c)]
  · rw [decide_eq_false c, decide_eq_false (fun z => c (V.int.inj z))]
theorem dvs (a b : Str) : decide (V.str a = V.str b) = decide (a = b) := by
  by_cases c : a = b
  · rw [decide_eq_true c, decide_eq_true (congrArg V.str c)]
  · rw [decide_eq_false c, decide_eq_false (fun z => c (V.str.inj z))]
theorem bx1 {c : Int} {H : Hp} {b : Addr} (h : BoxAt (c + 2 ^ (1 - 1)) H b) : BoxAt (c + 1) H b := h
theorem Keep.none {b p : Addr} {H H' : Hp} (k : Keep b H H') (n : p ≠ b) (h : H' p = none) : H p = none := by
  cases q : H p with
  | none => rfl
  | some o =>
    rw [k p o q n] at h
    cases h
theorem dp_ints {H : Hp} : ∀ ds : List Int, DpAll K H (ds.map V.int) (ds.map PyData.int)
  | [] => .nil
  | d :: ds => .cons (.int d) (dp_ints ds)
theorem lv_ints {n : Nat} (ds : List Int) (h : ds.length ≤ 1000) : Lv (n + 1) (.list (ds.map PyData.int)) := by
  refine ⟨by rw [List.length_map]; omega, fun d hd => ?_⟩
  obtain ⟨x, _, rfl⟩ := List.mem_map.mp hd
  cases n <;> trivial
theorem eqv_ints (ds : List Int) : PyData.eqv (.list (ds.map PyData.int)) (.list (ds.map PyData.int)) = true := PySem.SeqAt.eqv_refl _ (PySem.SeqAt.canLay_of_shaped (PySem.W.shaped_ints ds))
/-! ### nets -/
def KeepS (S : List Addr) (H H' : Hp) : Prop := (∀ y o, H y = some o → y ∉ S → H' y = some o) ∧ ∀ y, H y ≠ none → H' y ≠ none
theorem KeepS.refl (S : List Addr) (H : Hp) : KeepS S H H := ⟨fun _ _ e _ => e, fun _ e => e⟩
theorem KeepS.trans {S : List Addr} {H H1 H2 : Hp} (a : KeepS S H H1) (b : KeepS S H1 H2) : KeepS S H H2 := ⟨fun y o e n => b.1 y o (a.1 y o e n) n, fun y e => b.2 y (a.2 y e)⟩
theorem some_ne {H : Hp} {y : Addr} {o : HO} (e : H y = some o) : H y ≠ none := fun z => by rw [z] at e; cases e
theorem KeepS.ofSame {S : List Addr} {H H1 : Hp} (s : Same H H1) : KeepS S H H1 := ⟨fun y o e _ => s y o e, fun y e => by
  cases q : H y with
  | none => exact absurd q e
  | some o => exact some_ne (s y o q)⟩
theorem KeepS.mono {S T : List Addr} {H H1 : Hp} (h : ∀ y ∈ S, y ∈ T) (a : KeepS S H H1) : KeepS T H H1 := ⟨fun y o e n => a.1 y o e (fun m => n (h y m)), a.2⟩
theorem KeepS.ofKeep {b : Addr} {S : List Addr} {H H1 : Hp} (k : Keep b H H1) (m : b ∈ S) (hb : H1 b ≠ none) : KeepS S H H1 := ⟨fun y o e n => k y o e (fun z => n (by rw [z]; exact m)), fun y e => by
  by_cases c : y = b
  · rw [c]
    exact hb
  · cases q : H y with
    | none => exact absurd q e
    | some o => exact some_ne (k y o q c)⟩
theorem KeepS.upd {S : List Addr} {H : Hp} {a : Addr} {o : HO} (m : a ∈ S) : KeepS S H (upd H a o) := ⟨fun y u e n => by rw [upd_ne (fun z => n (by rw [z]; exact m))]; exact e, fun y e => by
  by_cases c : y = a
  · rw [c, upd_same]
    exact fun z => by cases z
  · rw [upd_ne c]
    exact e⟩
theorem KeepS.new {S : List Addr} {H : Hp} {a : Addr} {o : HO} (n : H a = none) : KeepS S H (L2.upd H a o) := .ofSame (same_upd n)
theorem KeepS.keep {b : Addr} {H H1 : Hp} (k : KeepS [b] H H1) : Keep b H H1 := fun y o e n => k.1 y o e (by simp only [List.mem_singleton]; exact n)
theorem KeepS.same {H H1 : Hp} (k : KeepS [] H H1) : Same H H1 := fun y o e => k.1 y o e (fun z => nomatch z)
theorem KeepS.seq {K : PySem.W.Frag} {S : List Addr} {a : Addr} {H H' : Hp} {xs : List V} (e : KeepS S H H') (n : a ∉ S) (h : SqL K H a xs) : SqL K H' a xs := by
  rcases h with (h | ⟨o, h⟩) | h
  · exact .inl (.inl (e.1 _ _ h n))
  · exact .inl (.inr ⟨o, e.1 _ _ h n⟩)
  · exact .inr h
theorem KeepS.seqT {K : PySem.W.Frag} {S : List Addr} {a : Addr} {H H' : Hp} {xs : List V} (e : KeepS S H H') (n : a ∉ S) (h : SqT K H a xs) : SqT K H' a xs := by
  rcases h with (h | ⟨o, h⟩) | h
  · exact .inl (.inl (e.1 _ _ h n))
  · exact .inl (.inr ⟨o, e.1 _ _ h n⟩)
  · exact .inr h
theorem BoxAt.keepS {c : Int} {S : List Addr} {H H' : Hp} {b : Addr} (h : BoxAt c H b) (k : KeepS S H H') (n : b ∉ S) : BoxAt c H' b := by
  obtain ⟨x, y, z, e, r⟩ := h
  exact ⟨x, y, z, k.1 _ _ e n, r⟩
inductive Gt where
  | w (k : Str) (ws : List Nat)
  | fi (b : Nat)
def nts (ws : List Nat) : List V := ws.map fun (a : Nat) => V.int (a : Int)
theorem nts_at {ws : List Nat} {i : Nat} {x : V} (h : (nts ws)[i]? = some x) : ∃ v, ws[i]? = some v ∧ x = .int (v : Int) := by
  unfold nts at h
  rw [List.getElem?_map] at h
  cases q : ws[i]? with
  | none => rw [q] at h; cases h
  | some v => rw [q] at h; exact ⟨v, rfl, (Option.some.inj h).symm⟩
theorem nts_len (ws : List Nat) : (nts ws).length = ws.length := by
  unfold nts
  rw [List.length_map]
def Gt.row : Gt → List V
  | .w k ws => .str k :: nts ws
  | .fi b => [.str "fixed", .int (b : Int)]
def Gt.ok (n : Nat) : Gt → Prop
  | .w k ws => (((k = "both" ∨ k = "either" ∨ k = "unlike") ∧ ws.length = 2) ∨ (k = "other" ∧ ws.length = 1)) ∧ ∀ a ∈ ws, a < n
  | .fi b => b ≤ 1
def mx (l : List Int) : Int := l.foldl (fun m x => if x > m then x else m) 0
theorem mx_fold : ∀ (l : List Int) (a : Int), a ≤ l.foldl (fun m x => if x > m then x else m) a ∧ (∀ y ∈ l, y ≤ l.foldl (fun m x => if x > m then x else m) a) ∧ (l.foldl (fun m x => if x > m then x else m) a = a ∨ l.foldl (fun m x => if x > m then x else m) a ∈ l)
  | [], a => ⟨Int.le_refl _, (fun _ z => nomatch z), .inl rfl⟩
  | x :: l, a => by
    obtain ⟨h1, h2, h3⟩ := mx_fold l (if x > a then x else a)
    have e : a ≤ (if x > a then x else a) ∧ x ≤ (if x > a then x else a) ∧ ((if x > a then x else a) = a ∨ (if x > a then x else a) = x) := by split <;> omega
    rw [List.foldl_cons]
    refine ⟨by omega, fun y hy => ?_, ?_⟩
    · rcases List.mem_cons.mp hy with z | z
      · rw [z]
        omega
      · exact h2 y z
    · rcases h3 with z | z
      · rcases e.2.2 with u | u
        · exact .inl (z.trans u)
        · exact .inr (List.mem_cons.mpr (.inl (z.trans u)))
      · exact .inr (List.mem_cons.mpr (.inr z))
theorem mx_is {l : List Int} {m : Int} (h : m ∈ l) (hm : ∀ y ∈ l, y ≤ m) (h0 : ∀ y ∈ l, 0 ≤ y) : mx l = m := by
  obtain ⟨h1, h2, h3⟩ := mx_fold l 0
  have a := h2 m h
  have b := h0 m h
  unfold mx
  rcases h3 with z | z
  · omega
  · have := hm _ z
    omega
theorem mx_nn (l : List Int) : 0 ≤ mx l := (mx_fold l 0).1
def dep (ds : List Int) : Gt → Int
  | .w _ ws => 1 + mx (ws.map fun a => ds.getD a 0)
  | .fi _ => 0
theorem dep_nn (ds : List Int) (g : Gt) : 0 ≤ dep ds g := by
  cases g with
  | w k ws =>
    have := mx_nn (ws.map fun a => ds.getD a 0)
    show 0 ≤ 1 + mx (ws.map fun a => ds.getD a 0)
    omega
  | fi b => exact Int.le_refl _
def dps (m : Nat) (gs : List Gt) : List Int := gs.foldl (fun ds g => ds ++ [dep ds g]) (List.replicate m 0)
theorem dps_snoc (m : Nat) (gs : List Gt) (g : Gt) : dps m (gs ++ [g]) = dps m gs ++ [dep (dps m gs) g] := by
  unfold dps
  rw [List.foldl_append]
  rfl
theorem dps_fold : ∀ (gs : List Gt) (ds : List Int), (∀ d ∈ ds, 0 ≤ d) → (gs.foldl (fun ds g => ds ++ [dep ds g]) ds).length = ds.length + gs.length ∧ ∀ d ∈ gs.foldl (fun ds g => ds ++ [dep ds g]) ds, 0 ≤ d
  | [], ds, h => ⟨rfl, h⟩
  | g :: gs, ds, h => by
    have a := dps_fold gs (ds ++ [dep ds g]) (fun d hd => by
      rcases List.mem_append.mp hd with z | z
      · exact h d z
      · rw [List.mem_singleton.mp z]
        exact dep_nn ds g)
    rw [List.foldl_cons]
    refine ⟨?_, a.2⟩
    rw [a.1, List.length_append, List.length_cons, List.length_cons, List.length_nil]
    omega
theorem dps_len (m : Nat) (gs : List Gt) : (dps m gs).length = m + gs.length := by
  have a := (dps_fold gs (List.replicate m 0) (fun d hd => by rw [List.eq_of_mem_replicate hd]; exact Int.le_refl _)).1
  rw [List.length_replicate] at a
  exact a
theorem dps_nn (m : Nat) (gs : List Gt) : ∀ d ∈ dps m gs, 0 ≤ d := (dps_fold gs (List.replicate m 0) (fun d hd => by rw [List.eq_of_mem_replicate hd]; exact Int.le_refl _)).2
structure NetP where
  x : Addr
  lm : Addr
  ld : Addr
  dn : Addr
def GsAt (Z : List Addr) (H : Hp) (ps : List Addr) (gs : List Gt) : Prop := ps.length = gs.length ∧ ∀ (i : Nat) (q : Addr) (g : Gt), ps[i]? = some q → gs[i]? = some g → q ∉ Z ∧ H q = some (.tup g.row)
def NmAt (Z : List Addr) (H : Hp) (p : NetP) (kvs : List (Key × V)) (nm : List (Str × List Nat)) : Prop :=
  kvs.length = nm.length ∧ (nm.map (·.1)).Nodup ∧ ∀ (i : Nat) (k : Key) (v : V) (n : Str) (ws : List Nat), kvs[i]? = some (k, v) → nm[i]? = some (n, ws) → k = .inr n ∧ ∃ l, v = .ref l ∧ l ∉ Z ∧ l ≠ p.lm ∧ l ≠ p.ld ∧ H l = some (.lst (nts ws))
def NetAt (C : Addr) (Z : List Addr) (H : Hp) (p : NetP) (m : Nat) (gs : List Gt) (nm : List (Str × List Nat)) : Prop :=
  (∀ z ∈ Z, H z ≠ none) ∧ p.lm ≠ p.ld ∧ (p.x ∉ Z ∧ p.lm ∉ Z ∧ p.ld ∉ Z ∧ p.dn ∉ Z) ∧ ∃ dx ps kvs, H p.x = some (.ins C dx [("input_count", .int (m : Int)), ("made", .ref p.lm), ("depths", .ref p.ld), ("by_name", .ref p.dn)]) ∧
    H p.lm = some (.lst (ps.map V.ref)) ∧ H p.ld = some (.lst ((dps m gs).map V.int)) ∧ H p.dn = some (.dK kvs) ∧ GsAt Z H ps gs ∧ NmAt Z H p kvs nm
theorem NetAt.keep {C : Addr} {S Z : List Addr} {H H' : Hp} {p : NetP} {m : Nat} {gs : List Gt} {nm : List (Str × List Nat)} (h : NetAt C Z H p m gs nm) (k : KeepS S H H') (hs : ∀ y ∈ S, y ∈ Z) : NetAt C Z H' p m gs nm := by
  obtain ⟨a, b, ⟨c1, c2, c3, c4⟩, dx, ps, kvs, e1, e2, e3, e4, ⟨g1, g2⟩, n1, n2, n3⟩ := h
  have f : ∀ {y : Addr} {o : HO}, y ∉ Z → H y = some o → H' y = some o := fun n e => k.1 _ _ e (fun z => n (hs _ z))
  refine ⟨fun z hz => k.2 z (a z hz), b, ⟨c1, c2, c3, c4⟩, dx, ps, kvs, f c1 e1, f c2 e2, f c3 e3, f c4 e4, ⟨g1, fun i q g hi hg => ?_⟩, n1, n2, fun i k v n ws hi hn => ?_⟩
  · have := g2 i q g hi hg
    exact ⟨this.1, f this.1 this.2⟩
  · obtain ⟨ek, l, ev, l1, l2, l3, l4⟩ := n3 i k v n ws hi hn
    exact ⟨ek, l, ev, l1, l2, l3, f l1 l4⟩
theorem NetAt.same {C : Addr} {Z : List Addr} {H H' : Hp} {p : NetP} {m : Nat} {gs : List Gt} {nm : List (Str × List Nat)} (h : NetAt C Z H p m gs nm) (s : Same H H') : NetAt C Z H' p m gs nm := h.keep (S := []) (.ofSame s) (fun _ z => nomatch z)
theorem NetAt.keepB {C b : Addr} {Z : List Addr} {H H' : Hp} {p : NetP} {m : Nat} {gs : List Gt} {nm : List (Str × List Nat)} (h : NetAt C Z H p m gs nm) (k : Keep b H H') (hb : H' b ≠ none) (m' : b ∈ Z) : NetAt C Z H' p m gs nm := h.keep (S := [b]) (.ofKeep k (List.mem_singleton.mpr rfl) hb) (fun y hy => by rw [List.mem_singleton.mp hy]; exact m')
theorem BoxAt.some {c : Int} {H : Hp} {b : Addr} (h : BoxAt c H b) : H b ≠ none := by
  obtain ⟨_, _, _, e, _⟩ := h
  exact some_ne e
theorem made {C : Addr} {H : Hp} {x dx : Addr} (nx : H x = none) (nd : H dx = none) (ne : dx ≠ x) {H' : Hp} (k : ∀ p o, (upd (upd H dx (.own x)) x (.ins C dx [])) p = some o → p ≠ x → H' p = some o) : Same H H' := fun p o e =>
  k p o (by rw [upd_ne (ne_of_none e nx), upd_ne (ne_of_none e nd)]; exact e) (ne_of_none e nx)
theorem units1 {k : Nat} {A : Around} (r : Room k A) : A.units + 1 < cLine := by have := r.un; omega
theorem pi_or {X : Cx} {tg e : Expr} {i j : TI} (h1 : PI X tg e i) (h2 : PI X tg e j) : PI X tg e (fun σ H R => i σ H R ∨ j σ H R) := ⟨fun pins s σ H R I h => h.elim (fun a => h1.run pins s σ H R I a) (fun b => h2.run pins s σ H R I b)⟩
structure FT (K : PySem.W.Frag) (mg : Str → Option Value) (C : Addr) : Prop where
  cl : Cls K C
  n_input_count : NoAttr K C "input_count"
  n_made : NoAttr K C "made"
  n_depths : NoAttr K C "depths"
  n_by_name : NoAttr K C "by_name"
  mgC : mg "Net" = some (.ref C)
structure LL (K : PySem.W.Frag) (mg : Str → Option Value) (C : Addr) (a1 a2 a3 a4 a5 a6 a7 a8 a9 a10 a11 a12 a13 a14 a15 a16 a17 a18 a19 a20 a21 a22 a23 a24 a25 : Addr) (l1 l2 l3 l4 l5 l6 l7 l8 l9 l10 l11 l12 l13 l14 l15 l16 l17 l18 l19 l20 l21 l22 l23 l24 l25 : FuncData) : Prop where
  F__law_box : Fun K "_law_box" "_law_box" sBox a1 l1
  m__law_box : mg "_law_box" = some (.ref a1)
  b__law_box : Binds K l1 ["_law_script", "_law_k"] []
  F__law_take : Fun K "_law_take" "_law_take" sTake a2 l2
  m__law_take : mg "_law_take" = some (.ref a2)
  b__law_take : Binds K l2 ["_law_box_here", "_law_size"] []
  F__law_same : Fun K "_law_same" "_law_same" sSame a3 l3
  m__law_same : mg "_law_same" = some (.ref a3)
  b__law_same : Binds K l3 ["_law_found", "_law_due"] []
  F__law_names : Fun K "_law_names" "_law_names" s__law_names a4 l4
  m__law_names : mg "_law_names" = some (.ref a4)
  b__law_names : Binds K l4 ["_law_box_here", "_law_size"] []
  F__law_gates : Fun K "_law_gates" "_law_gates" s__law_gates a5 l5
  m__law_gates : mg "_law_gates" = some (.ref a5)
  b__law_gates : Binds K l5 ["_law_box_here", "_law_wide", "_law_size"] []
  F__law_laid : Fun K "_law_laid" "_law_laid" s__law_laid a6 l6
  m__law_laid : mg "_law_laid" = some (.ref a6)
  b__law_laid : Binds K l6 ["_law_net", "_law_row"] []
  F__law_depths : Fun K "_law_depths" "_law_depths" s__law_depths a7 l7
  m__law_depths : mg "_law_depths" = some (.ref a7)
  b__law_depths : Binds K l7 ["_law_rows", "_law_many"] []
  F__law_stands : Fun K "_law_stands" "_law_stands" s__law_stands a8 l8
  m__law_stands : mg "_law_stands" = some (.ref a8)
  b__law_stands : Binds K l8 ["_law_net", "_law_many", "_law_rows", "_law_lists"] []
  F__law_named : Fun K "_law_named" "_law_named" s__law_named a9 l9
  m__law_named : mg "_law_named" = some (.ref a9)
  b__law_named : Binds K l9 ["_law_box_here", "_law_net", "_law_many", "_law_rows", "_law_lists"] []
  T : FT K mg C
  M : Mk K C a10
  F_Net___init__ : Fun K "__init__" "Net.__init__" s_Net___init__ a10 l10
  b_Net___init__ : Binds K l10 ["self", "many"] []
  F_Net_both : Fun K "both" "Net.both" s_Net_both a11 l11
  b_Net_both : Binds K l11 ["self", "a", "b"] []
  M_Net_both : Meth K C "both" a11
  F_Net_either : Fun K "either" "Net.either" s_Net_either a12 l12
  b_Net_either : Binds K l12 ["self", "a", "b"] []
  M_Net_either : Meth K C "either" a12
  F_Net_unlike : Fun K "unlike" "Net.unlike" s_Net_unlike a13 l13
  b_Net_unlike : Binds K l13 ["self", "a", "b"] []
  M_Net_unlike : Meth K C "unlike" a13
  F_Net_other : Fun K "other" "Net.other" s_Net_other a14 l14
  b_Net_other : Binds K l14 ["self", "a"] []
  M_Net_other : Meth K C "other" a14
  F_Net_fixed : Fun K "fixed" "Net.fixed" s_Net_fixed a15 l15
  b_Net_fixed : Binds K l15 ["self", "bit"] []
  M_Net_fixed : Meth K C "fixed" a15
  F_Net_put : Fun K "put" "Net.put" s_Net_put a16 l16
  b_Net_put : Binds K l16 ["self", "kind", "wires"] []
  M_Net_put : Meth K C "put" a16
  F_Net_put_gate : Fun K "put_gate" "Net.put_gate" s_Net_put_gate a17 l17
  b_Net_put_gate : Binds K l17 ["self", "gate", "depth"] []
  M_Net_put_gate : Meth K C "put_gate" a17
  F_Net_need : Fun K "need" "Net.need" s_Net_need a18 l18
  b_Net_need : Binds K l18 ["self", "wires"] []
  M_Net_need : Meth K C "need" a18
  F_Net_give : Fun K "give" "Net.give" s_Net_give a19 l19
  b_Net_give : Binds K l19 ["self", "name", "wires"] []
  M_Net_give : Meth K C "give" a19
  F_Net_given : Fun K "given" "Net.given" s_Net_given a20 l20
  b_Net_given : Binds K l20 ["self", "name"] []
  M_Net_given : Meth K C "given" a20
  F_Net_names : Fun K "names" "Net.names" s_Net_names a21 l21
  b_Net_names : Binds K l21 ["self"] []
  M_Net_names : Meth K C "names" a21
  F_Net_inputs : Fun K "inputs" "Net.inputs" s_Net_inputs a22 l22
  b_Net_inputs : Binds K l22 ["self"] []
  M_Net_inputs : Meth K C "inputs" a22
  F_Net_gates : Fun K "gates" "Net.gates" s_Net_gates a23 l23
  b_Net_gates : Binds K l23 ["self"] []
  M_Net_gates : Meth K C "gates" a23
  F_Net_depth : Fun K "depth" "Net.depth" s_Net_depth a24 l24
  b_Net_depth : Binds K l24 ["self", "wire"] []
  M_Net_depth : Meth K C "depth" a24
  F_Net___len__ : Fun K "__len__" "Net.__len__" s_Net___len__ a25 l25
  b_Net___len__ : Binds K l25 ["self"] []
  M_Net___len__ : Meth K C "__len__" a25
  z_sorted : mg "sorted" = none
variable {C : Addr} {a1 a2 a3 a4 a5 a6 a7 a8 a9 a10 a11 a12 a13 a14 a15 a16 a17 a18 a19 a20 a21 a22 a23 a24 a25 : Addr} {l1 l2 l3 l4 l5 l6 l7 l8 l9 l10 l11 l12 l13 l14 l15 l16 l17 l18 l19 l20 l21 l22 l23 l24 l25 : FuncData}

end
theorem gset_if2 {i : Nat} {v : V} {σ : L2.St} {H : Hp} {c : TT} {t u r : TS} {D : Ends} (h : tIfS c t u { D with nx := r D } (σ.set i (some v)) H) : gName i v σ H ({ D with nx := tSeq (tIfS c t u) r D } : Ends).nx := h
theorem gset_if {σ : L2.St} {H : Hp} {c : TT} {t u r : TS} {D : Ends} (h : tIfS c t u { D with nx := r D } σ H) : tSeq (tIfS c t u) r D σ H := h
theorem ifS_cut {c : TT} {t u : TS} {D : Ends} {σ : L2.St} {H : Hp} (R : L2.St → Hp → Prop) (h : ∀ D' : Ends, (∀ σ' H', R σ' H' → D'.nx σ' H') → tIfS c t u D' σ H) (q : ∀ σ' H', R σ' H' → D.nx σ' H') : tIfS c t u D σ H := h D q
theorem ifS_ev {c : TT} {t u : TS} {D : Ends} {σ : L2.St} {H : Hp} (R : Bool → Hp → Prop) (h : ∀ Q : Bool → Hp → Prop, (∀ z H', R z H' → Q z H') → c σ H Q) (q1 : ∀ H', R true H' → t D σ H') (q2 : ∀ H', R false H' → u D σ H') : tIfS c t u D σ H := h _ fun z H' r => by
  cases z with
  | true => exact q1 H' r
  | false => exact q2 H' r
theorem if_ev {t : TT} {ta tb : TE} {σ : L2.St} {H : Hp} {Q : VK} (R : V → Hp → Prop) (h : ∀ Q : VK, (∀ z H', R z H' → Q z H') → tIf t ta tb σ H Q) (q : ∀ z H', R z H' → Q z H') : tIf t ta tb σ H Q := h Q q
theorem and_ev {ta tb : TE} {σ : L2.St} {H : Hp} {Q : VK} (R : V → Hp → Prop) (h : ∀ Q : VK, (∀ z H', R z H' → Q z H') → tAndV ta tb σ H Q) (q : ∀ z H', R z H' → Q z H') : tAndV ta tb σ H Q := h Q q
theorem or_ev {ta tb : TE} {σ : L2.St} {H : Hp} {Q : VK} (R : V → Hp → Prop) (h : ∀ Q : VK, (∀ z H', R z H' → Q z H') → tOrV ta tb σ H Q) (q : ∀ z H', R z H' → Q z H') : tOrV ta tb σ H Q := h Q q
theorem ifset_ev {c : TT} {e : TE} {k : Nat} {D : Ends} {σ : L2.St} {H : Hp} {old : V} (hσ : σ.set k (some old) = σ) (R : V → Hp → Prop) (h : ∀ Q : VK, (∀ z H', R z H' → Q z H') → c σ H (fun b H1 => if b = true then e σ H1 Q else Q old H1)) (q : ∀ z H', R z H' → D.nx (σ.set k (some z)) H') : tIfS c (tAsg e (gName k)) tNext D σ H := by
  have t := h (fun z H' => D.nx (σ.set k (some z)) H') q
  rw [hσ] at t
  exact t
theorem two_cut {t : TE} {g : TG} {c : TT} {a b r : TS} {D : Ends} {σ : L2.St} {H : Hp} (R : L2.St → Hp → Prop) (h : ∀ D' : Ends, (∀ σ' H', R σ' H' → D'.nx σ' H') → tSeq (tAsg t g) (tIfS c a b) D' σ H) (q : ∀ σ' H', R σ' H' → r D σ' H') : tSeq (tAsg t g) (tSeq (tIfS c a b) r) D σ H := h { D with nx := r D } q
theorem org80 {ta tb : TE} {σ : L2.St} {H : Hp} {Q : VK} {c d : Bool} (ha : ∀ Q : VK, Q (.bl c) H → ta σ H Q) (hb : ∀ Q : VK, Q (.bl d) H → tb σ H Q) (h : Q (.bl (c || d)) H) : tOrV ta tb σ H Q := by
  refine ha _ ⟨c, rfl, ?_⟩
  cases c
  · exact hb _ h
  · exact h
theorem gnext_if18 {σ : L2.St} {H : Hp} {c : TT} {t u : TS} {r : TS} {D : Ends} (h : tIfS c t u { D with nx := r D } σ H) : tNext ({ D with nx := tSeq (tIfS c t u) r D } : Ends) σ H := h
theorem ret_if18 {c : TT} {ta tb : TE} {D : Ends} {σ : L2.St} {H : Hp} (R : Bool → Hp → Prop) (h : ∀ Q : Bool → Hp → Prop, (∀ z H', R z H' → Q z H') → c σ H Q) (q1 : ∀ H', R true H' → ta σ H' D.rt) (q2 : ∀ H', R false H' → tb σ H' D.rt) : tRet (tIf c ta tb) D σ H := h _ fun z H' r => by
  cases z with
  | true => exact q1 H' r
  | false => exact q2 H' r
theorem gset_if3 {i : Nat} {v : V} {σ : L2.St} {H : Hp} {c : TT} {t u r : TS} {D : Ends} (h : tIfS c t u { D with nx := r D } (σ.set i (some v)) H) : gName i v σ H (tSeq (tIfS c t u) r D) := h
theorem asg_ev {t : TE} {i : Nat} {r : TS} {D : Ends} {σ : L2.St} {H : Hp} (R : V → Hp → Prop) (h : ∀ Q : VK, (∀ z H', R z H' → Q z H') → t σ H Q) (q : ∀ z H', R z H' → r D (σ.set i (some z)) H') : tSeq (tAsg t (gName i)) r D σ H := h _ q
/-! ### len(x) of an own __len__ -/
theorem call_lenOwn {X : Cx} {C f : Addr} {fd : FuncData} {ps : List Str} {sp : Sp} {CI : CXT} {n : Nat} {E : XK} (hm : Meth X.K C "__len__" f) (FN : FnOk X.prog X.w X.K X.mg X.base CI n f fd ps sp) (bN : Binds X.K fd ps []) (hr : Room (n + 1) X.A) (hx : Passes CI X E) :
    CallR X (.builtin "len") (fun xs H Q => ∃ (x dx : Addr) (fs : List (Str × V)), xs = [.ref x] ∧ H x = some (.ins C dx fs) ∧ sp [.ref x] H (fun v H' => ∃ k : Int, v = .int k ∧ 0 ≤ k ∧ k < 2 ^ 63 ∧ Q (.int k) H') E) := by
  intro pins s σ H xs us Q I r h
  obtain ⟨a, dx, fs, rfl, ha, hsp⟩ := h
  obtain ⟨u, rfl, ru⟩ := vals1 r
  obtain rfl : u = Value.ref a := ru
  obtain ⟨mA, J, _⟩ := ins_get I.hok ha
  obtain ⟨od, J, _⟩ := J.look
  obtain ⟨m, hF⟩ := I.fr
  have sb : Sub X n X.A.in1 := Sub.in1 ⟨hr, rfl⟩
  refine PySem.W.len_K hF I.ok.mod.kin J hm.at_ hm.fn ?_
  have e0 : Env0 X.prog X.w X.K X.mg X.base X.A.in1 X.stack s H := by
    have e := I.env0
    exact ⟨by rw [sb.fr]; exact e.frames, e.mod, e.bs, e.bsz, e.funs, e.frf, e.hok, e.bare⟩
  have hl := FN.len _ _ _ _ hsp
  have r2 : Vals [V.ref a] [Value.ref a] := .cons rfl .nil
  refine wpAny_call (codeAny_mono (FN.run X.A.in1 X.stack s H ⟨[.ref a], []⟩ [.ref a] [.ref a] _ E sb.room e0 (by
    have := bN s [.ref a] I.kIn (by simpa using hl)
    simpa using this) r2 hsp) fun r s' hq => ?_)
  cases r with
  | error e => exact hx pins σ H s e s' I hq
  | ok fl =>
    cases fl with
    | ret u =>
      obtain ⟨v, H', I', rv, k, rfl, k0, k1, q⟩ := I.after hq
      obtain ⟨t, rfl⟩ := rv
      exact ⟨⟨k0, k1⟩, .int k, H', I'.tok _, ⟨_, rfl⟩, q⟩
    | next => exact False.elim hq
    | brk => exact False.elim hq
    | cont => exact False.elim hq
/-! ### a text so many times -/
def strRep (x : Str) (n : Nat) : Str := ⟨(List.replicate n x.cps).foldl (· ++ ·) #[]⟩
theorem strRep_len (x : Str) (n : Nat) : (strRep x n).length = n * x.length := by
  have key : ∀ (n : Nat) (a : Array Nat), ((List.replicate n x.cps).foldl (· ++ ·) a).size = a.size + n * x.cps.size := by
    intro n
    induction n with
    | zero => intro a; simp
    | succ k ih =>
      intro a
      rw [List.replicate_succ, List.foldl_cons, ih, Array.size_append, Nat.add_mul, Nat.one_mul]
      omega
  have := key n #[]
  show ((List.replicate n x.cps).foldl (· ++ ·) #[]).size = n * x.cps.size
  rw [this]
  simp
theorem op_mul_str {X : Cx} : OpR X (binaryOp .Mult) (fun x y H Q => ∃ (i : Str) (n : Nat), x = .str i ∧ y = .int (n : Int) ∧ i.length ≤ 1000 ∧ n ≤ 1000 ∧ Q (.str (strRep i n)) H) := by
  intro pins s σ H x y v u Q I rx ry h
  obtain ⟨i, n, rfl, rfl, h1, h2, q⟩ := h
  obtain ⟨t, rfl⟩ := rx
  obtain ⟨t', rfl⟩ := ry
  have hm : i.length * n ≤ 1000 * 1000 := Nat.mul_le_mul h1 h2
  refine P.mul_str (by rw [decide_eq_false (by omega), decide_eq_false (by omega)]; rfl) (fun c _ => ?_) (fun c _ => ?_) ?_
  · have : (1 : Int) ≤ n := by omega
    have hd : ((2 ^ 63 - 1 : Int)) / 1000 ≤ (2 ^ 63 - 1) / (n : Int) := by
      refine Int.le_ediv_of_mul_le (by omega) ?_
      have : ((2 ^ 63 - 1 : Int) / 1000) * n ≤ (2 ^ 63 - 1) / 1000 * 1000 := Int.mul_le_mul_of_nonneg_left (by omega) (by decide)
      have e : ((2 ^ 63 - 1 : Int) / 1000) * 1000 ≤ 2 ^ 63 - 1 := by decide
      omega
    have e2 : (1000 : Int) ≤ (2 ^ 63 - 1) / 1000 := by decide
    omega
  · rw [Int.toNat_natCast]
    unfold Builtin.Str.tooLong
    have : (1000 * 1000 : Nat) ≤ sizeLine := by decide
    simp only [decide_eq_false_iff_not]
    omega
  · have fin : ∀ (tk : Nat), EP X pins σ Q (.str (strRep i n) tk) s := fun tk => ⟨.str (strRep i n), H, I, ⟨_, rfl⟩, q⟩
    by_cases c : (n : Int) < 1
    · rw [if_pos c]
      have n0 : n = 0 := by omega
      subst n0
      exact ⟨by decide, ⟨.str (strRep i 0), H, I.tok _, ⟨_, rfl⟩, q⟩⟩
    · rw [if_neg c]
      by_cases c2 : ((n : Int) == 1 || i.length == 0) = true
      · rw [if_pos c2]
        have e : strRep i n = i := by
          rcases Bool.or_eq_true_iff.mp c2 with z | z
          · have n1 : n = 1 := by
              have := beq_iff_eq.mp z
              omega
            subst n1
            show (⟨#[] ++ i.cps⟩ : Str) = i
            rw [Array.empty_append]
          · have l0 : (strRep i n).length = 0 := by rw [strRep_len, beq_iff_eq.mp z, Nat.mul_zero]
            have a : (strRep i n).cps = #[] := Array.eq_empty_of_size_eq_zero l0
            have b : i.cps = #[] := Array.eq_empty_of_size_eq_zero (beq_iff_eq.mp z)
            show strRep i n = i
            cases h5 : strRep i n
            cases i
            rw [h5] at a
            dsimp only at a b
            rw [a, b]
        rw [e] at q
        exact ⟨.str i, H, I, ⟨_, rfl⟩, q⟩
      · rw [if_neg c2]
        refine ⟨?_, ⟨.str (strRep i n), H, I.tok _, ⟨_, rfl⟩, q⟩⟩
        have := strRep_len i n
        have : (1000 * 1000 : Nat) ≤ sizeLine := by decide
        show (strRep i n).length ≤ sizeLine
        rw [strRep_len, Nat.mul_comm]
        omega
section
variable {P : Program} {w : World} {K : PySem.W.Frag} {mg : Str → Option Value} {base : Heap}
variable {C : Addr} {a1 a2 a3 a4 a5 a6 a7 a8 a9 a10 a11 a12 a13 a14 a15 a16 a17 a18 a19 a20 a21 a22 a23 a24 a25 : Addr} {l1 l2 l3 l4 l5 l6 l7 l8 l9 l10 l11 l12 l13 l14 l15 l16 l17 l18 l19 l20 l21 l22 l23 l24 l25 : FuncData}
/-! ### a net's gates -/
theorem flat_rep (m : Nat) (v : V) : (List.replicate m [v]).flatten = List.replicate m v := by
  induction m with
  | zero => rfl
  | succ k ih =>
    rw [List.replicate_succ, List.flatten_cons, ih, List.replicate_succ]
    rfl
def spNetI (C : Addr) : Sp := fun vs H Q _ => ∃ (x dx : Addr) (m : Nat), vs = [.ref x, .int (m : Int)] ∧ H x = some (.ins C dx []) ∧ m ≤ 100000 ∧
  ∀ (p : NetP) (H' : Hp), p.x = x → (∀ y o, H y = some o → y ≠ x → H' y = some o) → (H p.lm = none ∧ H p.ld = none ∧ H p.dn = none) → (∀ Z : List Addr, (∀ z ∈ Z, z ≠ x ∧ H z ≠ none) → NetAt C Z H' p m [] []) → Q .non H'
theorem ok_Net___init__ (B : Bl mg) (L : LL K mg C a1 a2 a3 a4 a5 a6 a7 a8 a9 a10 a11 a12 a13 a14 a15 a16 a17 a18 a19 a20 a21 a22 a23 a24 a25 l1 l2 l3 l4 l5 l6 l7 l8 l9 l10 l11 l12 l13 l14 l15 l16 l17 l18 l19 l20 l21 l22 l23 l24 l25) : FnOk P w K mg base CX0 1 a10 l10 ["self", "many"] (spNetI C) := by
  refine L.F_Net___init__.ok sc_Net___init__ (fun vs H Q E h => ?_) (fun cdv A outer s H vs Q E hr h => ?_)
  · obtain ⟨x, dx, m, rfl, _⟩ := h
    rfl
  obtain ⟨x, dx, m, rfl, hx, hm, q⟩ := h
  refine ⟨_, (pss_cons (ps_fld (pv 0) (pv 1) rfl)
    (pss_cons (ps_fld (pv 0) (pe_lst pa_nil) rfl)
    (pss_cons (ps_fld (pv 0) (pe_op op_rep (pe_lst (pa_cons pe_int pa_nil)) (pv 1)) rfl)
    (pss_one (ps_fld (pv 0) pe_dnewK rfl))))), ?_⟩
  refine ⟨_, rfl, _, rfl, x, C, dx, _, rfl, hx, L.T.cl, L.T.n_input_count, (by show 0 < 1000; decide), ?_⟩
  have a1 : (upd H x (.ins C dx (putF "input_count" (.int (m : Int)) []))) x = some (.ins C dx [("input_count", .int (m : Int))]) := upd_same
  have f1 : ∀ y o, H y = some o → y ≠ x → (upd H x (.ins C dx (putF "input_count" (.int (m : Int)) []))) y = some o := fun y o e n => by rw [upd_ne n]; exact e
  generalize upd H x (.ins C dx (putF "input_count" (.int (m : Int)) [])) = H1 at *
  refine ⟨Nat.zero_le _, fun lm nlm => ?_⟩
  have n1 : x ≠ lm := ne_of_none a1 nlm
  refine ⟨_, rfl, x, C, dx, _, rfl, by rw [upd_ne n1]; exact a1, L.T.cl, L.T.n_made, (by show 1 < 1000; decide), ?_⟩
  have a2 : (upd (upd H1 lm (.lst [])) x (.ins C dx (putF "made" (.ref lm) [("input_count", .int (m : Int))]))) x = some (.ins C dx [("input_count", .int (m : Int)), ("made", .ref lm)]) := upd_same
  have b2 : (upd (upd H1 lm (.lst [])) x (.ins C dx (putF "made" (.ref lm) [("input_count", .int (m : Int))]))) lm = some (.lst []) := by rw [upd_ne n1.symm, upd_same]
  have f2 : ∀ y o, H1 y = some o → y ≠ x → (upd (upd H1 lm (.lst [])) x (.ins C dx (putF "made" (.ref lm) [("input_count", .int (m : Int))]))) y = some o := fun y o e n => by rw [upd_ne n, upd_ne (ne_of_none e nlm)]; exact e
  generalize upd (upd H1 lm (.lst [])) x (.ins C dx (putF "made" (.ref lm) [("input_count", .int (m : Int))])) = H2 at *
  refine ⟨(by show 1 ≤ sizeLine; decide), fun z nz => ?_⟩
  refine ⟨_, rfl, z, (m : Int), _, rfl, rfl, upd_same, by omega, by omega, (by show 1 * ((m : Int)).toNat ≤ _; rw [Int.toNat_natCast, Nat.one_mul]; exact Nat.le_trans hm (by decide)), fun ld nld => ?_⟩
  have e0 : (List.replicate ((m : Int)).toNat [V.int 0]).flatten = (dps m []).map V.int := by
    rw [Int.toNat_natCast]
    show _ = (List.replicate m 0).map V.int
    rw [List.map_replicate]
    exact flat_rep m _
  rw [e0]
  have z1 := ne_of_none a2 nz
  have z2 := ne_of_none b2 nz
  have sz := same_upd (o := .lst [V.int 0]) nz
  have sd := same_upd (o := .lst ((dps m []).map V.int)) nld
  have l1 := ne_of_none (sz _ _ a2) nld
  have l2 := ne_of_none (sz _ _ b2) nld
  refine ⟨_, rfl, x, C, dx, _, rfl, sd _ _ (sz _ _ a2), L.T.cl, L.T.n_depths, (by show 2 < 1000; decide), ?_⟩
  have sA := sz.trans sd
  have b3 := sd _ _ (sz _ _ b2)
  have d3 : (upd (upd H2 z (.lst [V.int 0])) ld (.lst ((dps m []).map V.int))) ld = some (.lst ((dps m []).map V.int)) := upd_same
  generalize upd (upd H2 z (.lst [V.int 0])) ld (.lst ((dps m []).map V.int)) = H3 at *
  have a4 : (upd H3 x (.ins C dx (putF "depths" (.ref ld) [("input_count", .int (m : Int)), ("made", .ref lm)]))) x = some (.ins C dx [("input_count", .int (m : Int)), ("made", .ref lm), ("depths", .ref ld)]) := upd_same
  have f4 : ∀ y o, H3 y = some o → y ≠ x → (upd H3 x (.ins C dx (putF "depths" (.ref ld) [("input_count", .int (m : Int)), ("made", .ref lm)]))) y = some o := fun y o e n => by rw [upd_ne n]; exact e
  have b4 := f4 _ _ b3 n1.symm
  have d4 := f4 _ _ d3 l1.symm
  generalize upd H3 x (.ins C dx (putF "depths" (.ref ld) [("input_count", .int (m : Int)), ("made", .ref lm)])) = H4 at *
  refine fun dn ndn => ?_
  have a5 := ne_of_none a4 ndn
  have b5 := ne_of_none b4 ndn
  have d5 := ne_of_none d4 ndn
  have s5 := same_upd (o := .dK []) ndn
  refine ⟨_, rfl, x, C, dx, _, rfl, s5 _ _ a4, L.T.cl, L.T.n_by_name, (by show 3 < 1000; decide), ?_⟩
  have nn : ∀ (y : Addr), (∀ o, H y = some o → y ≠ x → False) → y ≠ x → H y = none := fun y h n => by
    cases e : H y with
    | none => rfl
    | some o => exact (h o e n).elim
  refine q ⟨x, lm, ld, dn⟩ _ rfl (fun y o e n => ?_) ⟨nn lm (fun o e n => by have := f1 _ _ e n; rw [nlm] at this; cases this) n1.symm, nn ld (fun o e n => by have := sz _ _ (f2 _ _ (f1 _ _ e n) n); rw [nld] at this; cases this) l1.symm, nn dn (fun o e n => by have := f4 _ _ (sA _ _ (f2 _ _ (f1 _ _ e n) n)) n; rw [ndn] at this; cases this) a5.symm⟩ (fun Z hZ => ?_)
  · rw [upd_ne n]
    exact s5 _ _ (f4 _ _ (sA _ _ (f2 _ _ (f1 _ _ e n) n)) n)
  have zz : ∀ a ∈ Z, a ≠ x ∧ a ≠ lm ∧ a ≠ ld ∧ a ≠ dn ∧ H4 a ≠ none := fun a ha => by
    obtain ⟨nx, h0⟩ := hZ a ha
    cases e : H a with
    | none => exact absurd e h0
    | some o =>
      have e1 := f1 _ _ e nx
      have e2 := f2 _ _ e1 nx
      have e4 := f4 _ _ (sA _ _ e2) nx
      exact ⟨nx, ne_of_none e1 nlm, ne_of_none (sz _ _ e2) nld, ne_of_none e4 ndn, some_ne e4⟩
  refine ⟨fun a ha => ?_, l2, ⟨fun h => (zz _ h).1 rfl, fun h => (zz _ h).2.1 rfl, fun h => (zz _ h).2.2.1 rfl, fun h => (zz _ h).2.2.2.1 rfl⟩, dx, [], [], upd_same, ?_, ?_, ?_, ⟨rfl, fun i q g h => by simp at h⟩, rfl, List.nodup_nil, fun i k v n ws h => by simp at h⟩
  · rw [upd_ne (zz a ha).1, upd_ne (zz a ha).2.2.2.1]
    exact (zz a ha).2.2.2.2
  · show (upd (upd H4 dn (.dK [])) x _) lm = _
    rw [upd_ne n1.symm]
    exact s5 _ _ b4
  · show (upd (upd H4 dn (.dK [])) x _) ld = _
    rw [upd_ne l1.symm]
    exact s5 _ _ d4
  · show (upd (upd H4 dn (.dK [])) x _) dn = _
    rw [upd_ne a5.symm, upd_same]
/-! ### gates laid -/
def spNeed (K : PySem.W.Frag) (C : Addr) : Sp := fun vs H Q _ => ∃ (Z : List Addr) (p : NetP) (m : Nat) (gs : List Gt) (nm : List (Str × List Nat)) (t : Addr) (ws : List Nat), vs = [.ref p.x, .ref t] ∧ NetAt C Z H p m gs nm ∧ (SqL K H t (nts ws) ∨ SqT K H t (nts ws)) ∧ (∀ a ∈ ws, a < m + gs.length) ∧
  ∀ H', Same H H' → Q .non H'
theorem ok_Net_need (B : Bl mg) (L : LL K mg C a1 a2 a3 a4 a5 a6 a7 a8 a9 a10 a11 a12 a13 a14 a15 a16 a17 a18 a19 a20 a21 a22 a23 a24 a25 l1 l2 l3 l4 l5 l6 l7 l8 l9 l10 l11 l12 l13 l14 l15 l16 l17 l18 l19 l20 l21 l22 l23 l24 l25) : FnOk P w K mg base CX0 1 a18 l18 ["self", "wires"] (spNeed K C) := by
  refine L.F_Net_need.ok sc_Net_need (fun vs H Q E h => ?_) (fun cdv A outer s H vs Q E hr h => ?_)
  · obtain ⟨Z, p, m, gs, nm, t, ws, rfl, _⟩ := h
    rfl
  obtain ⟨Z, p, m, gs, nm, t, ws, rfl, hN, hT, hw, q⟩ := h
  refine ⟨_, (pss_one (ps_for PassesOwn.never rfl (pi_or (pi_list (pv 1)) (pi_tup (pv 1))) (pg_name (i := 2) sc_Net_need.nd rfl (.inl rfl)) (pss_one (ps_if (pt_not (pt_chain op_le op_lt pe_int (pv 2) (pe_callB call_len_seq (by rfl) B.len PySem.boot_len (pa_cons (pe_fld (pv 0) rfl) pa_nil)))) (pss_one ps_never) pss_nil)))), ?_⟩
  have turn : ∀ (a : Nat), a ∈ ws → ∀ (H9 : Hp) (y : Option V) (T : TS) (D : Ends), Same H H9 → D.nx [some (.ref p.x), some (.ref t), some (.int (a : Int))] H9 → True := fun _ _ _ _ _ _ _ _ => trivial
  rcases hT with hT | hT
  · refine .inl ⟨_, rfl, t, rfl, ⟨_, hT⟩, ?_⟩
    refine for_it (walk_list (K := K) (a := t) (xs := nts ws)) (fun j σ H9 => ∃ y : Option V, σ = [some (.ref p.x), some (.ref t), y] ∧ Same H H9) ⟨_, rfl, Same.refl _⟩ (fun j σ H9 _ ⟨_, _, s9⟩ => s9.seq hT) ?_ ?_
    · rintro j v σ H9 H10 hj ⟨y, rfl, s9⟩ ⟨rfl, hz⟩
      obtain ⟨a, ha, rfl⟩ := nts_at hz
      have la := hw a (List.mem_of_getElem? ha)
      obtain ⟨_, _, _, dx, ps, kvs, e1, e2, e3, _⟩ := hN.same s9
      dsimp only [gName]
      try simp only [L2.start, List.map_cons, List.map_nil, List.length_cons, List.length_nil, List.replicate_succ, List.replicate_zero, List.cons_append, List.nil_append, List.set_cons_succ, List.set_cons_zero, Nat.reduceAdd, Nat.reduceSub, Nat.zero_add]
      refine ⟨_, rfl, _, _, rfl, rfl, _, rfl, ?_⟩
      rw [if_pos (decide_eq_true (by omega))]
      refine ⟨_, rfl, p.x, C, dx, _, _, rfl, e1, L.T.cl, L.T.n_depths, rfl, ?_⟩
      refine ⟨p.ld, _, rfl, .inl (SqL.of e3), _, _, rfl, rfl, _, rfl, ?_⟩
      have lt : decide ((a : Int) < ((((dps m gs).map V.int).length : Nat) : Int)) = true := decide_eq_true (by rw [List.length_map, dps_len]; omega)
      rw [lt]
      refine iteF ?_
      exact ⟨_, rfl, s9⟩
    · rintro σ H9 ⟨y, rfl, s9⟩
      exact q _ s9
  · refine .inr ⟨_, rfl, t, rfl, ⟨_, hT⟩, ?_⟩
    refine for_it (walk_tup (K := K) (a := t) (xs := nts ws)) (fun j σ H9 => ∃ y : Option V, σ = [some (.ref p.x), some (.ref t), y] ∧ Same H H9) ⟨_, rfl, Same.refl _⟩ (fun j σ H9 _ ⟨_, _, s9⟩ => Same.seqT s9 hT) ?_ ?_
    · rintro j v σ H9 H10 hj ⟨y, rfl, s9⟩ ⟨rfl, hz⟩
      obtain ⟨a, ha, rfl⟩ := nts_at hz
      have la := hw a (List.mem_of_getElem? ha)
      obtain ⟨_, _, _, dx, ps, kvs, e1, e2, e3, _⟩ := hN.same s9
      dsimp only [gName]
      try simp only [L2.start, List.map_cons, List.map_nil, List.length_cons, List.length_nil, List.replicate_succ, List.replicate_zero, List.cons_append, List.nil_append, List.set_cons_succ, List.set_cons_zero, Nat.reduceAdd, Nat.reduceSub, Nat.zero_add]
      refine ⟨_, rfl, _, _, rfl, rfl, _, rfl, ?_⟩
      rw [if_pos (decide_eq_true (by omega))]
      refine ⟨_, rfl, p.x, C, dx, _, _, rfl, e1, L.T.cl, L.T.n_depths, rfl, ?_⟩
      refine ⟨p.ld, _, rfl, .inl (SqL.of e3), _, _, rfl, rfl, _, rfl, ?_⟩
      have lt : decide ((a : Int) < ((((dps m gs).map V.int).length : Nat) : Int)) = true := decide_eq_true (by rw [List.length_map, dps_len]; omega)
      rw [lt]
      refine iteF ?_
      exact ⟨_, rfl, s9⟩
    · rintro σ H9 ⟨y, rfl, s9⟩
      exact q _ s9
theorem refs_inj : ∀ {as bs : List Addr}, as.map V.ref = bs.map V.ref → as = bs
  | [], [], _ => rfl
  | [], b :: bs, h => by simp at h
  | a :: as, [], h => by simp at h
  | a :: as, b :: bs, h => by
    rw [List.map_cons, List.map_cons] at h
    injection h with h1 h2
    rw [V.ref.inj h1, refs_inj h2]
theorem NetAt.laid {C : Addr} {Z : List Addr} {H : Hp} {p : NetP} {m : Nat} {gs : List Gt} {nm : List (Str × List Nat)} {q : Addr} {g : Gt} {ps : List Addr}
    (h : NetAt C Z H p m gs nm) (eq : H q = some (.tup g.row)) (nq : q ∉ Z) (em : H p.lm = some (.lst (ps.map V.ref))) :
    NetAt C Z (upd (upd H p.lm (.lst (ps.map V.ref ++ [.ref q]))) p.ld (.lst ((dps m gs).map V.int ++ [.int (dep (dps m gs) g)]))) p m (gs ++ [g]) nm := by
  obtain ⟨a, b, ⟨c1, c2, c3, c4⟩, dx, ps', kvs, e1, e2, e3, e4, ⟨g1, g2⟩, n1, n2, n3⟩ := h
  have hps : ps' = ps := by
    rw [e2] at em
    have := HO.lst.inj (Option.some.inj em)
    exact refs_inj this
  subst hps
  have f : ∀ {y : Addr} {o : HO}, H y = some o → y ≠ p.lm → y ≠ p.ld → (upd (upd H p.lm (.lst (ps'.map V.ref ++ [.ref q]))) p.ld (.lst ((dps m gs).map V.int ++ [.int (dep (dps m gs) g)]))) y = some o := fun e x1 x2 => by
    rw [upd_ne x2, upd_ne x1]
    exact e
  have tn : ∀ {y : Addr} {xs : List V}, H y = some (.tup xs) → y ≠ p.lm ∧ y ≠ p.ld := fun e => ⟨(fun z => by rw [z, e2] at e; cases e), (fun z => by rw [z, e3] at e; cases e)⟩
  refine ⟨fun z hz => ?_, b, ⟨c1, c2, c3, c4⟩, dx, ps' ++ [q], kvs, f e1 (fun z => by rw [z, e2] at e1; cases e1) (fun z => by rw [z, e3] at e1; cases e1), ?_, ?_, f e4 (fun z => by rw [z, e2] at e4; cases e4) (fun z => by rw [z, e3] at e4; cases e4), ⟨?_, fun i r g' hi hg => ?_⟩, n1, n2, fun i k v n ws hi hn => ?_⟩
  · have z1 : z ≠ p.lm := fun y => c2 (y ▸ hz)
    have z2 : z ≠ p.ld := fun y => c3 (y ▸ hz)
    rw [upd_ne z2, upd_ne z1]
    exact a z hz
  · rw [upd_ne b, upd_same, List.map_append]
    rfl
  · rw [upd_same, dps_snoc, List.map_append]
    rfl
  · rw [List.length_append, List.length_append, g1]
    rfl
  · by_cases c : i < ps'.length
    · rw [List.getElem?_append_left c] at hi
      rw [List.getElem?_append_left (by omega)] at hg
      have := g2 i r g' hi hg
      exact ⟨this.1, f this.2 (tn this.2).1 (tn this.2).2⟩
    · have i0 : i = ps'.length := by
        have := (List.getElem?_eq_some_iff.mp hi).1
        rw [List.length_append, List.length_cons, List.length_nil] at this
        omega
      rw [List.getElem?_append_right (by omega), i0, Nat.sub_self] at hi
      rw [List.getElem?_append_right (by omega), i0, g1, Nat.sub_self] at hg
      cases hi
      cases hg
      exact ⟨nq, f eq (tn eq).1 (tn eq).2⟩
  · obtain ⟨ek, l, ev, l1, l2, l3, l4⟩ := n3 i k v n ws hi hn
    exact ⟨ek, l, ev, l1, l2, l3, f l4 l2 l3⟩
def spPutG (C : Addr) : Sp := fun vs H Q _ => ∃ (Z : List Addr) (p : NetP) (m : Nat) (gs : List Gt) (nm : List (Str × List Nat)) (q : Addr) (g : Gt), vs = [.ref p.x, .ref q, .int (dep (dps m gs) g)] ∧ NetAt C Z H p m gs nm ∧ H q = some (.tup g.row) ∧ q ∉ Z ∧ m + gs.length ≤ 500000 ∧
  ∀ H', KeepS [p.lm, p.ld] H H' → NetAt C Z H' p m (gs ++ [g]) nm → Q (.int ((m + gs.length : Nat) : Int)) H'
theorem ok_Net_put_gate (B : Bl mg) (L : LL K mg C a1 a2 a3 a4 a5 a6 a7 a8 a9 a10 a11 a12 a13 a14 a15 a16 a17 a18 a19 a20 a21 a22 a23 a24 a25 l1 l2 l3 l4 l5 l6 l7 l8 l9 l10 l11 l12 l13 l14 l15 l16 l17 l18 l19 l20 l21 l22 l23 l24 l25) : FnOk P w K mg base CX0 1 a17 l17 ["self", "gate", "depth"] (spPutG C) := by
  refine L.F_Net_put_gate.ok sc_Net_put_gate (fun vs H Q E h => ?_) (fun cdv A outer s H vs Q E hr h => ?_)
  · obtain ⟨Z, p, m, gs, nm, q, g, rfl, _⟩ := h
    rfl
  obtain ⟨Z, p, m, gs, nm, a, g, rfl, hN, ea, na, hl, q⟩ := h
  refine ⟨_, (pss_cons (ps_expr (pe_bm PySem.F.plainAttrs_list PySem.F.slot_list_append PySem.F.type_list_append mt_append (pe_fld (pv 0) rfl) (pa_cons (pv 1) pa_nil)))
    (pss_cons (ps_expr (pe_bm PySem.F.plainAttrs_list PySem.F.slot_list_append PySem.F.type_list_append mt_append (pe_fld (pv 0) rfl) (pa_cons (pv 2) pa_nil)))
    (pss_one (ps_ret (pe_op op_sub (pe_callB call_len_seq (by rfl) B.len PySem.boot_len (pa_cons (pe_fld (pv 0) rfl) pa_nil)) pe_int))))), ?_⟩
  obtain ⟨hz, b, _, dx, ps, kvs, e1, e2, e3, e4, g0⟩ := id hN
  have lps : ps.length = gs.length := g0.1.1
  have nx : p.x ≠ p.lm := fun z => by rw [z, e2] at e1; cases e1
  have nx' : p.x ≠ p.ld := fun z => by rw [z, e3] at e1; cases e1
  refine ⟨_, rfl, p.x, C, dx, _, _, rfl, e1, L.T.cl, L.T.n_made, rfl, .inl ⟨rfl, _, SqL.of e2⟩, _, rfl, p.lm, _, _, rfl, rfl, e2, by rw [List.length_map]; exact Nat.lt_of_le_of_lt (by omega) (show 500000 < sizeLine by decide), ?_⟩
  have f1 : (upd H p.lm (.lst (ps.map V.ref ++ [.ref a]))) p.x = _ := (upd_ne nx).trans e1
  have f3 : (upd H p.lm (.lst (ps.map V.ref ++ [.ref a]))) p.ld = _ := (upd_ne b.symm).trans e3
  refine ⟨_, rfl, p.x, C, dx, _, _, rfl, f1, L.T.cl, L.T.n_depths, rfl, .inl ⟨rfl, _, SqL.of f3⟩, _, rfl, p.ld, _, _, rfl, rfl, f3, by rw [List.length_map, dps_len]; exact Nat.lt_of_le_of_lt (by omega) (show 500000 < sizeLine by decide), ?_⟩
  have f1' : (upd (upd H p.lm (.lst (ps.map V.ref ++ [.ref a]))) p.ld (.lst ((dps m gs).map V.int ++ [.int (dep (dps m gs) g)]))) p.x = _ := (upd_ne nx').trans f1
  refine ⟨_, rfl, p.x, C, dx, _, _, rfl, f1', L.T.cl, L.T.n_depths, rfl, ?_⟩
  refine ⟨p.ld, _, rfl, .inl (SqL.of upd_same), _, _, rfl, rfl, ?_⟩
  have w := q _ ⟨fun y o e n => ?_, fun y e => ?_⟩ (hN.laid ea na e2)
  · have ev : (((((dps m gs).map V.int ++ [V.int (dep (dps m gs) g)]).length : Nat) : Int) - 1) = ((m + gs.length : Nat) : Int) := by
      rw [List.length_append, List.length_map, dps_len, List.length_cons, List.length_nil]
      omega
    rw [← ev] at w
    exact w
  · simp only [List.mem_cons, List.not_mem_nil, or_false, not_or] at n
    rw [upd_ne n.2, upd_ne n.1]
    exact e
  · exact ((KeepS.upd (S := [p.lm]) (by simp)).2 y e) |> fun h => (KeepS.upd (S := [p.ld]) (by simp)).2 y h
def spFixed (C : Addr) : Sp := fun vs H Q _ => ∃ (Z : List Addr) (p : NetP) (m : Nat) (gs : List Gt) (nm : List (Str × List Nat)) (b : Nat), vs = [.ref p.x, .int (b : Int)] ∧ NetAt C Z H p m gs nm ∧ m + gs.length ≤ 500000 ∧
  ∀ H', KeepS [p.lm, p.ld] H H' → NetAt C Z H' p m (gs ++ [.fi b]) nm → Q (.int ((m + gs.length : Nat) : Int)) H'
theorem ok_Net_fixed (B : Bl mg) (L : LL K mg C a1 a2 a3 a4 a5 a6 a7 a8 a9 a10 a11 a12 a13 a14 a15 a16 a17 a18 a19 a20 a21 a22 a23 a24 a25 l1 l2 l3 l4 l5 l6 l7 l8 l9 l10 l11 l12 l13 l14 l15 l16 l17 l18 l19 l20 l21 l22 l23 l24 l25) : FnOk P w K mg base CX0 2 a15 l15 ["self", "bit"] (spFixed C) := by
  have G_Net_put_gate : FnOk P w K mg base CX0 1 a17 l17 ["self", "gate", "depth"] (spPutG C) := (ok_Net_put_gate B L).mono (by decide)
  refine L.F_Net_fixed.ok sc_Net_fixed (fun vs H Q E h => ?_) (fun cdv A outer s H vs Q E hr h => ?_)
  · obtain ⟨Z, p, m, gs, nm, b, rfl, _⟩ := h
    rfl
  obtain ⟨Z, p, m, gs, nm, b, rfl, hN, hl, q⟩ := h
  refine ⟨_, (pss_one (ps_ret (pe_meth (pv 0) L.T.cl L.M_Net_put_gate G_Net_put_gate hr L.b_Net_put_gate .nil pass0 (pa_cons (pe_tup (pa_cons pe_str (pa_cons (pv 1) pa_nil))) (pa_cons pe_int pa_nil))))), ?_⟩
  obtain ⟨hz, _, _, dx, _, _, e1, _⟩ := id hN
  refine ⟨_, rfl, p.x, dx, _, rfl, e1, rfl, _, rfl, (by show 2 ≤ sizeLine; decide), fun a na => ?_⟩
  have sa := same_upd (o := .tup (Gt.fi b).row) na
  refine ⟨Z, p, m, gs, nm, a, .fi b, rfl, hN.same sa, upd_same, fun z => hz a z na, hl, fun H' k N' => q H' (.trans (.ofSame sa) k) N'⟩
def spPut (K : PySem.W.Frag) (C : Addr) : Sp := fun vs H Q _ => ∃ (Z : List Addr) (p : NetP) (m : Nat) (gs : List Gt) (nm : List (Str × List Nat)) (k : Str) (t : Addr) (ws : List Nat), vs = [.ref p.x, .str k, .ref t] ∧ NetAt C Z H p m gs nm ∧ SqT K H t (nts ws) ∧ ws ≠ [] ∧ ws.length ≤ 2 ∧ (∀ a ∈ ws, a < m + gs.length) ∧ m + gs.length ≤ 500000 ∧
  ∀ H', KeepS [p.lm, p.ld] H H' → NetAt C Z H' p m (gs ++ [.w k ws]) nm → Q (.int ((m + gs.length : Nat) : Int)) H'
theorem ok_Net_put (B : Bl mg) (L : LL K mg C a1 a2 a3 a4 a5 a6 a7 a8 a9 a10 a11 a12 a13 a14 a15 a16 a17 a18 a19 a20 a21 a22 a23 a24 a25 l1 l2 l3 l4 l5 l6 l7 l8 l9 l10 l11 l12 l13 l14 l15 l16 l17 l18 l19 l20 l21 l22 l23 l24 l25) : FnOk P w K mg base CX0 3 a16 l16 ["self", "kind", "wires"] (spPut K C) := by
  have G_Net_put_gate : FnOk P w K mg base CX0 2 a17 l17 ["self", "gate", "depth"] (spPutG C) := (ok_Net_put_gate B L).mono (by decide)
  have G_Net_need : FnOk P w K mg base CX0 2 a18 l18 ["self", "wires"] (spNeed K C) := (ok_Net_need B L).mono (by decide)
  refine L.F_Net_put.ok sc_Net_put (fun vs H Q E h => ?_) (fun cdv A outer s H vs Q E hr h => ?_)
  · obtain ⟨Z, p, m, gs, nm, k, t, ws, rfl, _⟩ := h
    rfl
  obtain ⟨Z, p, m, gs, nm, k, t, ws, rfl, hN, hT, w0, w2, hw, hl, q⟩ := h
  refine ⟨_, (pss_cons (ps_expr (pe_meth (pv 0) L.T.cl L.M_Net_need G_Net_need hr L.b_Net_need .nil pass0 (pa_cons (pv 2) pa_nil)))
    (pss_cons (ps_set (i := 3) sc_Net_put.nd rfl (.inl rfl) (pe_op op_add pe_int (pe_callB (cr_max rfl) (by rfl) B.max boot_max (pa_cons (pe_lc (own := [("wire", 4)]) (by rfl) sc_Net_put.nd (pi_tup (pv 2)) (blkOk_by (own := [("wire", 4)]) (N := ["self", "kind", "wires", "depth", "wire"]) (sc := defScope s_Net_put) (by decide +kernel)) (fun _ _ _ _ _ => pg_name (i := 4) sc_Net_put.nd rfl (Or.inl rfl)) (fun _ _ _ _ _ => pts_nil) (fun _ _ _ _ _ => (pe_ix (ix_listK (K := K)) (pe_fldK (K := K) (pv 0) rfl) (pv 4) (fun _ _ => rfl)))) pa_nil))))
    (pss_one (ps_ret (pe_meth (pv 0) L.T.cl L.M_Net_put_gate G_Net_put_gate hr L.b_Net_put_gate .nil pass0 (pa_cons (pe_tup (pa_cons (pv 1) (StX.pa_star (pv 2) pa_nil))) (pa_cons (pv 3) pa_nil))))))), ?_⟩
  obtain ⟨hz, _, _, dx, _, _, e1, _⟩ := id hN
  refine ⟨_, rfl, p.x, dx, _, rfl, e1, rfl, _, rfl, Z, p, m, gs, nm, t, ws, rfl, hN, .inr hT, hw, fun H1 s1 => ?_⟩
  have N1 := hN.same s1
  obtain ⟨_, _, _, _, ps, kvs, f1, f2, f3, _⟩ := id N1
  have hT1 := Same.seqT s1 hT
  refine ⟨_, rfl, t, rfl, ⟨_, hT1⟩, fun D nD => ?_⟩
  refine lc_it (walk_tup (K := K) (a := t) (xs := nts ws)) (fun i H9 => Same H1 H9 ∧ H9 D = some (.lst ((ws.take i).map fun a => V.int ((dps m gs).getD a 0)))) ⟨same_upd nD, upd_same⟩ (fun i H9 _ ⟨s9, _⟩ => Same.seqT s9 hT1) ?_ ?_
  · rintro j z H9 H10 hj ⟨s9, eD⟩ ⟨rfl, hz⟩
    obtain ⟨a, ha, rfl⟩ := nts_at hz
    have la := hw a (List.mem_of_getElem? ha)
    refine ⟨rfl, yesT ?_⟩
    have e1' := s9 _ _ f1
    have e3' := s9 _ _ f3
    have hat : atI ((dps m gs).map V.int) (a : Int) = some (.int ((dps m gs).getD a 0)) := atI_nat (by
      rw [List.getElem?_map, List.getElem?_eq_getElem (by rw [dps_len]; exact la)]
      simp [List.getD, List.getElem?_eq_getElem (show a < (dps m gs).length by rw [dps_len]; exact la)])
    refine ⟨_, rfl, p.x, C, _, _, _, rfl, e1', L.T.cl, L.T.n_depths, rfl, _, rfl, p.ld, _, _, _, rfl, rfl, SqL.of e3', hat, ?_⟩
    refine ⟨_, eD, ?_, fun y u e => ?_, ?_⟩
    · rw [List.length_map, List.length_take]
      exact Nat.lt_of_le_of_lt (Nat.min_le_right _ _) (small1000 (by omega))
    · rw [upd_ne (ne_of_none e nD)]
      exact s9 _ _ e
    · rw [upd_same, List.take_add_one, ha, List.map_append]
      rfl
  rintro H2 ⟨s2, eD⟩
  rw [nts_len, List.take_length] at eD
  have mx1 : ∀ y ∈ ws.map (fun a => (dps m gs).getD a 0), 0 ≤ y := fun y hy => by
    obtain ⟨a, ha, rfl⟩ := List.mem_map.mp hy
    have la := hw a ha
    have := dps_nn m gs ((dps m gs)[a]'(by rw [dps_len]; exact la)) (List.getElem_mem _)
    simp only [List.getD, List.getElem?_eq_getElem (show a < (dps m gs).length by rw [dps_len]; exact la), Option.getD_some]
    exact this
  refine ⟨D, ws.map (fun a => (dps m gs).getD a 0), rfl, SqL.of (by rw [List.map_map]; exact eD), by rw [List.length_map]; exact List.length_pos_iff.mpr w0, fun M hM hL => ?_⟩
  have eM := mx_is hM hL mx1
  refine ⟨_, _, rfl, rfl, ?_⟩
  try simp only [L2.start, List.map_cons, List.map_nil, List.length_cons, List.length_nil, List.replicate_succ, List.replicate_zero, List.cons_append, List.nil_append, List.set_cons_succ, List.set_cons_zero, Nat.reduceAdd, Nat.reduceSub, Nat.zero_add]
  have e1' := s2 _ _ f1
  have hT2 := Same.seqT s2 hT1
  refine ⟨_, rfl, p.x, _, _, rfl, e1', rfl, ?_⟩
  try simp only [L2.start, List.map_cons, List.map_nil, List.length_cons, List.length_nil, List.replicate_succ, List.replicate_zero, List.cons_append, List.nil_append, List.set_cons_succ, List.set_cons_zero, Nat.reduceAdd, Nat.reduceSub, Nat.zero_add]
  refine ⟨_, rfl, _, rfl, t, _, rfl, .inl hT2, ?_⟩
  dsimp only [tNil]
  rw [List.append_nil]
  refine ⟨by rw [List.length_cons, nts_len]; exact Nat.le_trans (show ws.length + 1 ≤ 3 by omega) (by decide), fun g ng => ?_⟩
  have sg := same_upd (o := .tup (Gt.w k ws).row) ng
  have ed : (1 + M : Int) = dep (dps m gs) (.w k ws) := by
    show _ = 1 + mx _
    rw [eM]
  have N2 := (N1.same s2).same sg
  refine ⟨_, rfl, Z, p, m, gs, nm, g, .w k ws, by rw [ed]; rfl, N2, upd_same, fun z => N1.1 g z (by
    cases e : H1 g with
    | none => rfl
    | some o =>
      rw [s2 _ _ e] at ng
      cases ng), hl, fun H' k' N' => q H' (.trans (.ofSame ((s1.trans s2).trans sg)) k') N'⟩
def spG2 (C : Addr) (k : Str) : Sp := fun vs H Q _ => ∃ (Z : List Addr) (p : NetP) (m : Nat) (gs : List Gt) (nm : List (Str × List Nat)) (a b : Nat), vs = [.ref p.x, .int (a : Int), .int (b : Int)] ∧ NetAt C Z H p m gs nm ∧ a < m + gs.length ∧ b < m + gs.length ∧ m + gs.length ≤ 500000 ∧
  ∀ H', KeepS [p.lm, p.ld] H H' → NetAt C Z H' p m (gs ++ [.w k [a, b]]) nm → Q (.int ((m + gs.length : Nat) : Int)) H'
theorem ok_Net_both (B : Bl mg) (L : LL K mg C a1 a2 a3 a4 a5 a6 a7 a8 a9 a10 a11 a12 a13 a14 a15 a16 a17 a18 a19 a20 a21 a22 a23 a24 a25 l1 l2 l3 l4 l5 l6 l7 l8 l9 l10 l11 l12 l13 l14 l15 l16 l17 l18 l19 l20 l21 l22 l23 l24 l25) : FnOk P w K mg base CX0 4 a11 l11 ["self", "a", "b"] (spG2 C "both") := by
  have G_Net_put : FnOk P w K mg base CX0 3 a16 l16 ["self", "kind", "wires"] (spPut K C) := (ok_Net_put B L).mono (by decide)
  refine L.F_Net_both.ok sc_Net_both (fun vs H Q E h => ?_) (fun cdv A outer s H vs Q E hr h => ?_)
  · obtain ⟨Z, p, m, gs, nm, a, b, rfl, _⟩ := h
    rfl
  obtain ⟨Z, p, m, gs, nm, a, b, rfl, hN, ha, hb, hl, q⟩ := h
  refine ⟨_, (pss_one (ps_ret (pe_meth (pv 0) L.T.cl L.M_Net_put G_Net_put hr L.b_Net_put .nil pass0 (pa_cons pe_str (pa_cons (pe_tup (pa_cons (pv 1) (pa_cons (pv 2) pa_nil))) pa_nil))))), ?_⟩
  obtain ⟨hz, _, _, dx, _, _, e1, _⟩ := id hN
  refine ⟨_, rfl, p.x, dx, _, rfl, e1, rfl, _, rfl, _, rfl, (by show 2 ≤ sizeLine; decide), fun t nt => ?_⟩
  have st := same_upd (o := .tup [.int (a : Int), .int (b : Int)]) nt
  refine ⟨Z, p, m, gs, nm, "both", t, [a, b], rfl, hN.same st, .inl (.inl upd_same), (fun z => nomatch z), (Nat.le_of_ble_eq_true rfl), fun x hx => ?_, hl, fun H' k N' => q H' (.trans (.ofSame st) k) N'⟩
  simp only [List.mem_cons, List.not_mem_nil, or_false] at hx
  rcases hx with z | z <;> rw [z] <;> assumption
theorem ok_Net_either (B : Bl mg) (L : LL K mg C a1 a2 a3 a4 a5 a6 a7 a8 a9 a10 a11 a12 a13 a14 a15 a16 a17 a18 a19 a20 a21 a22 a23 a24 a25 l1 l2 l3 l4 l5 l6 l7 l8 l9 l10 l11 l12 l13 l14 l15 l16 l17 l18 l19 l20 l21 l22 l23 l24 l25) : FnOk P w K mg base CX0 4 a12 l12 ["self", "a", "b"] (spG2 C "either") := by
  have G_Net_put : FnOk P w K mg base CX0 3 a16 l16 ["self", "kind", "wires"] (spPut K C) := (ok_Net_put B L).mono (by decide)
  refine L.F_Net_either.ok sc_Net_either (fun vs H Q E h => ?_) (fun cdv A outer s H vs Q E hr h => ?_)
  · obtain ⟨Z, p, m, gs, nm, a, b, rfl, _⟩ := h
    rfl
  obtain ⟨Z, p, m, gs, nm, a, b, rfl, hN, ha, hb, hl, q⟩ := h
  refine ⟨_, (pss_one (ps_ret (pe_meth (pv 0) L.T.cl L.M_Net_put G_Net_put hr L.b_Net_put .nil pass0 (pa_cons pe_str (pa_cons (pe_tup (pa_cons (pv 1) (pa_cons (pv 2) pa_nil))) pa_nil))))), ?_⟩
  obtain ⟨hz, _, _, dx, _, _, e1, _⟩ := id hN
  refine ⟨_, rfl, p.x, dx, _, rfl, e1, rfl, _, rfl, _, rfl, (by show 2 ≤ sizeLine; decide), fun t nt => ?_⟩
  have st := same_upd (o := .tup [.int (a : Int), .int (b : Int)]) nt
  refine ⟨Z, p, m, gs, nm, "either", t, [a, b], rfl, hN.same st, .inl (.inl upd_same), (fun z => nomatch z), (Nat.le_of_ble_eq_true rfl), fun x hx => ?_, hl, fun H' k N' => q H' (.trans (.ofSame st) k) N'⟩
  simp only [List.mem_cons, List.not_mem_nil, or_false] at hx
  rcases hx with z | z <;> rw [z] <;> assumption
theorem ok_Net_unlike (B : Bl mg) (L : LL K mg C a1 a2 a3 a4 a5 a6 a7 a8 a9 a10 a11 a12 a13 a14 a15 a16 a17 a18 a19 a20 a21 a22 a23 a24 a25 l1 l2 l3 l4 l5 l6 l7 l8 l9 l10 l11 l12 l13 l14 l15 l16 l17 l18 l19 l20 l21 l22 l23 l24 l25) : FnOk P w K mg base CX0 4 a13 l13 ["self", "a", "b"] (spG2 C "unlike") := by
  have G_Net_put : FnOk P w K mg base CX0 3 a16 l16 ["self", "kind", "wires"] (spPut K C) := (ok_Net_put B L).mono (by decide)
  refine L.F_Net_unlike.ok sc_Net_unlike (fun vs H Q E h => ?_) (fun cdv A outer s H vs Q E hr h => ?_)
  · obtain ⟨Z, p, m, gs, nm, a, b, rfl, _⟩ := h
    rfl
  obtain ⟨Z, p, m, gs, nm, a, b, rfl, hN, ha, hb, hl, q⟩ := h
  refine ⟨_, (pss_one (ps_ret (pe_meth (pv 0) L.T.cl L.M_Net_put G_Net_put hr L.b_Net_put .nil pass0 (pa_cons pe_str (pa_cons (pe_tup (pa_cons (pv 1) (pa_cons (pv 2) pa_nil))) pa_nil))))), ?_⟩
  obtain ⟨hz, _, _, dx, _, _, e1, _⟩ := id hN
  refine ⟨_, rfl, p.x, dx, _, rfl, e1, rfl, _, rfl, _, rfl, (by show 2 ≤ sizeLine; decide), fun t nt => ?_⟩
  have st := same_upd (o := .tup [.int (a : Int), .int (b : Int)]) nt
  refine ⟨Z, p, m, gs, nm, "unlike", t, [a, b], rfl, hN.same st, .inl (.inl upd_same), (fun z => nomatch z), (Nat.le_of_ble_eq_true rfl), fun x hx => ?_, hl, fun H' k N' => q H' (.trans (.ofSame st) k) N'⟩
  simp only [List.mem_cons, List.not_mem_nil, or_false] at hx
  rcases hx with z | z <;> rw [z] <;> assumption
def spG1 (C : Addr) : Sp := fun vs H Q _ => ∃ (Z : List Addr) (p : NetP) (m : Nat) (gs : List Gt) (nm : List (Str × List Nat)) (a : Nat), vs = [.ref p.x, .int (a : Int)] ∧ NetAt C Z H p m gs nm ∧ a < m + gs.length ∧ m + gs.length ≤ 500000 ∧
  ∀ H', KeepS [p.lm, p.ld] H H' → NetAt C Z H' p m (gs ++ [.w "other" [a]]) nm → Q (.int ((m + gs.length : Nat) : Int)) H'
theorem ok_Net_other (B : Bl mg) (L : LL K mg C a1 a2 a3 a4 a5 a6 a7 a8 a9 a10 a11 a12 a13 a14 a15 a16 a17 a18 a19 a20 a21 a22 a23 a24 a25 l1 l2 l3 l4 l5 l6 l7 l8 l9 l10 l11 l12 l13 l14 l15 l16 l17 l18 l19 l20 l21 l22 l23 l24 l25) : FnOk P w K mg base CX0 4 a14 l14 ["self", "a"] (spG1 C) := by
  have G_Net_put : FnOk P w K mg base CX0 3 a16 l16 ["self", "kind", "wires"] (spPut K C) := (ok_Net_put B L).mono (by decide)
  refine L.F_Net_other.ok sc_Net_other (fun vs H Q E h => ?_) (fun cdv A outer s H vs Q E hr h => ?_)
  · obtain ⟨Z, p, m, gs, nm, a, rfl, _⟩ := h
    rfl
  obtain ⟨Z, p, m, gs, nm, a, rfl, hN, ha, hl, q⟩ := h
  refine ⟨_, (pss_one (ps_ret (pe_meth (pv 0) L.T.cl L.M_Net_put G_Net_put hr L.b_Net_put .nil pass0 (pa_cons pe_str (pa_cons (pe_tup (pa_cons (pv 1) pa_nil)) pa_nil))))), ?_⟩
  obtain ⟨hz, _, _, dx, _, _, e1, _⟩ := id hN
  refine ⟨_, rfl, p.x, dx, _, rfl, e1, rfl, _, rfl, (by show 1 ≤ sizeLine; decide), fun t nt => ?_⟩
  have st := same_upd (o := .tup [.int (a : Int)]) nt
  refine ⟨Z, p, m, gs, nm, "other", t, [a], rfl, hN.same st, .inl (.inl upd_same), (fun z => nomatch z), (Nat.le_of_ble_eq_true rfl), fun x hx => ?_, hl, fun H' k N' => q H' (.trans (.ofSame st) k) N'⟩
  rw [List.mem_singleton.mp hx]
  exact ha
end
section
variable {P : Program} {w : World} {K : PySem.W.Frag} {mg : Str → Option Value} {base : Heap}
variable {C : Addr} {a1 a2 a3 a4 a5 a6 a7 a8 a9 a10 a11 a12 a13 a14 a15 a16 a17 a18 a19 a20 a21 a22 a23 a24 a25 : Addr} {l1 l2 l3 l4 l5 l6 l7 l8 l9 l10 l11 l12 l13 l14 l15 l16 l17 l18 l19 l20 l21 l22 l23 l24 l25 : FuncData}
/-! ### names of a net -/
theorem NmAt.keys {Z : List Addr} {H : Hp} {p : NetP} {kvs : List (Key × V)} {nm : List (Str × List Nat)} (h : NmAt Z H p kvs nm) : kvs.map (·.1) = nm.map fun x => (Sum.inr x.1 : Key) := by
  obtain ⟨h1, h2, h3⟩ := h
  refine List.ext_getElem? fun i => ?_
  rw [List.getElem?_map, List.getElem?_map]
  by_cases c : i < kvs.length
  · have c' : i < nm.length := by omega
    rw [List.getElem?_eq_getElem c, List.getElem?_eq_getElem c']
    have := (h3 i kvs[i].1 kvs[i].2 nm[i].1 nm[i].2 (List.getElem?_eq_getElem c) (List.getElem?_eq_getElem c')).1
    show some kvs[i].1 = some _
    rw [this]
  · rw [List.getElem?_eq_none (by omega), List.getElem?_eq_none (by omega)]
    rfl
theorem valV_out {kvs : List (Key × V)} {k : Key} (h : k ∉ kvs.map (·.1)) : valV kvs k = none := by
  have e := valV_any k kvs
  cases q : valV kvs k with
  | none => rfl
  | some v =>
    rw [q] at e
    obtain ⟨x, hx, hd⟩ := List.any_eq_true.mp e
    exact absurd (List.mem_map.mpr ⟨x, hx, of_decide_eq_true hd⟩) h
theorem valV_at : ∀ {kvs : List (Key × V)} {i : Nat} {k : Key} {v : V}, (kvs.map (·.1)).Nodup → kvs[i]? = some (k, v) → valV kvs k = some v
  | [], i, k, v, _, h => by simp at h
  | q :: kvs, 0, k, v, _, h => by
    cases Option.some.inj h
    exact valV_pos rfl
  | q :: kvs, i + 1, k, v, hn, h => by
    rw [List.map_cons, List.nodup_cons] at hn
    have h' : kvs[i]? = some (k, v) := h
    have : k ∈ kvs.map (·.1) := List.mem_map.mpr ⟨_, List.mem_of_getElem? h', rfl⟩
    rw [valV_neg (fun z => hn.1 (z ▸ this))]
    exact valV_at hn.2 h'
theorem NmAt.nodup {Z : List Addr} {H : Hp} {p : NetP} {kvs : List (Key × V)} {nm : List (Str × List Nat)} (h : NmAt Z H p kvs nm) : (kvs.map (·.1)).Nodup := by
  rw [h.keys]
  have := h.2.1
  rw [show (nm.map fun x => (Sum.inr x.1 : Key)) = (nm.map (·.1)).map Sum.inr from by rw [List.map_map]; rfl]
  exact List.Pairwise.map _ (fun a b n z => n (Sum.inr.inj z)) this
theorem NmAt.out {Z : List Addr} {H : Hp} {p : NetP} {kvs : List (Key × V)} {nm : List (Str × List Nat)} {n : Str} (h : NmAt Z H p kvs nm) (hn : n ∉ nm.map (·.1)) : valV kvs (.inr n) = none := by
  refine valV_out ?_
  rw [h.keys]
  intro z
  obtain ⟨x, hx, e⟩ := List.mem_map.mp z
  exact hn (List.mem_map.mpr ⟨x, hx, Sum.inr.inj e⟩)
theorem NmAt.in_ {Z : List Addr} {H : Hp} {p : NetP} {kvs : List (Key × V)} {nm : List (Str × List Nat)} {i : Nat} {n : Str} {ws : List Nat} (h : NmAt Z H p kvs nm) (hn : nm[i]? = some (n, ws)) : ∃ l, valV kvs (.inr n) = some (.ref l) ∧ H l = some (.lst (nts ws)) := by
  have c : i < kvs.length := by
    have := (List.getElem?_eq_some_iff.mp hn).1
    rw [h.1]
    exact this
  obtain ⟨ek, l, ev, _, _, _, el⟩ := h.2.2 i kvs[i].1 kvs[i].2 n ws (List.getElem?_eq_getElem c) hn
  refine ⟨l, ?_, el⟩
  rw [← ev, ← ek]
  exact valV_at h.nodup (List.getElem?_eq_getElem c)
def spGive (K : PySem.W.Frag) (C : Addr) : Sp := fun vs H Q _ => ∃ (Z : List Addr) (p : NetP) (m : Nat) (gs : List Gt) (nm : List (Str × List Nat)) (n : Str) (t : Addr) (ws : List Nat), vs = [.ref p.x, .str n, .ref t] ∧ NetAt C Z H p m gs nm ∧ n ∉ nm.map (·.1) ∧ (SqL K H t (nts ws) ∨ SqT K H t (nts ws)) ∧ (∀ a ∈ ws, a < m + gs.length) ∧ nm.length ≤ 900 ∧
  ∀ H', KeepS [p.dn] H H' → NetAt C Z H' p m gs (nm ++ [(n, ws)]) → Q .non H'
theorem ok_Net_give (B : Bl mg) (L : LL K mg C a1 a2 a3 a4 a5 a6 a7 a8 a9 a10 a11 a12 a13 a14 a15 a16 a17 a18 a19 a20 a21 a22 a23 a24 a25 l1 l2 l3 l4 l5 l6 l7 l8 l9 l10 l11 l12 l13 l14 l15 l16 l17 l18 l19 l20 l21 l22 l23 l24 l25) : FnOk P w K mg base CX0 2 a19 l19 ["self", "name", "wires"] (spGive K C) := by
  have G_Net_need : FnOk P w K mg base CX0 1 a18 l18 ["self", "wires"] (spNeed K C) := (ok_Net_need B L).mono (by decide)
  refine L.F_Net_give.ok sc_Net_give (fun vs H Q E h => ?_) (fun cdv A outer s H vs Q E hr h => ?_)
  · obtain ⟨Z, p, m, gs, nm, n, t, ws, rfl, _⟩ := h
    rfl
  obtain ⟨Z, p, m, gs, nm, n, t, ws, rfl, hN, hn, hT, hw, hl, q⟩ := h
  refine ⟨_, (pss_cons (ps_if (pt_cmp (pc_din (units1 hr) (pv 1) (pe_fld (pv 0) rfl)) (by rfl)) (pss_one ps_never) pss_nil)
    (pss_cons (ps_expr (pe_meth (pv 0) L.T.cl L.M_Net_need G_Net_need hr L.b_Net_need .nil pass0 (pa_cons (pv 2) pa_nil)))
    (pss_one (ps_dput (units1 hr) (pe_fld (pv 0) rfl) (pv 1) (pe_callTy call_list_of (by rfl) B.list PyProof.Rows.boot_list (pa_cons (pv 2) pa_nil)) rfl)))), ?_⟩
  obtain ⟨hz, hb, _, dx, ps, kvs, e1, e2, e3, e4, g0, n0⟩ := id hN
  refine ⟨_, rfl, _, rfl, p.x, C, dx, _, _, rfl, e1, L.T.cl, L.T.n_by_name, rfl, p.dn, _, rfl, DGet.k (k := .inr n) e4, ?_⟩
  rw [n0.out hn]
  refine ⟨_, rfl, iteF ?_⟩
  dsimp only [tNext]
  refine ⟨_, rfl, p.x, dx, _, rfl, e1, rfl, _, rfl, Z, p, m, gs, nm, t, ws, rfl, hN, hT, hw, fun H1 s1 => ?_⟩
  have N1 := hN.same s1
  obtain ⟨_, _, ⟨c1, c2, c3, c4⟩, dx1, ps1, kvs1, f1, f2, f3, f4, g1, n1⟩ := id N1
  have hT1 : SqL K H1 t (nts ws) ∨ SqT K H1 t (nts ws) := hT.elim (fun y => .inl (s1.seq y)) (fun y => .inr (Same.seqT s1 y))
  refine ⟨_, rfl, t, _, rfl, hT1, fun l nl => ?_⟩
  have sl := same_upd (o := .lst (nts ws)) nl
  refine ⟨_, rfl, p.x, C, dx1, _, _, rfl, sl _ _ f1, L.T.cl, L.T.n_by_name, rfl, _, rfl, p.dn, _, rfl, DPut.k (k := .inr n) (sl _ _ f4) (by rw [n1.1]; exact Nat.lt_of_le_of_lt hl (by decide)), ?_⟩
  rw [putK_new _ (n1.out hn)]
  have nlZ : l ∉ Z := fun z => N1.1 l z nl
  have nlm : l ≠ p.lm := (ne_of_none f2 nl).symm
  have nld : l ≠ p.ld := (ne_of_none f3 nl).symm
  have nln : l ≠ p.dn := (ne_of_none f4 nl).symm
  have N2 := N1.same sl
  have k2 : KeepS [p.dn] (upd H1 l (.lst (nts ws))) (upd (upd H1 l (.lst (nts ws))) p.dn (.dK (kvs1 ++ [(.inr n, .ref l)]))) := .upd (by simp)
  refine q _ ((KeepS.ofSame (s1.trans sl)).trans k2) ?_
  have fr : ∀ {y : Addr} {o : HO}, (upd H1 l (.lst (nts ws))) y = some o → y ≠ p.dn → (upd (upd H1 l (.lst (nts ws))) p.dn (.dK (kvs1 ++ [(.inr n, .ref l)]))) y = some o := fun e z => by
    rw [upd_ne z]
    exact e
  have g4 := sl _ _ f4
  refine ⟨fun z hz' => k2.2 z (N2.1 z hz'), hb, ⟨c1, c2, c3, c4⟩, dx1, ps1, kvs1 ++ [(.inr n, .ref l)], fr (sl _ _ f1) (fun z => by rw [z, f4] at f1; cases f1), fr (sl _ _ f2) (fun z => by rw [z, f4] at f2; cases f2), fr (sl _ _ f3) (fun z => by rw [z, f4] at f3; cases f3), upd_same, ⟨g1.1, fun i r g' hi hg => ?_⟩, ?_⟩
  · have := g1.2 i r g' hi hg
    exact ⟨this.1, fr (sl _ _ this.2) (fun z => by
      have := this.2
      rw [z, f4] at this
      cases this)⟩
  · refine ⟨by rw [List.length_append, List.length_append, n1.1]; rfl, ?_, fun i k v n' ws' hi hn' => ?_⟩
    · rw [List.map_append, List.nodup_append]
      refine ⟨n1.2.1, by simp, fun a ha b hb' => ?_⟩
      have hb' : b = n := by simpa using hb'
      rw [hb']
      exact fun z => hn (z ▸ ha)
    · by_cases c : i < kvs1.length
      · rw [List.getElem?_append_left c] at hi
        rw [List.getElem?_append_left (by rw [← n1.1]; exact c)] at hn'
        obtain ⟨ek, l', ev, l1, l2, l3, l4⟩ := n1.2.2 i k v n' ws' hi hn'
        exact ⟨ek, l', ev, l1, l2, l3, fr (sl _ _ l4) (fun z => by rw [z, f4] at l4; cases l4)⟩
      · have i0 : i = kvs1.length := by
          have := (List.getElem?_eq_some_iff.mp hi).1
          rw [List.length_append, List.length_cons, List.length_nil] at this
          omega
        rw [List.getElem?_append_right (by omega), i0, Nat.sub_self] at hi
        rw [List.getElem?_append_right (by rw [i0, n1.1]; exact Nat.le_refl _), i0, n1.1, Nat.sub_self] at hn'
        cases hi
        cases hn'
        exact ⟨rfl, l, rfl, nlZ, nlm, nld, fr upd_same nln⟩
def spGiven (C : Addr) : Sp := fun vs H Q _ => ∃ (Z : List Addr) (p : NetP) (m : Nat) (gs : List Gt) (nm : List (Str × List Nat)) (i : Nat) (n : Str) (ws : List Nat), vs = [.ref p.x, .str n] ∧ NetAt C Z H p m gs nm ∧ nm[i]? = some (n, ws) ∧
  ∀ t, H t = none → Q (.ref t) (upd H t (.lst (nts ws)))
theorem ok_Net_given (B : Bl mg) (L : LL K mg C a1 a2 a3 a4 a5 a6 a7 a8 a9 a10 a11 a12 a13 a14 a15 a16 a17 a18 a19 a20 a21 a22 a23 a24 a25 l1 l2 l3 l4 l5 l6 l7 l8 l9 l10 l11 l12 l13 l14 l15 l16 l17 l18 l19 l20 l21 l22 l23 l24 l25) : FnOk P w K mg base CX0 1 a20 l20 ["self", "name"] (spGiven C) := by
  refine L.F_Net_given.ok sc_Net_given (fun vs H Q E h => ?_) (fun cdv A outer s H vs Q E hr h => ?_)
  · obtain ⟨Z, p, m, gs, nm, i, n, ws, rfl, _⟩ := h
    rfl
  obtain ⟨Z, p, m, gs, nm, i, n, ws, rfl, hN, hn, q⟩ := h
  refine ⟨_, (pss_cons (ps_if (pt_cmp (pc_dnotin (units1 hr) (pv 1) (pe_fld (pv 0) rfl)) (by rfl)) (pss_one ps_never) pss_nil)
    (pss_one (ps_ret (pe_callTy call_list_of (by rfl) B.list PyProof.Rows.boot_list (pa_cons (pe_dget (units1 hr) (pe_fld (pv 0) rfl) (pv 1) (fun _ _ => rfl)) pa_nil))))), ?_⟩
  obtain ⟨hz, hb, _, dx, ps, kvs, e1, e2, e3, e4, g0, n0⟩ := id hN
  obtain ⟨l, ev, el⟩ := n0.in_ hn
  refine ⟨_, rfl, _, rfl, p.x, C, dx, _, _, rfl, e1, L.T.cl, L.T.n_by_name, rfl, p.dn, _, rfl, DGet.k (k := .inr n) e4, ?_⟩
  rw [ev]
  refine ⟨_, rfl, iteF ?_⟩
  dsimp only [tNext]
  refine ⟨_, rfl, p.x, C, dx, _, _, rfl, e1, L.T.cl, L.T.n_by_name, rfl, _, rfl, p.dn, .ref l, rfl, ?_, ?_⟩
  · rw [← ev]
    exact DGet.k (k := .inr n) e4
  exact ⟨l, _, rfl, .inl (SqL.of el), fun t nt => q t nt⟩
def spNames (C : Addr) : Sp := fun vs H Q _ => ∃ (Z : List Addr) (p : NetP) (m : Nat) (gs : List Gt) (nm : List (Str × List Nat)), vs = [.ref p.x] ∧ NetAt C Z H p m gs nm ∧ nm.length < 64 ∧
  ∀ (ys : List Str) (t : Addr) (H' : Hp), ys.Perm (nm.map (·.1)) → sortedS ys = true → Same H H' → H t = none → H' t = some (.lst (ys.map V.str)) → Q (.ref t) H'
theorem ok_Net_names (B : Bl mg) (L : LL K mg C a1 a2 a3 a4 a5 a6 a7 a8 a9 a10 a11 a12 a13 a14 a15 a16 a17 a18 a19 a20 a21 a22 a23 a24 a25 l1 l2 l3 l4 l5 l6 l7 l8 l9 l10 l11 l12 l13 l14 l15 l16 l17 l18 l19 l20 l21 l22 l23 l24 l25) : FnOk P w K mg base CX0 1 a21 l21 ["self"] (spNames C) := by
  refine L.F_Net_names.ok sc_Net_names (fun vs H Q E h => ?_) (fun cdv A outer s H vs Q E hr h => ?_)
  · obtain ⟨Z, p, m, gs, nm, rfl, _⟩ := h
    rfl
  obtain ⟨Z, p, m, gs, nm, rfl, hN, hl, q⟩ := h
  refine ⟨_, (pss_one (ps_ret (pe_callB cr_sortedS (by rfl) L.z_sorted boot_sorted (pa_cons (pe_callTy (call_listD rfl) (by rfl) B.list PyProof.Rows.boot_list (pa_cons (pe_fld (pv 0) rfl) pa_nil)) pa_nil)))), ?_⟩
  obtain ⟨hz, hb, _, dx, ps, kvs, e1, e2, e3, e4, g0, n0⟩ := id hN
  refine ⟨_, rfl, p.x, C, dx, _, _, rfl, e1, L.T.cl, L.T.n_by_name, rfl, p.dn, kvs, rfl, .inl e4, fun l nl => ?_⟩
  have ek : (kvs.map fun kv => kV kv.1) = (nm.map (·.1)).map V.str := by
    rw [show (kvs.map fun kv => kV kv.1) = (kvs.map (·.1)).map kV from by rw [List.map_map]; rfl, n0.keys, List.map_map, List.map_map]
    rfl
  rw [ek]
  have sl := same_upd (o := .lst ((nm.map (·.1)).map V.str)) nl
  refine ⟨l, _, rfl, SqL.of upd_same, by rw [List.length_map]; exact hl, fun ys t hp hs nt => ?_⟩
  refine q ys t _ hp hs (sl.trans (same_upd nt)) ?_ upd_same
  cases e : H t with
  | none => rfl
  | some o =>
    rw [sl _ _ e] at nt
    cases nt
def spInputs (C : Addr) : Sp := fun vs H Q _ => ∃ (Z : List Addr) (p : NetP) (m : Nat) (gs : List Gt) (nm : List (Str × List Nat)), vs = [.ref p.x] ∧ NetAt C Z H p m gs nm ∧ Q (.int (m : Int)) H
theorem ok_Net_inputs (B : Bl mg) (L : LL K mg C a1 a2 a3 a4 a5 a6 a7 a8 a9 a10 a11 a12 a13 a14 a15 a16 a17 a18 a19 a20 a21 a22 a23 a24 a25 l1 l2 l3 l4 l5 l6 l7 l8 l9 l10 l11 l12 l13 l14 l15 l16 l17 l18 l19 l20 l21 l22 l23 l24 l25) : FnOk P w K mg base CX0 1 a22 l22 ["self"] (spInputs C) := by
  refine L.F_Net_inputs.ok sc_Net_inputs (fun vs H Q E h => ?_) (fun cdv A outer s H vs Q E hr h => ?_)
  · obtain ⟨Z, p, m, gs, nm, rfl, _⟩ := h
    rfl
  obtain ⟨Z, p, m, gs, nm, rfl, hN, q⟩ := h
  refine ⟨_, (pss_one (ps_ret (pe_fld (pv 0) rfl))), ?_⟩
  obtain ⟨hz, hb, _, dx, ps, kvs, e1, _⟩ := id hN
  exact ⟨_, rfl, p.x, C, dx, _, _, rfl, e1, L.T.cl, L.T.n_input_count, rfl, q⟩
def spGates (C : Addr) : Sp := fun vs H Q _ => ∃ (Z : List Addr) (p : NetP) (m : Nat) (gs : List Gt) (nm : List (Str × List Nat)), vs = [.ref p.x] ∧ NetAt C Z H p m gs nm ∧
  ∀ (t : Addr) (ps : List Addr) , H t = none → ps.length = gs.length → (∀ (i : Nat) (r : Addr) (g : Gt), ps[i]? = some r → gs[i]? = some g → H r = some (.tup g.row)) → Q (.ref t) (upd H t (.lst (ps.map V.ref)))
theorem ok_Net_gates (B : Bl mg) (L : LL K mg C a1 a2 a3 a4 a5 a6 a7 a8 a9 a10 a11 a12 a13 a14 a15 a16 a17 a18 a19 a20 a21 a22 a23 a24 a25 l1 l2 l3 l4 l5 l6 l7 l8 l9 l10 l11 l12 l13 l14 l15 l16 l17 l18 l19 l20 l21 l22 l23 l24 l25) : FnOk P w K mg base CX0 1 a23 l23 ["self"] (spGates C) := by
  refine L.F_Net_gates.ok sc_Net_gates (fun vs H Q E h => ?_) (fun cdv A outer s H vs Q E hr h => ?_)
  · obtain ⟨Z, p, m, gs, nm, rfl, _⟩ := h
    rfl
  obtain ⟨Z, p, m, gs, nm, rfl, hN, q⟩ := h
  refine ⟨_, (pss_one (ps_ret (pe_callTy call_list_of (by rfl) B.list PyProof.Rows.boot_list (pa_cons (pe_fld (pv 0) rfl) pa_nil)))), ?_⟩
  obtain ⟨hz, hb, _, dx, ps, kvs, e1, e2, e3, e4, g0, n0⟩ := id hN
  exact ⟨_, rfl, p.x, C, dx, _, _, rfl, e1, L.T.cl, L.T.n_made, rfl, p.lm, _, rfl, .inl (SqL.of e2), fun t nt => q t ps nt g0.1 (fun i r g hi hg => (g0.2 i r g hi hg).2)⟩
end
section
variable {P : Program} {w : World} {K : PySem.W.Frag} {mg : Str → Option Value} {base : Heap}
variable {C : Addr} {a1 a2 a3 a4 a5 a6 a7 a8 a9 a10 a11 a12 a13 a14 a15 a16 a17 a18 a19 a20 a21 a22 a23 a24 a25 : Addr} {l1 l2 l3 l4 l5 l6 l7 l8 l9 l10 l11 l12 l13 l14 l15 l16 l17 l18 l19 l20 l21 l22 l23 l24 l25 : FuncData}
def dpW (m : Nat) (gs : List Gt) (w : Nat) : Int := (dps m gs).getD w 0
def spLenN (C : Addr) : Sp := fun vs H Q _ => ∃ (Z : List Addr) (p : NetP) (m : Nat) (gs : List Gt) (nm : List (Str × List Nat)), vs = [.ref p.x] ∧ NetAt C Z H p m gs nm ∧ Q (.int (gs.length : Nat)) H
theorem ok_Net___len__ (B : Bl mg) (L : LL K mg C a1 a2 a3 a4 a5 a6 a7 a8 a9 a10 a11 a12 a13 a14 a15 a16 a17 a18 a19 a20 a21 a22 a23 a24 a25 l1 l2 l3 l4 l5 l6 l7 l8 l9 l10 l11 l12 l13 l14 l15 l16 l17 l18 l19 l20 l21 l22 l23 l24 l25) : FnOk P w K mg base CX0 1 a25 l25 ["self"] (spLenN C) := by
  refine L.F_Net___len__.ok sc_Net___len__ (fun vs H Q E h => ?_) (fun cdv A outer s H vs Q E hr h => ?_)
  · obtain ⟨Z, p, m, gs, nm, rfl, _⟩ := h
    rfl
  obtain ⟨Z, p, m, gs, nm, rfl, hN, q⟩ := h
  refine ⟨_, (pss_one (ps_ret (pe_callB call_len_seq (by rfl) B.len PySem.boot_len (pa_cons (pe_fld (pv 0) rfl) pa_nil)))), ?_⟩
  obtain ⟨_, _, _, dx, ps, kvs, e1, e2, e3, _, ⟨g1, _⟩, _⟩ := id hN
  refine ⟨_, rfl, p.x, C, dx, _, _, rfl, e1, L.T.cl, L.T.n_made, rfl, p.lm, _, rfl, .inl (SqL.of e2), ?_⟩
  rw [List.length_map, g1]
  exact q
def spDepth (C : Addr) : Sp := fun vs H Q _ => ∃ (Z : List Addr) (p : NetP) (m : Nat) (gs : List Gt) (nm : List (Str × List Nat)) (a : Nat), vs = [.ref p.x, .int (a : Int)] ∧ NetAt C Z H p m gs nm ∧ a < m + gs.length ∧
  ∀ H', Same H H' → Q (.int (dpW m gs a)) H'
theorem ok_Net_depth (B : Bl mg) (L : LL K mg C a1 a2 a3 a4 a5 a6 a7 a8 a9 a10 a11 a12 a13 a14 a15 a16 a17 a18 a19 a20 a21 a22 a23 a24 a25 l1 l2 l3 l4 l5 l6 l7 l8 l9 l10 l11 l12 l13 l14 l15 l16 l17 l18 l19 l20 l21 l22 l23 l24 l25) : FnOk P w K mg base CX0 2 a24 l24 ["self", "wire"] (spDepth C) := by
  have G_Net_need : FnOk P w K mg base CX0 1 a18 l18 ["self", "wires"] (spNeed K C) := (ok_Net_need B L).mono (by decide)
  refine L.F_Net_depth.ok sc_Net_depth (fun vs H Q E h => ?_) (fun cdv A outer s H vs Q E hr h => ?_)
  · obtain ⟨Z, p, m, gs, nm, a, rfl, _⟩ := h
    rfl
  obtain ⟨Z, p, m, gs, nm, a, rfl, hN, ha, q⟩ := h
  refine ⟨_, (pss_cons (ps_expr (pe_meth (pv 0) L.T.cl L.M_Net_need G_Net_need hr L.b_Net_need .nil pass0 (pa_cons (pe_tup (pa_cons (pv 1) pa_nil)) pa_nil)))
    (pss_one (ps_ret (pe_ix ix_list (pe_fld (pv 0) rfl) (pv 1) (fun _ _ => rfl))))), ?_⟩
  obtain ⟨_, _, _, dx, ps, kvs, e1, e2, e3, _⟩ := id hN
  refine ⟨_, rfl, p.x, dx, _, rfl, e1, rfl, _, rfl, (by show 1 ≤ sizeLine; decide), fun t nt => ?_⟩
  have st := same_upd (o := .tup [.int (a : Int)]) nt
  refine ⟨Z, p, m, gs, nm, t, [a], rfl, hN.same st, .inr (.inl (.inl upd_same)), (fun x hx => by rw [List.mem_singleton.mp hx]; exact ha), fun H' s' => ?_⟩
  have e1' := s' _ _ (st _ _ e1)
  have e3' := s' _ _ (st _ _ e3)
  refine ⟨_, rfl, p.x, C, dx, _, _, rfl, e1', L.T.cl, L.T.n_depths, rfl, ?_⟩
  refine ⟨_, rfl, p.ld, _, _, _, rfl, rfl, SqL.of e3', atI_nat (by
    rw [List.getElem?_map, List.getElem?_eq_getElem (by rw [dps_len]; exact ha)]
    rfl), ?_⟩
  have ed : (dps m gs)[a]'(by rw [dps_len]; exact ha) = dpW m gs a := by
    unfold dpW
    simp [List.getD, List.getElem?_eq_getElem (show a < (dps m gs).length by rw [dps_len]; exact ha)]
  rw [ed]
  exact q _ (st.trans s')
theorem Gt.row0 (k : Str) (ws : List Nat) : atI (Gt.w k ws).row 0 = some (.str k) := atI_nat (j := 0) rfl
def spLaid (C : Addr) : Sp := fun vs H Q _ => ∃ (Z : List Addr) (p : NetP) (m : Nat) (gs : List Gt) (nm : List (Str × List Nat)) (r : Addr) (g : Gt), vs = [.ref p.x, .ref r] ∧ NetAt C Z H p m gs nm ∧ H r = some (.tup g.row) ∧ g.ok (m + gs.length) ∧ m + gs.length ≤ 500000 ∧
  ∀ H', KeepS [p.lm, p.ld] H H' → NetAt C Z H' p m (gs ++ [g]) nm → Q (.int ((m + gs.length : Nat) : Int)) H'
theorem ok__law_laid (B : Bl mg) (L : LL K mg C a1 a2 a3 a4 a5 a6 a7 a8 a9 a10 a11 a12 a13 a14 a15 a16 a17 a18 a19 a20 a21 a22 a23 a24 a25 l1 l2 l3 l4 l5 l6 l7 l8 l9 l10 l11 l12 l13 l14 l15 l16 l17 l18 l19 l20 l21 l22 l23 l24 l25) : FnOk P w K mg base CX0 5 a6 l6 ["_law_net", "_law_row"] (spLaid C) := by
  have G_Net_both : FnOk P w K mg base CX0 4 a11 l11 ["self", "a", "b"] (spG2 C "both") := (ok_Net_both B L).mono (by decide)
  have G_Net_either : FnOk P w K mg base CX0 4 a12 l12 ["self", "a", "b"] (spG2 C "either") := (ok_Net_either B L).mono (by decide)
  have G_Net_unlike : FnOk P w K mg base CX0 4 a13 l13 ["self", "a", "b"] (spG2 C "unlike") := (ok_Net_unlike B L).mono (by decide)
  have G_Net_other : FnOk P w K mg base CX0 4 a14 l14 ["self", "a"] (spG1 C) := (ok_Net_other B L).mono (by decide)
  have G_Net_fixed : FnOk P w K mg base CX0 4 a15 l15 ["self", "bit"] (spFixed C) := (ok_Net_fixed B L).mono (by decide)
  refine L.F__law_laid.ok sc__law_laid (fun vs H Q E h => ?_) (fun cdv A outer s H vs Q E hr h => ?_)
  · obtain ⟨Z, p, m, gs, nm, r, g, rfl, _⟩ := h
    rfl
  obtain ⟨Z, p, m, gs, nm, r, g, rfl, hN, et, ok, hl, q⟩ := h
  refine ⟨_, (pss_cons (ps_if (pt_cmpR op_eq (pe_ix ix_tup (pv 1) pe_int (fun _ _ => rfl)) pe_str (nomark _)) (pss_one (ps_ret (pe_meth (pv 0) L.T.cl L.M_Net_both G_Net_both hr L.b_Net_both .nil pass0 (pa_cons (pe_ix ix_tup (pv 1) pe_int (fun _ _ => rfl)) (pa_cons (pe_ix ix_tup (pv 1) pe_int (fun _ _ => rfl)) pa_nil))))) pss_nil)
    (pss_cons (ps_if (pt_cmpR op_eq (pe_ix ix_tup (pv 1) pe_int (fun _ _ => rfl)) pe_str (nomark _)) (pss_one (ps_ret (pe_meth (pv 0) L.T.cl L.M_Net_either G_Net_either hr L.b_Net_either .nil pass0 (pa_cons (pe_ix ix_tup (pv 1) pe_int (fun _ _ => rfl)) (pa_cons (pe_ix ix_tup (pv 1) pe_int (fun _ _ => rfl)) pa_nil))))) pss_nil)
    (pss_cons (ps_if (pt_cmpR op_eq (pe_ix ix_tup (pv 1) pe_int (fun _ _ => rfl)) pe_str (nomark _)) (pss_one (ps_ret (pe_meth (pv 0) L.T.cl L.M_Net_unlike G_Net_unlike hr L.b_Net_unlike .nil pass0 (pa_cons (pe_ix ix_tup (pv 1) pe_int (fun _ _ => rfl)) (pa_cons (pe_ix ix_tup (pv 1) pe_int (fun _ _ => rfl)) pa_nil))))) pss_nil)
    (pss_one (ps_ret (pe_ifExp (pt_cmpR op_eq (pe_ix ix_tup (pv 1) pe_int (fun _ _ => rfl)) pe_str (nomark _)) (pe_meth (pv 0) L.T.cl L.M_Net_other G_Net_other hr L.b_Net_other .nil pass0 (pa_cons (pe_ix ix_tup (pv 1) pe_int (fun _ _ => rfl)) pa_nil)) (pe_meth (pv 0) L.T.cl L.M_Net_fixed G_Net_fixed hr L.b_Net_fixed .nil pass0 (pa_cons (pe_ix ix_tup (pv 1) pe_int (fun _ _ => rfl)) pa_nil)))))))), ?_⟩
  obtain ⟨_, _, _, dx9, _, _, e1, _⟩ := id hN
  have nS : ∀ {x y : Str}, ¬ x = y → ¬ decide (V.str x = V.str y) = true := fun h z => h (V.str.inj (of_decide_eq_true z))
  cases g with
  | fi b =>
    have r0 : atI (Gt.fi b).row 0 = some (.str "fixed") := rfl
    refine ⟨_, rfl, r, _, _, _, rfl, rfl, .inl (.inl et), r0, rfl, _, rfl, ite2 (fun z => absurd z (nS (by decide +kernel))) (fun _ => ?_)⟩
    dsimp only [tNext]
    refine ⟨_, rfl, r, _, _, _, rfl, rfl, .inl (.inl et), r0, rfl, _, rfl, ite2 (fun z => absurd z (nS (by decide +kernel))) (fun _ => ?_)⟩
    dsimp only [tNext]
    refine ⟨_, rfl, r, _, _, _, rfl, rfl, .inl (.inl et), r0, rfl, _, rfl, ite2 (fun z => absurd z (nS (by decide +kernel))) (fun _ => ?_)⟩
    dsimp only [tNext]
    refine ⟨_, rfl, r, _, _, _, rfl, rfl, .inl (.inl et), r0, rfl, _, rfl, ite2 (fun z => absurd z (nS (by decide +kernel))) (fun _ => ?_)⟩
    exact ⟨_, rfl, p.x, dx9, _, rfl, e1, rfl, _, rfl, r, _, _, _, rfl, rfl, .inl (.inl et), rfl, Z, p, m, gs, nm, b, rfl, hN, hl, fun H' k' N' => q H' k' N'⟩
  | w k ws =>
    have r0 := Gt.row0 k ws
    rcases ok.1 with ⟨hk, l2⟩ | ⟨rfl, l1⟩
    · obtain ⟨a, b, rfl⟩ : ∃ a b, ws = [a, b] := by
        match ws, l2 with
        | [a, b], _ => exact ⟨_, _, rfl⟩
      rcases hk with rfl | rfl | rfl
      · refine ⟨_, rfl, r, _, _, _, rfl, rfl, .inl (.inl et), r0, rfl, _, rfl, ite2 (fun _ => ?_) (fun z => absurd (decide_eq_true rfl) z)⟩
        exact ⟨_, rfl, p.x, dx9, _, rfl, e1, rfl, _, rfl, r, _, _, _, rfl, rfl, .inl (.inl et), rfl, _, rfl, r, _, _, _, rfl, rfl, .inl (.inl et), rfl, Z, p, m, gs, nm, a, b, rfl, hN, ok.2 a (by simp), ok.2 b (by simp), hl, fun H' k' N' => q H' k' N'⟩
      · refine ⟨_, rfl, r, _, _, _, rfl, rfl, .inl (.inl et), r0, rfl, _, rfl, ite2 (fun z => absurd z (nS (by decide +kernel))) (fun _ => ?_)⟩
        dsimp only [tNext]
        refine ⟨_, rfl, r, _, _, _, rfl, rfl, .inl (.inl et), r0, rfl, _, rfl, ite2 (fun _ => ?_) (fun z => absurd (decide_eq_true rfl) z)⟩
        exact ⟨_, rfl, p.x, dx9, _, rfl, e1, rfl, _, rfl, r, _, _, _, rfl, rfl, .inl (.inl et), rfl, _, rfl, r, _, _, _, rfl, rfl, .inl (.inl et), rfl, Z, p, m, gs, nm, a, b, rfl, hN, ok.2 a (by simp), ok.2 b (by simp), hl, fun H' k' N' => q H' k' N'⟩
      · refine ⟨_, rfl, r, _, _, _, rfl, rfl, .inl (.inl et), r0, rfl, _, rfl, ite2 (fun z => absurd z (nS (by decide +kernel))) (fun _ => ?_)⟩
        dsimp only [tNext]
        refine ⟨_, rfl, r, _, _, _, rfl, rfl, .inl (.inl et), r0, rfl, _, rfl, ite2 (fun z => absurd z (nS (by decide +kernel))) (fun _ => ?_)⟩
        dsimp only [tNext]
        refine ⟨_, rfl, r, _, _, _, rfl, rfl, .inl (.inl et), r0, rfl, _, rfl, ite2 (fun _ => ?_) (fun z => absurd (decide_eq_true rfl) z)⟩
        exact ⟨_, rfl, p.x, dx9, _, rfl, e1, rfl, _, rfl, r, _, _, _, rfl, rfl, .inl (.inl et), rfl, _, rfl, r, _, _, _, rfl, rfl, .inl (.inl et), rfl, Z, p, m, gs, nm, a, b, rfl, hN, ok.2 a (by simp), ok.2 b (by simp), hl, fun H' k' N' => q H' k' N'⟩
    · obtain ⟨a, rfl⟩ : ∃ a, ws = [a] := by
        match ws, l1 with
        | [a], _ => exact ⟨_, rfl⟩
      refine ⟨_, rfl, r, _, _, _, rfl, rfl, .inl (.inl et), r0, rfl, _, rfl, ite2 (fun z => absurd z (nS (by decide +kernel))) (fun _ => ?_)⟩
      dsimp only [tNext]
      refine ⟨_, rfl, r, _, _, _, rfl, rfl, .inl (.inl et), r0, rfl, _, rfl, ite2 (fun z => absurd z (nS (by decide +kernel))) (fun _ => ?_)⟩
      dsimp only [tNext]
      refine ⟨_, rfl, r, _, _, _, rfl, rfl, .inl (.inl et), r0, rfl, _, rfl, ite2 (fun z => absurd z (nS (by decide +kernel))) (fun _ => ?_)⟩
      dsimp only [tNext]
      refine ⟨_, rfl, r, _, _, _, rfl, rfl, .inl (.inl et), r0, rfl, _, rfl, ite2 (fun _ => ?_) (fun z => absurd (decide_eq_true rfl) z)⟩
      exact ⟨_, rfl, p.x, dx9, _, rfl, e1, rfl, _, rfl, r, _, _, _, rfl, rfl, .inl (.inl et), rfl, Z, p, m, gs, nm, a, rfl, hN, ok.2 a (by simp), hl, fun H' k' N' => q H' k' N'⟩
end
section
variable {P : Program} {w : World} {K : PySem.W.Frag} {mg : Str → Option Value} {base : Heap}
variable {C : Addr} {a1 a2 a3 a4 a5 a6 a7 a8 a9 a10 a11 a12 a13 a14 a15 a16 a17 a18 a19 a20 a21 a22 a23 a24 a25 : Addr} {l1 l2 l3 l4 l5 l6 l7 l8 l9 l10 l11 l12 l13 l14 l15 l16 l17 l18 l19 l20 l21 l22 l23 l24 l25 : FuncData}
/-! ### drawn gates -/
def GsOk (m : Nat) (gs : List Gt) : Prop := ∀ (i : Nat) (g : Gt), gs[i]? = some g → g.ok (m + i)
def RowsAt46 (H : Hp) (R : Addr) (gs : List Gt) : Prop := ∃ ts : List Addr, ts.length = gs.length ∧ H R = some (.lst (ts.map V.ref)) ∧ ∀ (i : Nat) (t : Addr) (g : Gt), ts[i]? = some t → gs[i]? = some g → H t = some (.tup g.row)
def spGatesL : Sp := fun vs H Q _ => ∃ (b : Addr) (c : Int) (m n : Nat), vs = [.ref b, .int (m : Int), .int (n : Int)] ∧ BoxAt c H b ∧ c ≤ 800000000 ∧ 1 ≤ m ∧ m ≤ 100 ∧ n ≤ 200 ∧
  ∀ (R : Addr) (gs : List Gt) (H' : Hp), gs.length = n → GsOk m gs → R ≠ b → H R = none → RowsAt46 H' R gs → BoxAt (c + 10 * n) H' b → Keep b H H' → Q (.ref R) H'
theorem at3s {r : Int} (h0 : 0 ≤ r) (h1 : r < 6) : ∃ w : Str, atI ([.str "both", .str "either", .str "unlike"] : List V) (r % 3) = some (.str w) ∧ (w = "both" ∨ w = "either" ∨ w = "unlike") := by
  have : r = 0 ∨ r = 1 ∨ r = 2 ∨ r = 3 ∨ r = 4 ∨ r = 5 := by omega
  rcases this with z | z | z | z | z | z <;> subst z
  · exact ⟨_, rfl, .inl rfl⟩
  · exact ⟨_, rfl, .inr (.inl rfl)⟩
  · exact ⟨_, rfl, .inr (.inr rfl)⟩
  · exact ⟨_, rfl, .inl rfl⟩
  · exact ⟨_, rfl, .inr (.inl rfl)⟩
  · exact ⟨_, rfl, .inr (.inr rfl)⟩
theorem ok__law_gates (B : Bl mg) (L : LL K mg C a1 a2 a3 a4 a5 a6 a7 a8 a9 a10 a11 a12 a13 a14 a15 a16 a17 a18 a19 a20 a21 a22 a23 a24 a25 l1 l2 l3 l4 l5 l6 l7 l8 l9 l10 l11 l12 l13 l14 l15 l16 l17 l18 l19 l20 l21 l22 l23 l24 l25) : FnOk P w K mg base CX0 2 a5 l5 ["_law_box_here", "_law_wide", "_law_size"] spGatesL := by
  have G__law_take : FnOk P w K mg base CX0 1 a2 l2 ["_law_box_here", "_law_size"] (spTake 1) := (ok_take L.F__law_take L.b__law_take L.m__law_take B 1).mono (by decide)
  refine L.F__law_gates.ok sc__law_gates (fun vs H Q E h => ?_) (fun cdv A outer s H vs Q E hr h => ?_)
  · obtain ⟨b, c, m, n, rfl, _⟩ := h
    rfl
  obtain ⟨b, c, m, n, rfl, hB, hc, m1, m9, hn, q⟩ := h
  refine ⟨_, (pss_cons (ps_set (i := 3) sc__law_gates.nd rfl (.inl rfl) (pe_lst pa_nil))
    (pss_cons (ps_for PassesOwn.never rfl (pi_range1 (by rfl) B.range (pa_cons (pv 2) pa_nil)) (pg_name (i := 4) sc__law_gates.nd rfl (.inl rfl)) (pss_cons (ps_par (by rfl) sc__law_gates.nd (i := 5) (j := 6) rfl rfl (by decide) rfl rfl (pa_cons (pe_op op_add (pv 1) (pv 4)) (pa_cons (pe_call G__law_take hr (by rfl) L.m__law_take L.F__law_take.kp L.b__law_take .nil pass0 (pa_cons (pv 0) (pa_cons pe_int pa_nil))) pa_nil)) (by rfl))
    (pss_cons (ps_par (by rfl) sc__law_gates.nd (i := 7) (j := 8) rfl rfl (by decide) rfl rfl (pa_cons (pe_call G__law_take hr (by rfl) L.m__law_take L.F__law_take.kp L.b__law_take .nil pass0 (pa_cons (pv 0) (pa_cons (pv 5) pa_nil))) (pa_cons (pe_op op_sub (pe_op op_sub (pv 5) pe_int) (pe_call G__law_take hr (by rfl) L.m__law_take L.F__law_take.kp L.b__law_take .nil pass0 (pa_cons (pv 0) (pa_cons (pe_callB (call_min2 rfl) (by rfl) B.min boot_min (pa_cons (pv 5) (pa_cons pe_int pa_nil))) pa_nil)))) pa_nil)) (by rfl))
    (pss_one (ps_if (pt_cmpR op_lt (pv 6) pe_int (nomark _)) (pss_one (ps_expr (pe_bm PySem.F.plainAttrs_list PySem.F.slot_list_append PySem.F.type_list_append mt_append (pv 3) (pa_cons (pe_op op_catT (pe_tup (pa_cons (pe_ix ix_list (pe_lst (pa_cons pe_str (pa_cons pe_str (pa_cons pe_str pa_nil)))) (pe_op op_mod (pv 6) pe_int) (fun _ _ => rfl)) pa_nil)) (pe_ifExp (pt_cmpR op_lt (pv 6) pe_int (nomark _)) (pe_tup (pa_cons (pv 7) (pa_cons (pv 8) pa_nil))) (pe_tup (pa_cons (pv 8) (pa_cons (pv 7) pa_nil))))) pa_nil)))) (pss_one (ps_expr (pe_bm PySem.F.plainAttrs_list PySem.F.slot_list_append PySem.F.type_list_append mt_append (pv 3) (pa_cons (pe_ix ix_list (pe_lst (pa_cons (pe_tup (pa_cons pe_str (pa_cons (pv 8) pa_nil))) (pa_cons (pe_tup (pa_cons pe_str (pa_cons (pe_op op_mod (pv 7) pe_int) pa_nil))) (pa_cons (pe_tup (pa_cons pe_str (pa_cons (pv 8) (pa_cons (pv 8) pa_nil)))) pa_nil)))) (pe_op op_sub (pv 6) pe_int) (fun _ _ => rfl)) pa_nil)))))))))
    (pss_one (ps_ret (pv 3))))), ?_⟩
  refine ⟨Nat.zero_le _, fun R nR => ?_⟩
  have nRb : R ≠ b := (hB.ne nR).symm
  have sR := same_upd (o := .lst []) nR
  try simp only [L2.start, List.map_cons, List.map_nil, List.length_cons, List.length_nil, List.replicate_succ, List.replicate_zero, List.cons_append, List.nil_append, List.set_cons_succ, List.set_cons_zero, Nat.reduceAdd, Nat.reduceSub, Nat.zero_add]
  refine ⟨_, rfl, _, rfl, by omega, by omega, ?_⟩
  rw [Int.toNat_natCast]
  refine for_range (n := n) (fun j σ H5 => ∃ (gs : List Gt) (y4 y5 y6 y7 y8 : Option V), σ = [some (.ref b), some (.int (m : Int)), some (.int (n : Int)), some (.ref R), y4, y5, y6, y7, y8] ∧ gs.length = j ∧ GsOk m gs ∧ RowsAt46 H5 R gs ∧ BoxAt (c + 10 * j) H5 b ∧ Keep b H H5) ⟨[], none, none, none, none, none, rfl, rfl, (fun i g h => by simp at h), ⟨[], rfl, upd_same, fun i t g h => by simp at h⟩, (hB.same sR).mono (by omega), Keep.ofSame sR⟩ ?_ ?_
  · rintro j σ H5 hj ⟨gs, y4, y5, y6, y7, y8, rfl, lg, ok, ⟨ts, lt, eR, hts⟩, B5, k5⟩
    try simp only [L2.start, List.map_cons, List.map_nil, List.length_cons, List.length_nil, List.replicate_succ, List.replicate_zero, List.cons_append, List.nil_append, List.set_cons_succ, List.set_cons_zero, Nat.reduceAdd, Nat.reduceSub, Nat.zero_add]
    refine ⟨_, rfl, _, rfl, _, _, rfl, rfl, _, rfl, b, _, _, rfl, B5, by decide, by decide, by decide, by omega, by decide, fun r1 H6 u1 v1 B6 k6 => ?_⟩
    replace B6 := bx1 B6
    refine ⟨_, _, rfl, ?_⟩
    try simp only [L2.start, List.map_cons, List.map_nil, List.length_cons, List.length_nil, List.replicate_succ, List.replicate_zero, List.cons_append, List.nil_append, List.set_cons_succ, List.set_cons_zero, Nat.reduceAdd, Nat.reduceSub, Nat.zero_add]
    have hM : (m : Int) + (0 + (j : Int)) = ((m + j : Nat) : Int) := by omega
    rw [hM]
    refine ⟨_, rfl, _, rfl, b, _, _, rfl, B6, by omega, by omega, by omega, by omega, by decide, fun r2 H7 u2 v2 B7 k7 => ?_⟩
    replace B7 := bx1 B7
    obtain ⟨mn, emn, n1, n6⟩ : ∃ mn : Int, (if (6 : Int) < ((m + j : Nat) : Int) then (6 : Int) else ((m + j : Nat) : Int)) = mn ∧ 1 ≤ mn ∧ mn ≤ ((m + j : Nat) : Int) ∧ mn ≤ 6 := ⟨_, rfl, by split <;> omega, by split <;> omega⟩
    refine ⟨_, rfl, _, _, rfl, rfl, _, rfl, _, rfl, _, _, rfl, ?_⟩
    rw [emn]
    refine ⟨b, _, _, rfl, B7, by omega, by omega, by omega, by omega, by decide, fun r3 H8 u3 v3 B8 k8 => ?_⟩
    replace B8 := bx1 B8
    refine ⟨_, _, rfl, rfl, ?_⟩
    refine ⟨_, _, rfl, ?_⟩
    try simp only [L2.start, List.map_cons, List.map_nil, List.length_cons, List.length_nil, List.replicate_succ, List.replicate_zero, List.cons_append, List.nil_append, List.set_cons_succ, List.set_cons_zero, Nat.reduceAdd, Nat.reduceSub, Nat.zero_add]
    have kA := (k6.trans k7).trans k8
    have eR8 := kA _ _ eR nRb
    have hts8 : ∀ (i : Nat) (t : Addr) (g : Gt), ts[i]? = some t → gs[i]? = some g → H8 t = some (.tup g.row) := fun i t g hi hg => kA _ _ (hts i t g hi hg) (fun z => by
      obtain ⟨_, _, _, eb, _⟩ := B5
      have := hts i t g hi hg
      rw [z, eb] at this
      cases this)
    obtain ⟨a, ea⟩ : ∃ a : Nat, r2 = (a : Int) := ⟨r2.toNat, by omega⟩
    obtain ⟨a', ea'⟩ : ∃ a : Nat, ((m + j : Nat) : Int) - 1 - r3 = (a : Int) := ⟨(((m + j : Nat) : Int) - 1 - r3).toNat, by omega⟩
    rw [ea', ea]
    have la : a < m + j := by omega
    have la' : a' < m + j := by omega
    have fin : ∀ (g : Gt) (T : Addr) (HT : Hp) (z4 z5 z6 z7 z8 : Option V), g.ok (m + j) → Same H8 HT → HT T = some (.tup g.row) → HT R = some (.lst (ts.map V.ref)) → ∃ (gs : List Gt) (y4 y5 y6 y7 y8 : Option V), [some (.ref b), some (.int (m : Int)), some (.int (n : Int)), some (.ref R), z4, z5, z6, z7, z8] = [some (.ref b), some (.int (m : Int)), some (.int (n : Int)), some (.ref R), y4, y5, y6, y7, y8] ∧ gs.length = j + 1 ∧ GsOk m gs ∧ RowsAt46 (upd HT R (.lst (ts.map V.ref ++ [.ref T]))) R gs ∧ BoxAt (c + 10 * (j + 1 : Nat)) (upd HT R (.lst (ts.map V.ref ++ [.ref T]))) b ∧ Keep b H (upd HT R (.lst (ts.map V.ref ++ [.ref T]))) := fun g T HT z4 z5 z6 z7 z8 hg sT eT eRT => by
      have nTR : T ≠ R := fun z => by
        rw [z, eRT] at eT
        cases eT
      refine ⟨gs ++ [g], _, _, _, _, _, rfl, by rw [List.length_append, lg]; rfl, fun i g' h => ?_, ⟨ts ++ [T], by rw [List.length_append, List.length_append, lt]; rfl, by rw [upd_same, List.map_append]; rfl, fun i t' g' hi hg' => ?_⟩, BoxAt.mono ((B8.same sT).at (upd_ne nRb.symm)) (by omega), fun y u e ny => ?_⟩
      · by_cases d : i < gs.length
        · rw [List.getElem?_append_left d] at h
          exact ok i g' h
        · have i0 : i = gs.length := by
            have := (List.getElem?_eq_some_iff.mp h).1
            rw [List.length_append, List.length_cons, List.length_nil] at this
            omega
          rw [List.getElem?_append_right (by omega), i0, Nat.sub_self] at h
          cases h
          rw [i0, lg]
          exact hg
      · by_cases d : i < ts.length
        · rw [List.getElem?_append_left d] at hi
          rw [List.getElem?_append_left (by omega)] at hg'
          have e1 := sT _ _ (hts8 i t' g' hi hg')
          rw [upd_ne (fun z => by rw [z, eRT] at e1; cases e1)]
          exact e1
        · have i0 : i = ts.length := by
            have := (List.getElem?_eq_some_iff.mp hi).1
            rw [List.length_append, List.length_cons, List.length_nil] at this
            omega
          rw [List.getElem?_append_right (by omega), i0, Nat.sub_self] at hi
          rw [List.getElem?_append_right (by omega), i0, lt, Nat.sub_self] at hg'
          cases hi
          cases hg'
          rw [upd_ne nTR]
          exact eT
      · rw [upd_ne (ne_of_none e nR)]
        exact sT _ _ (kA _ _ (k5 _ _ e ny) ny)
    have lts : (ts.map V.ref).length < sizeLine := by
      rw [List.length_map, lt, lg]
      exact Nat.lt_of_le_of_lt (show j ≤ 200 by omega) (by decide)
    refine ⟨_, rfl, _, _, rfl, rfl, _, rfl, ite2 (fun c6 => ?_) (fun c6 => ?_)⟩
    · have c6 : r1 < 6 := of_decide_eq_true c6
      obtain ⟨k, ek, hk⟩ := at3s u1 c6
      refine ⟨_, rfl, .inl ⟨rfl, _, SqL.of eR8⟩, ?_⟩
      refine ⟨(by show 3 ≤ sizeLine; decide), fun K3 nK3 => ?_⟩
      have s3 := same_upd (o := .lst [.str "both", .str "either", .str "unlike"]) nK3
      refine ⟨_, rfl, _, _, rfl, rfl, (by show (0 : Int) < 3; decide), K3, _, _, _, rfl, rfl, SqL.of upd_same, ek, ?_⟩
      refine ⟨(by show 1 ≤ sizeLine; decide), fun T1 nT1 => ?_⟩
      have s4 := same_upd (o := .tup [.str k]) nT1
      refine ⟨_, rfl, _, _, rfl, rfl, _, rfl, ite2 (fun c3 => ?_) (fun c3 => ?_)⟩
      · refine ⟨_, rfl, _, rfl, (by show 2 ≤ sizeLine; decide), fun T2 nT2 => ?_⟩
        have s5 := same_upd (o := .tup [.int (a : Int), .int (a' : Int)]) nT2
        refine ⟨T1, T2, _, _, rfl, rfl, .inl (.inl (s5 _ _ upd_same)), .inl (.inl upd_same), (fun z => nomatch z), (by show 3 ≤ sizeLine; decide), (fun z => nomatch z), fun _ T nT => ?_⟩
        have s6 := same_upd (o := .tup ([.str k] ++ [.int (a : Int), .int (a' : Int)])) nT
        have sZ := ((s3.trans s4).trans s5).trans s6
        refine ⟨R, _, _, rfl, rfl, sZ _ _ eR8, lts, ?_⟩
        refine fin (.w k [a, a']) T _ _ _ _ _ _ ⟨.inl ⟨hk, rfl⟩, fun x hx => ?_⟩ sZ upd_same (sZ _ _ eR8)
        simp only [List.mem_cons, List.not_mem_nil, or_false] at hx
        rcases hx with z | z <;> rw [z] <;> assumption
      · refine ⟨_, rfl, _, rfl, (by show 2 ≤ sizeLine; decide), fun T2 nT2 => ?_⟩
        have s5 := same_upd (o := .tup [.int (a' : Int), .int (a : Int)]) nT2
        refine ⟨T1, T2, _, _, rfl, rfl, .inl (.inl (s5 _ _ upd_same)), .inl (.inl upd_same), (fun z => nomatch z), (by show 3 ≤ sizeLine; decide), (fun z => nomatch z), fun _ T nT => ?_⟩
        have s6 := same_upd (o := .tup ([.str k] ++ [.int (a' : Int), .int (a : Int)])) nT
        have sZ := ((s3.trans s4).trans s5).trans s6
        refine ⟨R, _, _, rfl, rfl, sZ _ _ eR8, lts, ?_⟩
        refine fin (.w k [a', a]) T _ _ _ _ _ _ ⟨.inl ⟨hk, rfl⟩, fun x hx => ?_⟩ sZ upd_same (sZ _ _ eR8)
        simp only [List.mem_cons, List.not_mem_nil, or_false] at hx
        rcases hx with z | z <;> rw [z] <;> assumption
    · have c6 : ¬ r1 < 6 := fun z => c6 (decide_eq_true z)
      refine ⟨_, rfl, .inl ⟨rfl, _, SqL.of eR8⟩, ?_⟩
      refine ⟨_, rfl, (by show 2 ≤ sizeLine; decide), fun P1 nP1 => ?_⟩
      have s1 := same_upd (o := .tup [.str "other", .int (a' : Int)]) nP1
      refine ⟨_, rfl, _, _, rfl, rfl, (by show (0 : Int) < 2; decide), (by show 2 ≤ sizeLine; decide), fun P2 nP2 => ?_⟩
      have s2 := same_upd (o := .tup [.str "fixed", .int ((a : Int) % 2)]) nP2
      refine ⟨_, rfl, _, rfl, (by show 3 ≤ sizeLine; decide), fun P3 nP3 => ?_⟩
      have s3 := same_upd (o := .tup [.str "unlike", .int (a' : Int), .int (a' : Int)]) nP3
      refine ⟨(by show 3 ≤ sizeLine; decide), fun PL nPL => ?_⟩
      have s4 := same_upd (o := .lst [.ref P1, .ref P2, .ref P3]) nPL
      have sZ := ((s1.trans s2).trans s3).trans s4
      have g1 := s4 _ _ (s3 _ _ (s2 _ _ (upd_same (H := H8) (a := P1) (o := .tup [.str "other", .int (a' : Int)]))))
      have g2 := s4 _ _ (s3 _ _ (upd_same (H := upd H8 P1 (.tup [.str "other", .int (a' : Int)])) (a := P2) (o := .tup [.str "fixed", .int ((a : Int) % 2)])))
      have g3 := s4 _ _ (upd_same (H := upd (upd H8 P1 (.tup [.str "other", .int (a' : Int)])) P2 (.tup [.str "fixed", .int ((a : Int) % 2)])) (a := P3) (o := .tup [.str "unlike", .int (a' : Int), .int (a' : Int)]))
      have r678 : r1 - 6 = 0 ∨ r1 - 6 = 1 ∨ r1 - 6 = 2 := by omega
      refine ⟨_, rfl, _, _, rfl, rfl, ?_⟩
      dsimp only
      rcases r678 with z | z | z <;> rw [z]
      · refine ⟨PL, _, _, _, rfl, rfl, SqL.of upd_same, rfl, ?_⟩
        refine ⟨R, _, _, rfl, rfl, sZ _ _ eR8, lts, ?_⟩
        exact fin (.w "other" [a']) P1 _ _ _ _ _ _ ⟨.inr ⟨rfl, rfl⟩, fun x hx => by rw [List.mem_singleton.mp hx]; exact la'⟩ sZ g1 (sZ _ _ eR8)
      · refine ⟨PL, _, _, _, rfl, rfl, SqL.of upd_same, rfl, ?_⟩
        refine ⟨R, _, _, rfl, rfl, sZ _ _ eR8, lts, ?_⟩
        exact fin (.fi (a % 2)) P2 _ _ _ _ _ _ (show a % 2 ≤ 1 by omega) sZ g2 (sZ _ _ eR8)
      · refine ⟨PL, _, _, _, rfl, rfl, SqL.of upd_same, rfl, ?_⟩
        refine ⟨R, _, _, rfl, rfl, sZ _ _ eR8, lts, ?_⟩
        refine fin (.w "unlike" [a', a']) P3 _ _ _ _ _ _ ⟨.inl ⟨.inr (.inr rfl), rfl⟩, fun x hx => ?_⟩ sZ g3 (sZ _ _ eR8)
        simp only [List.mem_cons, List.not_mem_nil, or_false] at hx
        rcases hx with z | z <;> rw [z] <;> assumption
  · rintro σ H5 ⟨gs, y4, y5, y6, y7, y8, rfl, lg, ok, hR, B5, k5⟩
    exact ⟨_, rfl, q R gs _ lg ok nRb nR hR B5 k5⟩

def spDeps : Sp := fun vs H Q _ => ∃ (R : Addr) (m : Nat) (gs : List Gt), vs = [.ref R, .int (m : Int)] ∧ RowsAt46 H R gs ∧ GsOk m gs ∧ m ≤ 100 ∧ gs.length ≤ 200 ∧
  ∀ (D : Addr) (H' : Hp), Same H H' → H D = none → H' D = some (.lst ((dps m gs).map V.int)) → Q (.ref D) H'
theorem rep_flat (x : V) : ∀ n : Nat, (List.replicate n [x]).flatten = List.replicate n x
  | 0 => rfl
  | n + 1 => by rw [List.replicate_succ, List.flatten_cons, rep_flat x n]; rfl
theorem big_lt {n : Nat} (h : n ≤ 500000) : n < sizeLine := Nat.lt_of_le_of_lt h (by decide)
theorem atD {m a : Nat} {gs : List Gt} (h : a < m + gs.length) : atI ((dps m gs).map V.int) (a : Int) = some (.int ((dps m gs).getD a 0)) := atI_nat (by
  rw [List.getElem?_map, List.getElem?_eq_getElem (by rw [dps_len]; exact h)]
  simp [List.getD, List.getElem?_eq_getElem (show a < (dps m gs).length by rw [dps_len]; exact h)])
theorem cut_row (k : Str) (ws : List Nat) : cutV (Gt.w k ws).row (some 1) none = nts ws ∧ ¬ (HT.sIx (Gt.w k ws).row.length 0 (some 1) = 0 ∧ HT.sIx (Gt.w k ws).row.length (Gt.w k ws).row.length none = (Gt.w k ws).row.length) := by
  have l : (Gt.w k ws).row.length = ws.length + 1 := by
    show (V.str k :: nts ws).length = _
    rw [List.length_cons, nts_len]
  have e1 : HT.sIx (Gt.w k ws).row.length 0 (some 1) = 1 := by
    rw [show (1 : Int) = ((1 : Nat) : Int) from rfl, HT.sIx_nat, l]
    omega
  refine ⟨?_, fun z => by rw [e1] at z; exact absurd z.1 (by decide)⟩
  unfold cutV
  rw [e1, HT.sIx_none, l]
  show ((V.str k :: nts ws).drop 1).take (ws.length + 1 - 1) = _
  rw [List.drop_one, List.tail_cons, List.take_of_length_le (by rw [nts_len]; omega)]
theorem ok__law_depths (B : Bl mg) (L : LL K mg C a1 a2 a3 a4 a5 a6 a7 a8 a9 a10 a11 a12 a13 a14 a15 a16 a17 a18 a19 a20 a21 a22 a23 a24 a25 l1 l2 l3 l4 l5 l6 l7 l8 l9 l10 l11 l12 l13 l14 l15 l16 l17 l18 l19 l20 l21 l22 l23 l24 l25) : FnOk P w K mg base CX0 1 a7 l7 ["_law_rows", "_law_many"] spDeps := by
  refine L.F__law_depths.ok sc__law_depths (fun vs H Q E h => ?_) (fun cdv A outer s H vs Q E hr h => ?_)
  · obtain ⟨R, m, gs, rfl, _⟩ := h
    rfl
  obtain ⟨R, m, gs, rfl, ⟨ts, lt, eR, hts⟩, ok, hm, hg, q⟩ := h
  refine ⟨_, (pss_cons (ps_set (i := 2) sc__law_depths.nd rfl (.inr rfl) (pe_op op_rep (pe_lst (pa_cons pe_int pa_nil)) (pv 1)))
    (pss_cons (ps_for PassesOwn.never rfl (pi_list (pv 0)) (pg_name (i := 3) sc__law_depths.nd rfl (.inl rfl)) (pss_one (ps_expr (pe_bm PySem.F.plainAttrs_list PySem.F.slot_list_append PySem.F.type_list_append mt_append (pv 2) (pa_cons (pe_ifExp (pt_cmpR op_eq (pe_ix ix_tup (pv 3) pe_int (fun _ _ => rfl)) pe_str (nomark _)) pe_int (pe_op op_add pe_int (pe_callB (cr_max rfl) (by rfl) B.max boot_max (pa_cons (pe_lc (own := [("_law_wire", 4)]) (by rfl) sc__law_depths.nd (pi_tup (pe_slice sl_tup (pv 3) (po_some pe_int) po_none)) (blkOk_by (own := [("_law_wire", 4)]) (N := ["_law_rows", "_law_many", "_law_found", "_law_row", "_law_wire"]) (sc := defScope s__law_depths) (by decide +kernel)) (fun _ _ _ _ _ => pg_name (i := 4) sc__law_depths.nd rfl (Or.inl rfl)) (fun _ _ _ _ _ => pts_nil) (fun _ _ _ _ _ => (pe_ix (ix_listK (K := K)) (pv 2) (pv 4) (fun _ _ => rfl)))) pa_nil)))) pa_nil)))))
    (pss_one (ps_ret (pv 2))))), ?_⟩
  refine ⟨(by show 1 ≤ sizeLine; decide), fun L1 nL1 => ?_⟩
  have s1 := same_upd (o := .lst [.int 0]) nL1
  have e1 : (upd H L1 (.lst [.int 0])) L1 = some (.lst [.int 0]) := upd_same
  generalize upd H L1 (.lst [.int 0]) = H1 at *
  refine ⟨_, rfl, L1, _, _, rfl, rfl, e1, by omega, by omega, by rw [Int.toNat_natCast, List.length_singleton]; exact Nat.le_of_lt (big_lt (by omega)), fun L2 nL2 => ?_⟩
  rw [Int.toNat_natCast, rep_flat, show List.replicate m (V.int 0) = (dps m []).map V.int from by
    show _ = (List.replicate m (0 : Int)).map V.int
    rw [List.map_replicate]]
  have s2 := same_upd (o := .lst ((dps m []).map V.int)) nL2
  have e2 : (upd H1 L2 (.lst ((dps m []).map V.int))) L2 = some (.lst ((dps m []).map V.int)) := upd_same
  have s02 := s1.trans s2
  have nL2H : H L2 = none := by
    cases e : H L2 with
    | none => rfl
    | some o => rw [s1 _ _ e] at nL2; cases nL2
  generalize upd H1 L2 (.lst ((dps m []).map V.int)) = H2 at *
  try simp only [L2.start, List.map_cons, List.map_nil, List.length_cons, List.length_nil, List.replicate_succ, List.replicate_zero, List.cons_append, List.nil_append, List.set_cons_succ, List.set_cons_zero, Nat.reduceAdd, Nat.reduceSub, Nat.zero_add]
  refine ⟨_, rfl, R, rfl, ⟨_, SqL.of (s02 _ _ eR)⟩, ?_⟩
  refine for_it (walk_list (K := K) (a := R) (xs := ts.map V.ref)) (fun j σ H9 => ∃ (y3 y4 : Option V), σ = [some (.ref R), some (.int (m : Int)), some (.ref L2), y3, y4] ∧ Same H H9 ∧ H9 L2 = some (.lst ((dps m (gs.take j)).map V.int))) ⟨_, _, rfl, s02, e2⟩ (fun j σ H9 _ ⟨_, _, _, s9, _⟩ => SqL.of (s9 _ _ eR)) ?_ ?_
  · rintro j z σ H9 H10 hj ⟨y3, y4, rfl, s9, eL⟩ ⟨rfl, hz⟩
    rw [List.getElem?_map] at hz
    have hj' : j < ts.length := by
      rw [List.length_map] at hj
      exact hj
    rw [List.getElem?_eq_getElem hj'] at hz
    cases hz
    have hgj : gs[j]? = some (gs[j]'(by omega)) := List.getElem?_eq_getElem (by omega)
    have et := s9 _ _ (hts j _ _ (List.getElem?_eq_getElem hj') hgj)
    have okj := ok j _ hgj
    have lj : (gs.take j).length = j := by
      rw [List.length_take]
      omega
    have tk : gs.take (j + 1) = gs.take j ++ [gs[j]'(by omega)] := by
      rw [List.take_add_one, hgj]
      rfl
    have ll : ((dps m (gs.take j)).map V.int).length < sizeLine := by rw [List.length_map, dps_len, lj]; exact big_lt (by omega)
    generalize gs[j]'(by omega) = g at et okj tk
    generalize ts[j] = t at *
    have fin : ∀ {G : Hp}, Same H10 G → ∃ u3 u4 : Option V, [some (V.ref R), some (V.int (m : Int)), some (V.ref L2), some (V.ref t), y4] = [some (.ref R), some (.int (m : Int)), some (.ref L2), u3, u4] ∧ Same H (upd G L2 (.lst ((dps m (gs.take j)).map V.int ++ [.int (dep (dps m (gs.take j)) g)]))) ∧ (upd G L2 (.lst ((dps m (gs.take j)).map V.int ++ [.int (dep (dps m (gs.take j)) g)]))) L2 = some (.lst ((dps m (gs.take (j + 1))).map V.int)) := fun {G} sG => ⟨_, _, rfl, fun y u e => by
      rw [upd_ne (ne_of_none e nL2H)]
      exact sG _ _ (s9 _ _ e), by rw [upd_same, tk, dps_snoc, List.map_append]; rfl⟩
    dsimp only [gName]
    try simp only [L2.start, List.map_cons, List.map_nil, List.length_cons, List.length_nil, List.replicate_succ, List.replicate_zero, List.cons_append, List.nil_append, List.set_cons_succ, List.set_cons_zero, Nat.reduceAdd, Nat.reduceSub, Nat.zero_add]
    cases g with
    | fi b =>
      have r0 : atI (Gt.fi b).row 0 = some (.str "fixed") := rfl
      refine ⟨_, rfl, .inl ⟨rfl, _, SqL.of eL⟩, ?_⟩
      refine ⟨_, rfl, t, _, _, _, rfl, rfl, .inl (.inl et), r0, rfl, _, rfl, ite2 (fun _ => ?_) (fun z => absurd (decide_eq_true rfl) z)⟩
      exact ⟨L2, _, _, rfl, rfl, eL, ll, fin (Same.refl _)⟩
    | w k ws =>
      have r0 : atI (Gt.w k ws).row 0 = some (.str k) := atI_nat (j := 0) rfl
      have nS : ∀ {x y : Str}, ¬ x = y → ¬ decide (V.str x = V.str y) = true := fun h z => h (V.str.inj (of_decide_eq_true z))
      have kf : ¬ k = "fixed" := by
        rcases okj.1 with ⟨hk, _⟩ | ⟨hk, _⟩
        · rcases hk with hk | hk | hk <;> rw [hk] <;> decide +kernel
        · rw [hk]; decide +kernel
      have w0 : ws ≠ [] := by
        rcases okj.1 with ⟨_, hl⟩ | ⟨_, hl⟩ <;> (intro z; rw [z] at hl; cases hl)
      obtain ⟨cr, cn⟩ := cut_row k ws
      have hwj : ∀ a ∈ ws, a < m + (gs.take j).length := fun a ha => by rw [lj]; exact okj.2 a ha
      refine ⟨_, rfl, .inl ⟨rfl, _, SqL.of eL⟩, ?_⟩
      refine ⟨_, rfl, t, _, _, _, rfl, rfl, .inl (.inl et), r0, rfl, _, rfl, ite2 (fun z => absurd z (nS kf)) (fun _ => ?_)⟩
      refine ⟨_, rfl, _, rfl, t, _, rfl, .inl (.inl et), cn, fun T nT => ?_⟩
      dsimp only
      rw [cr]
      have sT := same_upd (o := .tup (nts ws)) nT
      have eT : (upd H10 T (.tup (nts ws))) T = some (.tup (nts ws)) := upd_same
      have eL5 := sT _ _ eL
      generalize upd H10 T (.tup (nts ws)) = H5 at *
      refine ⟨T, rfl, ⟨_, .inl (.inl eT)⟩, fun D nD => ?_⟩
      refine lc_it (walk_tup (K := K) (a := T) (xs := nts ws)) (fun i H7 => Same H5 H7 ∧ H7 D = some (.lst ((ws.take i).map fun a => V.int ((dps m (gs.take j)).getD a 0)))) ⟨same_upd nD, upd_same⟩ (fun i H7 _ ⟨s7, _⟩ => .inl (.inl (s7 _ _ eT))) ?_ ?_
      · rintro i z H7 H8 hi ⟨s7, eD⟩ ⟨rfl, hz⟩
        obtain ⟨a, ha, rfl⟩ := nts_at hz
        have la := hwj a (List.mem_of_getElem? ha)
        dsimp only [gName]
        refine ⟨rfl, yesT ?_⟩
        try simp only [L2.start, List.map_cons, List.map_nil, List.length_cons, List.length_nil, List.replicate_succ, List.replicate_zero, List.cons_append, List.nil_append, List.set_cons_succ, List.set_cons_zero, Nat.reduceAdd, Nat.reduceSub, Nat.zero_add]
        refine ⟨_, rfl, _, rfl, L2, _, _, _, rfl, rfl, SqL.of (s7 _ _ eL5), atD la, ?_⟩
        refine ⟨_, eD, ?_, fun y u e => ?_, ?_⟩
        · rw [List.length_map, List.length_take]
          have : ws.length ≤ 2 := by rcases okj.1 with ⟨_, hl⟩ | ⟨_, hl⟩ <;> omega
          exact big_lt (by omega)
        · rw [upd_ne (ne_of_none e nD)]
          exact s7 _ _ e
        · rw [upd_same, List.take_add_one, ha, List.map_append]
          rfl
      rintro H7 ⟨s7, eD⟩
      rw [nts_len, List.take_length] at eD
      have mx1 : ∀ y ∈ ws.map (fun a => (dps m (gs.take j)).getD a 0), 0 ≤ y := fun y hy => by
        obtain ⟨a, ha, rfl⟩ := List.mem_map.mp hy
        have la := hwj a ha
        have := dps_nn m (gs.take j) ((dps m (gs.take j))[a]'(by rw [dps_len]; exact la)) (List.getElem_mem _)
        simp only [List.getD, List.getElem?_eq_getElem (show a < (dps m (gs.take j)).length by rw [dps_len]; exact la), Option.getD_some]
        exact this
      refine ⟨D, ws.map (fun a => (dps m (gs.take j)).getD a 0), rfl, SqL.of (by rw [List.map_map]; exact eD), by rw [List.length_map]; exact List.length_pos_iff.mpr w0, fun M hM hL => ?_⟩
      have eM := mx_is hM hL mx1
      have ed : (1 + M : Int) = dep (dps m (gs.take j)) (.w k ws) := by
        show _ = 1 + mx _
        rw [eM]
      refine ⟨_, _, rfl, rfl, ?_⟩
      dsimp only
      rw [ed]
      exact ⟨L2, _, _, rfl, rfl, s7 _ _ eL5, ll, fin (sT.trans s7)⟩
  · rintro σ H9 ⟨y3, y4, rfl, s9, eL⟩
    rw [List.length_map, List.take_of_length_le (by omega)] at eL
    exact ⟨_, rfl, q L2 H9 s9 nL2H eL⟩
end
section
variable {P : Program} {w : World} {K : PySem.W.Frag} {mg : Str → Option Value} {base : Heap}
variable {C : Addr} {a1 a2 a3 a4 a5 a6 a7 a8 a9 a10 a11 a12 a13 a14 a15 a16 a17 a18 a19 a20 a21 a22 a23 a24 a25 : Addr} {l1 l2 l3 l4 l5 l6 l7 l8 l9 l10 l11 l12 l13 l14 l15 l16 l17 l18 l19 l20 l21 l22 l23 l24 l25 : FuncData}
def SG : Str := "abcdefghijklmnoprstuvwxyzABCXYZ 0123456789_-.:/~!\"#"
theorem SG51 : SG.length = 51 := by decide +kernel
theorem SGl : SG.cps.toList.length = 51 := by decide +kernel
theorem atSG {r : Int} (h0 : 0 ≤ r) (h1 : r < 51) : ∃ c, atI SG.cps.toList r = some c := by
  obtain ⟨n, rfl⟩ : ∃ n : Nat, r = (n : Int) := ⟨r.toNat, by omega⟩
  exact ⟨_, atI_nat (List.getElem?_eq_getElem (by rw [SGl]; omega))⟩
theorem keepN {b a : Addr} {H H' : Hp} (k : Keep b H H') (n : a ≠ b) (h : H' a = none) : H a = none := by
  cases e : H a with
  | none => rfl
  | some o =>
    rw [k _ _ e n] at h
    cases h
theorem joinL_len : ∀ ys : List (List Nat), (TL.joinL [] ys).length = (ys.map List.length).sum
  | [] => rfl
  | [p] => by simp [TL.joinL]
  | p :: q :: r => by
    show (p ++ ([] ++ TL.joinL [] (q :: r))).length = _
    rw [List.nil_append, List.length_append, joinL_len (q :: r)]
    rfl
def spNmsL : Sp := fun vs H Q _ => ∃ (b : Addr) (c : Int) (n : Nat), vs = [.ref b, .int (n : Int)] ∧ BoxAt c H b ∧ c ≤ 800000000 ∧ n ≤ 20 ∧
  ∀ (ss : List Str) (D : Addr) (H' : Hp), ss.length ≤ n + 1 → (∀ s ∈ ss, s.length ≤ 10) → H D = none → H' D = some (.lst (ss.map V.str)) → BoxAt (c + 40 + 20 * n) H' b → Keep b H H' → Q (.ref D) H'
theorem ok__law_names (B : Bl mg) (L : LL K mg C a1 a2 a3 a4 a5 a6 a7 a8 a9 a10 a11 a12 a13 a14 a15 a16 a17 a18 a19 a20 a21 a22 a23 a24 a25 l1 l2 l3 l4 l5 l6 l7 l8 l9 l10 l11 l12 l13 l14 l15 l16 l17 l18 l19 l20 l21 l22 l23 l24 l25) : FnOk P w K mg base CX0 2 a4 l4 ["_law_box_here", "_law_size"] spNmsL := by
  have G__law_take : FnOk P w K mg base CX0 1 a2 l2 ["_law_box_here", "_law_size"] (spTake 1) := (ok_take L.F__law_take L.b__law_take L.m__law_take B 1).mono (by decide)
  refine L.F__law_names.ok sc__law_names (fun vs H Q E h => ?_) (fun cdv A outer s H vs Q E hr h => ?_)
  · obtain ⟨b, c, n, rfl, _⟩ := h
    rfl
  obtain ⟨b, c, n, rfl, hB, hc, hn, q⟩ := h
  refine ⟨_, (pss_cons (ps_set (i := 2) sc__law_names.nd rfl (.inr rfl) pe_str)
    (pss_cons (ps_setLc (i := 3) (own := [("_law_k", 5)]) (by rfl) sc__law_names.nd rfl rfl (sw_true rfl rfl rfl (by decide +kernel)) (pi_range1 (by rfl) B.range (pa_cons (pe_call G__law_take hr (by rfl) L.m__law_take L.F__law_take.kp L.b__law_take .nil pass0 (pa_cons (pv 0) (pa_cons pe_int pa_nil))) pa_nil)) (blkOk_by (own := [("_law_k", 5)]) (N := ["_law_box_here", "_law_size", "_law_signs", "_law_first", "_law_found", "_law_k", "_law_last"]) (sc := defScope s__law_names) (by decide +kernel)) (fun _ _ _ _ _ => pg_name (i := 5) sc__law_names.nd rfl (Or.inl rfl)) (fun _ _ _ _ _ => pts_nil) (fun _ _ _ _ _ => (pe_ix ix_str (pv 2) (pe_call G__law_take hr (by rfl) L.m__law_take L.F__law_take.kp L.b__law_take .nil pass0 (pa_cons (pv 0) (pa_cons (pe_callB call_len_str (by rfl) B.len PySem.boot_len (pa_cons (pv 2) pa_nil)) pa_nil))) (fun _ _ => rfl))))
    (pss_cons (ps_set (i := 4) sc__law_names.nd rfl (.inl rfl) (pe_lst pa_nil))
    (pss_cons (ps_for PassesOwn.never rfl (pi_range1 (by rfl) B.range (pa_cons (pv 1) pa_nil)) (pg_name (i := 5) sc__law_names.nd rfl (.inl rfl)) (pss_cons (ps_set (i := 6) sc__law_names.nd rfl (.inl rfl) (pe_op op_mul_str (pe_ix ix_str (pv 2) (pe_op op_add pe_int (pe_call G__law_take hr (by rfl) L.m__law_take L.F__law_take.kp L.b__law_take .nil pass0 (pa_cons (pv 0) (pa_cons pe_int pa_nil)))) (fun _ _ => rfl)) (pe_call G__law_take hr (by rfl) L.m__law_take L.F__law_take.kp L.b__law_take .nil pass0 (pa_cons (pv 0) (pa_cons pe_int pa_nil)))))
    (pss_one (ps_expr (pe_bm PySem.F.plainAttrs_list PySem.F.slot_list_append PySem.F.type_list_append mt_append (pv 4) (pa_cons (pe_op op_add_str (pe_op op_add_str (pe_op op_add_str (pe_bm PySem.F.plainAttrs_str PySem.F.slot_str_join PySem.F.type_str_join mt_join pe_str (pa_cons (pv 3) pa_nil)) (pe_ix ix_str (pv 2) (pe_op op_mod (pv 5) pe_int) (fun _ _ => rfl))) (pe_op op_mul_str pe_str (pe_op op_fdiv (pv 5) pe_int))) (pv 6)) pa_nil))))))
    (pss_one (ps_ret (pe_op op_cat (pe_op op_rep (pe_lst (pa_cons pe_str pa_nil)) (pe_callTy call_int1 (by rfl) B.int PyProof.Rows.boot_int (pa_cons (pe_and (pe_cmpR op_gt (pv 1) pe_int (nomark _)) (pe_one (pe_cmpR op_eq (pe_call G__law_take hr (by rfl) L.m__law_take L.F__law_take.kp L.b__law_take .nil pass0 (pa_cons (pv 0) (pa_cons pe_int pa_nil))) pe_int (nomark _)))) pa_nil))) (pv 4)))))))), ?_⟩
  have sg : (Str.ofString "abcdefghijklmnoprstuvwxyzABCXYZ 0123456789_-.:/~!\"#") = SG := rfl
  rw [sg]
  try simp only [L2.start, List.map_cons, List.map_nil, List.length_cons, List.length_nil, List.replicate_succ, List.replicate_zero, List.cons_append, List.nil_append, List.set_cons_succ, List.set_cons_zero, Nat.reduceAdd, Nat.reduceSub, Nat.zero_add]
  refine ⟨_, rfl, b, _, _, rfl, hB, by decide, by decide, by decide, by omega, by decide, fun r1 H1 u1 v1 B1 k1 => ?_⟩
  replace B1 := bx1 B1
  obtain ⟨j1, rfl⟩ : ∃ j1 : Nat, r1 = (j1 : Int) := ⟨r1.toNat, by omega⟩
  refine ⟨_, rfl, by omega, by omega, fun D nD => ?_⟩
  have nDb : D ≠ b := (B1.ne nD).symm
  rw [Int.toNat_natCast]
  refine lc_range (n := j1) (fun j H9 => ∃ cs : List Nat, cs.length = j ∧ Keep b H1 H9 ∧ BoxAt (c + 2 + 2 * j) H9 b ∧ H9 D = some (.lst ((cs.map fun c => SX.S [c]).map V.str))) ⟨[], rfl, Keep.new nD, (B1.same (same_upd nD)).mono (by omega), upd_same⟩ ?_ ?_
  · rintro j H9 hj ⟨cs, lc, k9, B9, eD⟩
    dsimp only [gName]
    refine ⟨rfl, yesT ?_⟩
    try simp only [L2.start, List.map_cons, List.map_nil, List.length_cons, List.length_nil, List.replicate_succ, List.replicate_zero, List.cons_append, List.nil_append, List.set_cons_succ, List.set_cons_zero, Nat.reduceAdd, Nat.reduceSub, Nat.zero_add]
    refine ⟨_, rfl, _, rfl, _, rfl, SG, rfl, by rw [SG51]; decide, ?_⟩
    rw [SG51]
    refine ⟨b, _, _, rfl, B9, by decide, by decide, by decide, by omega, by decide, fun r2 H2 u2 v2 B2 k2 => ?_⟩
    replace B2 := bx1 B2
    obtain ⟨ch, hch⟩ := atSG u2 v2
    refine ⟨SG, r2, ch, rfl, rfl, by rw [SG51]; decide, hch, ?_⟩
    refine ⟨_, k2 _ _ eD nDb, by rw [List.length_map, List.length_map, lc]; exact big_lt (by omega), cs ++ [ch], by rw [List.length_append, lc]; rfl, fun y o e ny => ?_, BoxAt.mono (B2.at (upd_ne nDb.symm)) (by omega), by rw [upd_same, List.map_append, List.map_append]; rfl⟩
    rw [upd_ne (ne_of_none e nD)]
    exact k2 _ _ (k9 _ _ e ny) ny
  rintro H9 ⟨cs, lc, k9, B9, eD⟩
  dsimp only [gName]
  try simp only [L2.start, List.map_cons, List.map_nil, List.length_cons, List.length_nil, List.replicate_succ, List.replicate_zero, List.cons_append, List.nil_append, List.set_cons_succ, List.set_cons_zero, Nat.reduceAdd, Nat.reduceSub, Nat.zero_add]
  have k09 := k1.trans k9
  have nDH : H D = none := by
    cases e : H D with
    | none => rfl
    | some o =>
      rw [k1 _ _ e nDb] at nD
      cases nD
  refine ⟨Nat.zero_le _, fun F nF => ?_⟩
  have nFb : F ≠ b := (B9.ne nF).symm
  have nFD : F ≠ D := fun z => by rw [z, eD] at nF; cases nF
  have nFH : H F = none := by
    cases e : H F with
    | none => rfl
    | some o =>
      rw [k09 _ _ e nFb] at nF
      cases nF
  have sF := same_upd (o := .lst []) nF
  have eF : (upd H9 F (.lst [])) F = some (.lst []) := upd_same
  have BF := B9.same sF
  have eDF := sF _ _ eD
  have k0F : Keep b H _ := k09.trans (Keep.ofSame sF)
  generalize upd H9 F (.lst []) = HF at *
  try simp only [L2.start, List.map_cons, List.map_nil, List.length_cons, List.length_nil, List.replicate_succ, List.replicate_zero, List.cons_append, List.nil_append, List.set_cons_succ, List.set_cons_zero, Nat.reduceAdd, Nat.reduceSub, Nat.zero_add]
  refine ⟨_, rfl, _, rfl, by omega, by omega, ?_⟩
  rw [Int.toNat_natCast]
  refine for_range (n := n) (fun j σ H5 => ∃ (ss : List Str) (y5 y6 : Option V), σ = [some (.ref b), some (.int (n : Int)), some (.str SG), some (.ref D), some (.ref F), y5, y6] ∧ ss.length = j ∧ (∀ s ∈ ss, s.length ≤ 10) ∧ H5 F = some (.lst (ss.map V.str)) ∧ H5 D = some (.lst ((cs.map fun c => SX.S [c]).map V.str)) ∧ BoxAt (c + 10 + 10 * j) H5 b ∧ Keep b H H5) ⟨[], _, _, rfl, rfl, (fun _ z => nomatch z), eF, eDF, BF.mono (by omega), k0F⟩ ?_ ?_
  · rintro j σ H5 hj ⟨ss, y5, y6, rfl, lss, hss, eF5, eD5, B5, k5⟩
    dsimp only [gName]
    try simp only [L2.start, List.map_cons, List.map_nil, List.length_cons, List.length_nil, List.replicate_succ, List.replicate_zero, List.cons_append, List.nil_append, List.set_cons_succ, List.set_cons_zero, Nat.reduceAdd, Nat.reduceSub, Nat.zero_add]
    refine ⟨_, rfl, _, rfl, b, _, _, rfl, B5, by decide, by decide, by decide, by omega, by decide, fun r3 H3 u3 v3 B3 k3 => ?_⟩
    replace B3 := bx1 B3
    obtain ⟨ch, hch⟩ := atSG (r := 25 + r3) (by omega) (by omega)
    refine ⟨_, _, rfl, rfl, SG, _, ch, rfl, rfl, by rw [SG51]; decide, hch, ?_⟩
    refine ⟨_, rfl, b, _, _, rfl, B3, by decide, by decide, by decide, by omega, by decide, fun r4 H4 u4 v4 B4 k4 => ?_⟩
    replace B4 := bx1 B4
    obtain ⟨n4, rfl⟩ : ∃ n4 : Nat, r4 = (n4 : Int) := ⟨r4.toNat, by omega⟩
    have l1 : (⟨#[ch]⟩ : Str).length = 1 := rfl
    refine ⟨⟨#[ch]⟩, n4, rfl, rfl, by rw [l1]; decide, by omega, ?_⟩
    have ll : (strRep ⟨#[ch]⟩ n4).length ≤ 1 := by rw [strRep_len, l1]; omega
    generalize strRep ⟨#[ch]⟩ n4 = last at *
    have k34 := k3.trans k4
    have eF4 := k34 _ _ eF5 nFb
    have eD4 := k34 _ _ eD5 nDb
    dsimp only [gName]
    try simp only [L2.start, List.map_cons, List.map_nil, List.length_cons, List.length_nil, List.replicate_succ, List.replicate_zero, List.cons_append, List.nil_append, List.set_cons_succ, List.set_cons_zero, Nat.reduceAdd, Nat.reduceSub, Nat.zero_add]
    refine ⟨_, rfl, .inl ⟨rfl, _, SqL.of eF4⟩, ?_⟩
    have eJ : Txt.join (Str.ofString "") (cs.map fun c => SX.S [c]) = SX.S (TL.joinL [] (cs.map fun c => [c])) := by
      have := SX.join_S [] (cs.map fun c => [c])
      rw [List.map_map] at this
      exact this
    have lJ : (SX.S (TL.joinL [] (cs.map fun c => [c]))).length ≤ 3 := by
      show (TL.joinL [] (cs.map fun c => [c])).toArray.size ≤ 3
      rw [List.size_toArray, joinL_len, List.map_map]
      have : ((List.length ∘ fun c => [c]) : Nat → Nat) = fun _ => 1 := rfl
      rw [this]
      have k : ∀ l : List Nat, (l.map fun _ => 1).sum = l.length := by
        intro l
        induction l with
        | nil => rfl
        | cons a l ih => rw [List.map_cons, List.sum_cons, ih, List.length_cons]; omega
      rw [k]
      omega
    have lsum : ((cs.map fun c => SX.S [c]).map (·.length)).sum ≤ 3 := by
      rw [List.map_map]
      have k : ∀ l : List Nat, (l.map ((·.length) ∘ fun c => SX.S [c])).sum = l.length := by
        intro l
        induction l with
        | nil => rfl
        | cons a l ih =>
          rw [List.map_cons, List.sum_cons, ih, List.length_cons]
          show 1 + _ = _
          omega
      rw [k]
      omega
    obtain ⟨ch2, hch2⟩ := atSG (r := ((j : Nat) : Int) % 25) (by omega) (by omega)
    have lz : (Str.ofString "z").length = 1 := by decide +kernel
    have l0 : (Str.ofString "").length = 0 := by decide +kernel
    refine ⟨rfl, _, rfl, Str.ofString "", D, cs.map fun c => SX.S [c], rfl, rfl, .inl (SqL.of eD4), by rw [l0, Nat.mul_zero]; omega, ?_⟩
    rw [eJ]
    generalize SX.S (TL.joinL [] (cs.map fun c => [c])) = jn at *
    refine ⟨_, rfl, _, rfl, _, _, rfl, rfl, (by show (0 : Int) < 25; decide), SG, _, ch2, rfl, rfl, by rw [SG51]; decide, by rw [Int.zero_add]; exact hch2, ?_⟩
    have lc2 : (⟨#[ch2]⟩ : Str).length = 1 := rfl
    refine ⟨_, _, rfl, rfl, by rw [lc2]; exact Nat.le_of_lt (big_lt (by omega)), ?_⟩
    have la1 : (jn ++ (⟨#[ch2]⟩ : Str)).length ≤ 4 := by
      show (jn.cps ++ #[ch2]).size ≤ 4
      rw [Array.size_append]
      show jn.length + 1 ≤ 4
      omega
    generalize jn ++ (⟨#[ch2]⟩ : Str) = s1 at *
    refine ⟨_, rfl, _, _, rfl, rfl, ⟨by decide, by decide⟩, Str.ofString "z", j / 25, rfl, congrArg V.int (by omega), by rw [lz]; decide, by omega, ?_⟩
    have lr : (strRep (Str.ofString "z") (j / 25)).length ≤ 1 := by
      rw [strRep_len, lz]
      omega
    generalize strRep (Str.ofString "z") (j / 25) = s2 at *
    refine ⟨_, _, rfl, rfl, Nat.le_of_lt (big_lt (by omega)), ?_⟩
    have la2 : (s1 ++ s2).length ≤ 5 := by
      show (s1.cps ++ s2.cps).size ≤ 5
      rw [Array.size_append]
      show s1.length + s2.length ≤ 5
      omega
    generalize s1 ++ s2 = s3 at *
    refine ⟨_, rfl, _, _, rfl, rfl, Nat.le_of_lt (big_lt (by omega)), ?_⟩
    have la3 : (s3 ++ last).length ≤ 10 := by
      show (s3.cps ++ last.cps).size ≤ 10
      rw [Array.size_append]
      show s3.length + last.length ≤ 10
      omega
    generalize s3 ++ last = s4 at *
    refine ⟨F, _, _, rfl, rfl, eF4, by rw [List.length_map, lss]; exact big_lt (by omega), ?_⟩
    refine ⟨ss ++ [s4], _, _, rfl, by rw [List.length_append, lss]; rfl, fun x hx => ?_, by rw [upd_same, List.map_append]; rfl, by rw [upd_ne nFD.symm]; exact eD4, BoxAt.mono (B4.at (upd_ne nFb.symm)) (by omega), fun y o e ny => ?_⟩
    · rcases List.mem_append.mp hx with z | z
      · exact hss x z
      · rw [List.mem_singleton.mp z]
        exact la3
    · rw [upd_ne (ne_of_none e nFH)]
      exact k34 _ _ (k5 _ _ e ny) ny
  · rintro σ H5 ⟨ss, y5, y6, rfl, lss, hss, eF5, eD5, B5, k5⟩
    refine ⟨(by show 1 ≤ sizeLine; decide), fun L1 nL1 => ?_⟩
    have s1 := same_upd (o := .lst [.str (Str.ofString "")]) nL1
    have e1 : (upd H5 L1 (.lst [.str (Str.ofString "")])) L1 = some (.lst [.str (Str.ofString "")]) := upd_same
    have nL1b : L1 ≠ b := (B5.ne nL1).symm
    have eF6 := s1 _ _ eF5
    have B6 := B5.same s1
    have k6 := k5.trans (Keep.ofSame s1)
    generalize upd H5 L1 (.lst [.str (Str.ofString "")]) = H6 at *
    refine and_ev (fun z G => ∃ bb : Bool, z = .bl bb ∧ BoxAt (c + 20 + 10 * n) G b ∧ Keep b H6 G) (fun Q' q' => ?_) ?_
    · refine ⟨_, rfl, _, _, rfl, rfl, _, rfl, ite2 (fun _ => ?_) (fun _ => q' _ _ ⟨false, rfl, B6.mono (by omega), Keep.refl _ _⟩)⟩
      exact ⟨_, rfl, b, _, _, rfl, B6, by decide, by decide, by decide, by omega, by decide, fun r7 H7 u7 v7 B7 k7 => ⟨rfl, q' _ _ ⟨_, rfl, BoxAt.mono (bx1 B7) (by omega), k7⟩⟩⟩
    · rintro z G ⟨bb, rfl, BG, kG⟩
      have e1G := kG _ _ e1 nL1b
      have eFG := kG _ _ eF6 nFb
      obtain ⟨w1, hw1, ew⟩ : ∃ w1 : Nat, w1 ≤ 1 ∧ (if bb = true then (1 : Int) else 0) = (w1 : Int) := by
        cases bb
        · exact ⟨0, by decide, rfl⟩
        · exact ⟨1, by decide, rfl⟩
      refine .inr ⟨bb, rfl, ?_⟩
      rw [ew]
      refine ⟨L1, _, _, rfl, rfl, e1G, by omega, by omega, by rw [Int.toNat_natCast, List.length_singleton]; exact Nat.le_of_lt (big_lt (by omega)), fun L3 nL3 => ?_⟩
      rw [Int.toNat_natCast, rep_flat]
      have s3 := same_upd (o := .lst (List.replicate w1 (.str (Str.ofString "")))) nL3
      have e3 : (upd G L3 (.lst (List.replicate w1 (.str (Str.ofString ""))))) L3 = some (.lst (List.replicate w1 (.str (Str.ofString "")))) := upd_same
      have eF7 := s3 _ _ eFG
      have B8 := BG.same s3
      have k8 := (k6.trans kG).trans (Keep.ofSame s3)
      generalize upd G L3 (.lst (List.replicate w1 (.str (Str.ofString "")))) = H8 at *
      refine ⟨_, rfl, L3, F, _, _, rfl, rfl, e3, eF7, by rw [List.length_replicate, List.length_map, lss]; exact Nat.le_of_lt (big_lt (by omega)), fun R nR => ?_⟩
      have el : List.replicate w1 (V.str (Str.ofString "")) ++ ss.map V.str = (List.replicate w1 (Str.ofString "") ++ ss).map V.str := by rw [List.map_append, List.map_replicate]
      rw [el]
      have sR := same_upd (o := .lst ((List.replicate w1 (Str.ofString "") ++ ss).map V.str)) nR
      have nRb : R ≠ b := (B8.ne nR).symm
      refine q _ R _ (by rw [List.length_append, List.length_replicate, lss]; omega) (fun x hx => ?_) (keepN k8 nRb nR) upd_same ((B8.same sR).mono (by omega)) (k8.trans (Keep.ofSame sR))
      rcases List.mem_append.mp hx with y | y
      · rw [(List.mem_replicate.mp y).2]
        decide +kernel
      · exact hss x y
end
section
variable {P : Program} {w : World} {K : PySem.W.Frag} {mg : Str → Option Value} {base : Heap}
variable {C : Addr} {a1 a2 a3 a4 a5 a6 a7 a8 a9 a10 a11 a12 a13 a14 a15 a16 a17 a18 a19 a20 a21 a22 a23 a24 a25 : Addr} {l1 l2 l3 l4 l5 l6 l7 l8 l9 l10 l11 l12 l13 l14 l15 l16 l17 l18 l19 l20 l21 l22 l23 l24 l25 : FuncData}
theorem ks_none {S : List Addr} {H H' : Hp} (k : KeepS S H H') {a : Addr} (h : H' a = none) : H a = none := by
  cases e : H a with
  | none => rfl
  | some o => exact absurd h (k.2 a (some_ne e))
theorem ks_updN {S : List Addr} {H H' : Hp} (k : KeepS S H H') {D : Addr} {o : HO} (n : H D = none) : KeepS S H (upd H' D o) := ⟨fun y u e z => by
  rw [upd_ne (ne_of_none e n)]
  exact k.1 y u e z, fun y e => by
  rw [upd_ne (show y ≠ D from fun z => e (by rw [z]; exact n))]
  exact k.2 y e⟩
theorem NetAt.nin {C : Addr} {Z : List Addr} {H : Hp} {p : NetP} {m : Nat} {gs : List Gt} {nm : List (Str × List Nat)} (h : NetAt C Z H p m gs nm) {a : Addr} (n : H a = none) : a ∉ [p.lm, p.ld] := by
  obtain ⟨_, _, _, dx, ps, kvs, e1, e2, e3, _⟩ := h
  intro z
  rcases List.mem_cons.mp z with rfl | z
  · rw [e2] at n; cases n
  · rw [List.mem_singleton.mp z, e3] at n; cases n
theorem NetAt.add {C : Addr} {Z : List Addr} {H : Hp} {p : NetP} {m : Nat} {gs : List Gt} {nm : List (Str × List Nat)} {D : Addr} {o : HO} (h : NetAt C Z H p m gs nm) (n : H D = none) : NetAt C (D :: Z) (upd H D o) p m gs nm := by
  have k := same_upd (o := o) n
  obtain ⟨a, b, ⟨c1, c2, c3, c4⟩, dx, ps, kvs, e1, e2, e3, e4, ⟨g1, g2⟩, n1, n2, n3⟩ := h
  have ne : ∀ {y : Addr} {u : HO}, H y = some u → y ≠ D := fun e z => by rw [z, n] at e; cases e
  have ni : ∀ {y : Addr} {u : HO}, H y = some u → y ∉ Z → y ∉ D :: Z := fun e z y => by
    rcases List.mem_cons.mp y with w | w
    · exact ne e w
    · exact z w
  refine ⟨fun z hz => ?_, b, ⟨ni e1 c1, ni e2 c2, ni e3 c3, ni e4 c4⟩, dx, ps, kvs, k _ _ e1, k _ _ e2, k _ _ e3, k _ _ e4, ⟨g1, fun i q g hi hg => ?_⟩, n1, n2, fun i k' v n' ws hi hn => ?_⟩
  · rcases List.mem_cons.mp hz with w | w
    · rw [w, upd_same]
      exact fun z => nomatch z
    · exact (KeepS.ofSame (S := []) k).2 z (a z w)
  · have := g2 i q g hi hg
    exact ⟨ni this.2 this.1, k _ _ this.2⟩
  · obtain ⟨ek, l, ev, l1, l2, l3, l4⟩ := n3 i k' v n' ws hi hn
    exact ⟨ek, l, ev, ni l4 l1, l2, l3, k _ _ l4⟩
theorem NetAt.less {C : Addr} {Z : List Addr} {H : Hp} {p : NetP} {m : Nat} {gs : List Gt} {nm : List (Str × List Nat)} {D : Addr} (h : NetAt C (D :: Z) H p m gs nm) : NetAt C Z H p m gs nm := by
  obtain ⟨a, b, ⟨c1, c2, c3, c4⟩, dx, ps, kvs, e1, e2, e3, e4, ⟨g1, g2⟩, n1, n2, n3⟩ := h
  have ni : ∀ {y : Addr}, y ∉ D :: Z → y ∉ Z := fun z y => z (List.mem_cons_of_mem _ y)
  refine ⟨fun z hz => a z (List.mem_cons_of_mem _ hz), b, ⟨ni c1, ni c2, ni c3, ni c4⟩, dx, ps, kvs, e1, e2, e3, e4, ⟨g1, fun i q g hi hg => ?_⟩, n1, n2, fun i k' v n' ws hi hn => ?_⟩
  · have := g2 i q g hi hg
    exact ⟨ni this.1, this.2⟩
  · obtain ⟨ek, l, ev, l1, l2, l3, l4⟩ := n3 i k' v n' ws hi hn
    exact ⟨ek, l, ev, ni l1, l2, l3, l4⟩
theorem NetAt.put {C : Addr} {Z : List Addr} {H : Hp} {p : NetP} {m : Nat} {gs : List Gt} {nm : List (Str × List Nat)} {D : Addr} {o : HO} (h : NetAt C Z H p m gs nm) (hD : D ∈ Z) : NetAt C Z (upd H D o) p m gs nm := h.keep (S := [D]) (.upd (List.mem_singleton.mpr rfl)) (fun y hy => by rw [List.mem_singleton.mp hy]; exact hD)
/-! ### the law's own lists by names -/
def LsAt (Z : List Addr) (H : Hp) (p : NetP) (d : Addr) (nm : List (Str × List Nat)) : Prop := (∀ z ∈ Z, H z ≠ none) ∧ d ∉ Z ∧ d ∉ [p.x, p.lm, p.ld, p.dn] ∧ ∃ kvs, H d = some (.dK kvs) ∧ NmAt (d :: p.x :: p.dn :: Z) H p kvs nm
theorem LsAt.keepS {Z S : List Addr} {H H' : Hp} {p : NetP} {d : Addr} {nm : List (Str × List Nat)} (h : LsAt Z H p d nm) (k : KeepS S H H') (hs : ∀ y ∈ S, y ∈ Z ∨ y ∈ [p.x, p.lm, p.ld, p.dn]) : LsAt Z H' p d nm := by
  obtain ⟨z0, a, b, kvs, e, n1, n2, n3⟩ := h
  refine ⟨fun z hz => k.2 z (z0 z hz), a, b, kvs, k.1 _ _ e (fun z => ?_), n1, n2, fun i k' v n ws hi hn => ?_⟩
  · rcases hs _ z with y | y
    · exact a y
    · exact b y
  · obtain ⟨ek, l, ev, l1, l2, l3, l4⟩ := n3 i k' v n ws hi hn
    refine ⟨ek, l, ev, l1, l2, l3, k.1 _ _ l4 (fun z => ?_)⟩
    rcases hs _ z with y | y
    · exact l1 (List.mem_cons_of_mem _ (List.mem_cons_of_mem _ (List.mem_cons_of_mem _ y)))
    · simp only [List.mem_cons, List.not_mem_nil, or_false] at y
      rcases y with y | y | y | y
      · exact l1 (by rw [y]; simp)
      · exact l2 y
      · exact l3 y
      · exact l1 (by rw [y]; simp)
theorem LsAt.put {Z : List Addr} {H : Hp} {p : NetP} {d l : Addr} {nm : List (Str × List Nat)} {kvs : List (Key × V)} {n : Str} {ws : List Nat} (h : LsAt Z H p d nm) (hn : n ∉ nm.map (·.1)) (e : H d = some (.dK kvs)) (hl : l ∉ d :: p.x :: p.dn :: Z) (l1 : l ≠ p.lm) (l2 : l ≠ p.ld) (el : H l = some (.lst (nts ws))) :
    LsAt Z (upd H d (.dK (putK kvs (.inr n) (.ref l)))) p d (nm ++ [(n, ws)]) := by
  obtain ⟨z0, a, b, kvs', e', N⟩ := h
  rw [e] at e'
  cases e'
  rw [putK_new _ (N.out hn)]
  refine ⟨fun z hz => by rw [upd_ne (show z ≠ d from fun y => a (by rw [← y]; exact hz))]; exact z0 z hz, a, b, _, upd_same, by rw [List.length_append, List.length_append, N.1]; rfl, ?_, fun i k v n' ws' hi hn' => ?_⟩
  · rw [List.map_append, List.nodup_append]
    refine ⟨N.2.1, by simp, fun a ha b hb' => ?_⟩
    have hb' : b = n := by simpa using hb'
    rw [hb']
    exact fun z => hn (z ▸ ha)
  · by_cases c : i < kvs.length
    · rw [List.getElem?_append_left c] at hi
      rw [List.getElem?_append_left (by rw [← N.1]; exact c)] at hn'
      obtain ⟨ek, l', ev, m1, m2, m3, m4⟩ := N.2.2 i k v n' ws' hi hn'
      exact ⟨ek, l', ev, m1, m2, m3, by rw [upd_ne (fun z => m1 (by rw [z]; simp))]; exact m4⟩
    · have i0 : i = kvs.length := by
        have := (List.getElem?_eq_some_iff.mp hi).1
        rw [List.length_append, List.length_cons, List.length_nil] at this
        omega
      rw [List.getElem?_append_right (by omega), i0, Nat.sub_self] at hi
      rw [List.getElem?_append_right (by rw [i0, N.1]; exact Nat.le_refl _), i0, N.1, Nat.sub_self] at hn'
      cases hi
      cases hn'
      exact ⟨rfl, l, rfl, hl, l1, l2, by rw [upd_ne (fun z => hl (by rw [z]; simp))]; exact el⟩
theorem LsAt.same {Z : List Addr} {H H' : Hp} {p : NetP} {d : Addr} {nm : List (Str × List Nat)} (h : LsAt Z H p d nm) (s : Same H H') : LsAt Z H' p d nm := h.keepS (S := []) (.ofSame s) (fun _ z => nomatch z)
theorem LsAt.add {Z : List Addr} {H : Hp} {p : NetP} {d D : Addr} {o : HO} {nm : List (Str × List Nat)} (h : LsAt Z H p d nm) (n : H D = none) : LsAt (D :: Z) (upd H D o) p d nm := by
  have s := same_upd (o := o) n
  obtain ⟨z0, a, b, kvs, e, n1, n2, n3⟩ := h
  refine ⟨fun z hz => ?_, fun z => ?_, b, kvs, s _ _ e, n1, n2, fun i k' v n' ws hi hn => ?_⟩
  · rcases List.mem_cons.mp hz with y | y
    · rw [y, upd_same]
      exact fun z => nomatch z
    · exact (KeepS.ofSame (S := []) s).2 z (z0 z y)
  · rcases List.mem_cons.mp z with y | y
    · rw [y, n] at e
      cases e
    · exact a y
  · obtain ⟨ek, l, ev, l1, l2, l3, l4⟩ := n3 i k' v n' ws hi hn
    refine ⟨ek, l, ev, fun z => ?_, l2, l3, s _ _ l4⟩
    simp only [List.mem_cons] at z l1
    rcases z with y | y | y | y | y
    · exact l1 (.inl y)
    · exact l1 (.inr (.inl y))
    · exact l1 (.inr (.inr (.inl y)))
    · rw [y, n] at l4
      cases l4
    · exact l1 (.inr (.inr (.inr y)))
theorem LsAt.less {Z : List Addr} {H : Hp} {p : NetP} {d D : Addr} {nm : List (Str × List Nat)} (h : LsAt (D :: Z) H p d nm) : LsAt Z H p d nm := by
  obtain ⟨z0, a, b, kvs, e, n1, n2, n3⟩ := h
  refine ⟨fun z hz => z0 z (List.mem_cons_of_mem _ hz), fun z => a (List.mem_cons_of_mem _ z), b, kvs, e, n1, n2, fun i k' v n' ws hi hn => ?_⟩
  obtain ⟨ek, l, ev, l1, l2, l3, l4⟩ := n3 i k' v n' ws hi hn
  refine ⟨ek, l, ev, fun z => l1 ?_, l2, l3, l4⟩
  simp only [List.mem_cons] at z ⊢
  rcases z with y | y | y | y
  · exact .inl y
  · exact .inr (.inl y)
  · exact .inr (.inr (.inl y))
  · exact .inr (.inr (.inr (.inr y)))
theorem cutS_to (ss : List Str) (p : Nat) : cutV (ss.map V.str) none (some (p : Int)) = (ss.take p).map V.str := by
  unfold cutV
  rw [HT.sIx_none, HT.sIx_nat, List.drop_zero, List.length_map, Nat.sub_zero, List.map_take]
  by_cases h : p ≤ ss.length
  · rw [Nat.min_eq_left h]
  · rw [Nat.min_eq_right (by omega), List.take_of_length_le (by rw [List.length_map]; exact Nat.le_refl _), List.take_of_length_le (by rw [List.length_map]; omega)]
def spNamed (C : Addr) : Sp := fun vs H Q _ => ∃ (Zn Zl : List Addr) (p : NetP) (m : Nat) (gs : List Gt) (nm : List (Str × List Nat)) (b : Addr) (c : Int) (R d : Addr) (rl : List V), vs = [.ref b, .ref p.x, .int (m : Int), .ref R, .ref d] ∧ NetAt C Zn H p m gs nm ∧ b ∈ Zn ∧ d ∈ Zn ∧ BoxAt c H b ∧ c ≤ 700000000 ∧ H R = some (.lst rl) ∧ rl.length = gs.length ∧ R ∉ [b, d, p.dn] ∧ LsAt Zl H p d nm ∧ b ∈ Zl ∧ nm.length ≤ 20 ∧ 1 ≤ m ∧ m + gs.length ≤ 300 ∧
  ∀ (nm' : List (Str × List Nat)) (H' : Hp), NetAt C Zn H' p m gs nm' → LsAt Zl H' p d nm' → nm'.length ≤ nm.length + 3 → (∀ x ∈ nm', x ∈ nm ∨ (x.2.length ≤ 8 ∧ ∀ w ∈ x.2, w < m + gs.length)) → BoxAt (c + 200) H' b → KeepS [b, d, p.dn] H H' → Q .non H'
theorem ok__law_named (B : Bl mg) (L : LL K mg C a1 a2 a3 a4 a5 a6 a7 a8 a9 a10 a11 a12 a13 a14 a15 a16 a17 a18 a19 a20 a21 a22 a23 a24 a25 l1 l2 l3 l4 l5 l6 l7 l8 l9 l10 l11 l12 l13 l14 l15 l16 l17 l18 l19 l20 l21 l22 l23 l24 l25) : FnOk P w K mg base CX0 3 a9 l9 ["_law_box_here", "_law_net", "_law_many", "_law_rows", "_law_lists"] (spNamed C) := by
  have G__law_names : FnOk P w K mg base CX0 2 a4 l4 ["_law_box_here", "_law_size"] spNmsL := (ok__law_names B L).mono (by decide)
  have G__law_take : FnOk P w K mg base CX0 2 a2 l2 ["_law_box_here", "_law_size"] (spTake 1) := (ok_take L.F__law_take L.b__law_take L.m__law_take B 1).mono (by decide)
  have G_Net_give : FnOk P w K mg base CX0 2 a19 l19 ["self", "name", "wires"] (spGive K C) := (ok_Net_give B L).mono (by decide)
  refine L.F__law_named.ok sc__law_named (fun vs H Q E h => ?_) (fun cdv A outer s H vs Q E hr h => ?_)
  · obtain ⟨Zn, Zl, p, m, gs, nm, b, c, R, d, rl, rfl, _⟩ := h
    rfl
  obtain ⟨Zn, Zl, p, m, gs, nm, b, c, R, d, rl, rfl, hN, hbn, hdn, hB, hc, eR, lR, nR, hL, hbl, hnm, m1, ml, q⟩ := h
  refine ⟨_, (pss_one (ps_for PassesOwn.never rfl (pi_list (pe_slice sl_list (pe_call G__law_names hr (by rfl) L.m__law_names L.F__law_names.kp L.b__law_names .nil pass0 (pa_cons (pv 0) (pa_cons pe_int pa_nil))) po_none (po_some (pe_call G__law_take hr (by rfl) L.m__law_take L.F__law_take.kp L.b__law_take .nil pass0 (pa_cons (pv 0) (pa_cons pe_int pa_nil)))))) (pg_name (i := 5) sc__law_named.nd rfl (.inl rfl)) (pss_one (ps_if (pt_cmp (pc_dnotin (units1 hr) (pv 5) (pv 4)) (by rfl)) (pss_cons (ps_setLc (i := 6) (own := [("_law_turn", 7)]) (by rfl) sc__law_named.nd rfl rfl (sw_true rfl rfl rfl (by decide +kernel)) (pi_range1 (by rfl) B.range (pa_cons (pe_call G__law_take hr (by rfl) L.m__law_take L.F__law_take.kp L.b__law_take .nil pass0 (pa_cons (pv 0) (pa_cons pe_int pa_nil))) pa_nil)) (blkOk_by (own := [("_law_turn", 7)]) (N := ["_law_box_here", "_law_net", "_law_many", "_law_rows", "_law_lists", "_law_name", "_law_wires", "_law_turn"]) (sc := defScope s__law_named) (by decide +kernel)) (fun _ _ _ _ _ => pg_name (i := 7) sc__law_named.nd rfl (Or.inl rfl)) (fun _ _ _ _ _ => pts_nil) (fun _ _ _ _ _ => (pe_call G__law_take hr (by rfl) L.m__law_take L.F__law_take.kp L.b__law_take .nil pass0 (pa_cons (pv 0) (pa_cons (pe_op op_add (pv 2) (pe_callB (call_len_seqK (K := K)) (by rfl) B.len PySem.boot_len (pa_cons (pv 3) pa_nil))) pa_nil)))))
    (pss_cons (ps_dput (units1 hr) (pv 4) (pv 5) (pe_callTy call_list_of (by rfl) B.list PyProof.Rows.boot_list (pa_cons (pv 6) pa_nil)) rfl)
    (pss_cons (ps_expr (pe_meth (pv 1) L.T.cl L.M_Net_give G_Net_give hr L.b_Net_give .nil pass0 (pa_cons (pv 5) (pa_cons (pe_ifExp (pt_cmpR op_eq (pe_call G__law_take hr (by rfl) L.m__law_take L.F__law_take.kp L.b__law_take .nil pass0 (pa_cons (pv 0) (pa_cons pe_int pa_nil))) pe_int (nomark _)) (pv 6) (pe_callTy call_tuple_of (by rfl) B.tuple PyProof.Rows.boot_tuple (pa_cons (pv 6) pa_nil))) pa_nil))))
    (pss_one (ps_expr (pe_bm PySem.F.plainAttrs_list PySem.F.slot_list_append PySem.F.type_list_append mt_append (pv 6) (pa_cons pe_int pa_nil))))))) pss_nil)))), ?_⟩
  obtain ⟨_, ld1, ld2, kvs0, ed0, _⟩ := id hL
  have bd : b ≠ d := fun z => ld1 (z ▸ hbl)
  obtain ⟨_, _, ⟨cz1, cz2, cz3, cz4⟩, _⟩ := id hN
  have bdn : b ≠ p.dn := fun z => cz4 (z ▸ hbn)
  refine ⟨_, rfl, b, _, 3, rfl, hB, by omega, by decide, fun ss D H1 lss hss nD eD B1 k1 => ?_⟩
  have nDb : D ≠ b := (hB.ne nD).symm
  refine ⟨_, rfl, b, _, _, rfl, B1, by decide, by decide, by decide, by omega, by decide, fun r H2 u2 v2 B2 k2 => ?_⟩
  replace B2 := bx1 B2
  obtain ⟨r, rfl⟩ : ∃ r' : Nat, r = (r' : Int) := ⟨r.toNat, by omega⟩
  have k02 := k1.trans k2
  refine ⟨_, rfl, D, _, rfl, SqL.of (k2 _ _ eD nDb), fun E nE => ?_⟩
  dsimp only
  rw [cutS_to]
  have lst3 : (ss.take r).length ≤ 3 := by rw [List.length_take]; omega
  generalize ss.take r = sr at *
  have nEb : E ≠ b := (B2.ne nE).symm
  have sE := same_upd (o := .lst (sr.map V.str)) nE
  have eE : (upd H2 E (.lst (sr.map V.str))) E = some (.lst (sr.map V.str)) := upd_same
  have k3 : Keep b H _ := k02.trans (Keep.ofSame sE)
  have B3 := B2.same sE
  have nEH : H E = none := keepN k02 nEb nE
  have nEd : E ≠ d := fun z => by rw [z, ed0] at nEH; cases nEH
  have nEn : E ≠ p.dn := fun z => by
    obtain ⟨_, _, _, _, _, kv, _, _, _, e4, _⟩ := id hN
    rw [z, e4] at nEH
    cases nEH
  have nE3 : E ∉ [b, d, p.dn] := by simp [nEb, nEd, nEn]
  have N3 := hN.keepB k3 B3.some hbn
  have L3 := hL.keepS (S := [b]) (.ofKeep k3 (by simp) B3.some) (fun y hy => by rw [List.mem_singleton.mp hy]; exact .inl hbl)
  have K3 : KeepS [b, d, p.dn] H _ := .ofKeep k3 (by simp) B3.some
  generalize upd H2 E (.lst (sr.map V.str)) = H3 at *
  refine ⟨E, rfl, ⟨_, SqL.of eE⟩, ?_⟩
  try simp only [L2.start, List.map_cons, List.map_nil, List.length_cons, List.length_nil, List.replicate_succ, List.replicate_zero, List.cons_append, List.nil_append, List.set_cons_succ, List.set_cons_zero, Nat.reduceAdd, Nat.reduceSub, Nat.zero_add]
  refine for_it (D := { nx := fun _ H' => Q V.non H', rt := Q }) (walk_list (K := K) (a := E) (xs := sr.map V.str)) (fun j σ H9 => ∃ (nm' : List (Str × List Nat)) (y5 y6 y7 : Option V), σ = [some (.ref b), some (.ref p.x), some (.int (m : Int)), some (.ref R), some (.ref d), y5, y6, y7] ∧ NetAt C Zn H9 p m gs nm' ∧ LsAt Zl H9 p d nm' ∧ nm'.length ≤ nm.length + j ∧ (∀ x ∈ nm', x ∈ nm ∨ (x.2.length ≤ 8 ∧ ∀ w ∈ x.2, w < m + gs.length)) ∧ BoxAt (c + 110 + 20 * j) H9 b ∧ KeepS [b, d, p.dn] H3 H9) ⟨nm, _, _, _, rfl, N3, L3, by omega, fun x hx => .inl hx, B3.mono (by omega), KeepS.refl _ _⟩ (fun j σ H9 _ ⟨_, _, _, _, _, _, _, _, _, _, k9⟩ => k9.seq nE3 (SqL.of eE)) ?_ ?_
  · rintro j v σ H0 H9 hj ⟨nm', y5, y6, y7, rfl, N9, L9, ln, hn9, B9, k9⟩ ⟨rfl, hz⟩
    replace hz : (sr.map V.str)[j]? = some v := hz
    rw [List.length_map] at hj
    rw [List.getElem?_map] at hz
    obtain ⟨s1, hs1, rfl⟩ : ∃ s1, sr[j]? = some s1 ∧ V.str s1 = v := by
      cases e : sr[j]? with
      | none => rw [e] at hz; cases hz
      | some s1 => rw [e] at hz; exact ⟨s1, rfl, Option.some.inj hz⟩
    dsimp only [gName]
    try simp only [L2.start, List.map_cons, List.map_nil, List.length_cons, List.length_nil, List.replicate_succ, List.replicate_zero, List.cons_append, List.nil_append, List.set_cons_succ, List.set_cons_zero, Nat.reduceAdd, Nat.reduceSub, Nat.zero_add]
    obtain ⟨zl0, ldz, ld2', kvs, ed, NL⟩ := id L9
    by_cases c1 : s1 ∈ nm'.map (·.1)
    · obtain ⟨x, hx, ex⟩ := List.mem_map.mp c1
      obtain ⟨i, hi⟩ := List.mem_iff_getElem?.mp hx
      obtain ⟨l, ev, _⟩ := NL.in_ (n := s1) (ws := x.2) (i := i) (by rw [hi, ← ex])
      refine ⟨_, rfl, _, rfl, d, _, rfl, DGet.k (k := .inr s1) ed, ?_⟩
      rw [ev]
      refine ⟨_, rfl, iteF ?_⟩
      dsimp only [tNext]
      exact ⟨nm', _, _, _, rfl, N9, L9, by omega, hn9, B9.mono (by omega), k9⟩
    · refine ⟨_, rfl, _, rfl, d, _, rfl, DGet.k (k := .inr s1) ed, ?_⟩
      rw [NL.out c1]
      refine ⟨_, rfl, iteT ?_⟩
      refine ⟨_, rfl, b, _, _, rfl, B9, by decide, by decide, by decide, by omega, by decide, fun r4 H4 u4 v4 B4 k4 => ?_⟩
      replace B4 := bx1 B4
      obtain ⟨n4, rfl⟩ : ∃ n4 : Nat, r4 = (n4 : Int) := ⟨r4.toNat, by omega⟩
      refine ⟨_, rfl, by omega, by omega, fun W0 nW => ?_⟩
      rw [Int.toNat_natCast]
      have nWb : W0 ≠ b := (B4.ne nW).symm
      have N4 := N9.keepB k4 B4.some hbn
      have L4 := L9.keepS (S := [b]) (.ofKeep k4 (by simp) B4.some) (fun y hy => by rw [List.mem_singleton.mp hy]; exact .inl hbl)
      have k94 : KeepS [b, d, p.dn] H9 H4 := .ofKeep k4 (by simp) B4.some
      have eR4 := (K3.trans (k9.trans k94)).1 _ _ eR nR
      have nRb : R ≠ b := fun z => nR (by rw [z]; simp)
      refine lc_range (n := n4) (fun i H5 => ∃ ws : List Nat, ws.length = i ∧ (∀ w ∈ ws, w < m + gs.length) ∧ Keep b H4 H5 ∧ BoxAt (c + 110 + 20 * j + 1 + i) H5 b ∧ H5 W0 = some (.lst (nts ws)) ∧ NetAt C (W0 :: Zn) H5 p m gs nm' ∧ LsAt (W0 :: Zl) H5 p d nm') ⟨[], rfl, (fun _ z => nomatch z), Keep.new nW, (B4.same (same_upd nW)).mono (by omega), upd_same, N4.add nW, L4.add nW⟩ ?_ ?_
      · rintro i H5 hi ⟨ws, lw, hws, k5, B5, eW, N5, L5⟩
        dsimp only [gName]
        refine ⟨rfl, yesT ?_⟩
        try simp only [L2.start, List.map_cons, List.map_nil, List.length_cons, List.length_nil, List.replicate_succ, List.replicate_zero, List.cons_append, List.nil_append, List.set_cons_succ, List.set_cons_zero, Nat.reduceAdd, Nat.reduceSub, Nat.zero_add]
        refine ⟨_, rfl, _, rfl, _, rfl, R, _, rfl, .inl (SqL.of (k5 _ _ eR4 nRb)), ?_⟩
        rw [lR]
        refine ⟨_, _, rfl, rfl, b, _, _, rfl, B5, by omega, by omega, by omega, by omega, by decide, fun r6 H6 u6 v6 B6 k6 => ?_⟩
        replace B6 := bx1 B6
        obtain ⟨a6, rfl⟩ : ∃ a6 : Nat, r6 = (a6 : Int) := ⟨r6.toNat, by omega⟩
        refine ⟨_, k6 _ _ eW nWb, by rw [nts_len, lw]; exact big_lt (by omega), ws ++ [a6], by rw [List.length_append, lw]; rfl, fun w hw => ?_, fun y o e ny => ?_, BoxAt.mono (B6.at (upd_ne nWb.symm)) (by omega), by rw [upd_same]; unfold nts; rw [List.map_append]; rfl, ?_, ?_⟩
        · rcases List.mem_append.mp hw with z | z
          · exact hws w z
          · rw [List.mem_singleton.mp z]
            omega
        · rw [upd_ne (ne_of_none e nW)]
          exact k6 _ _ (k5 _ _ e ny) ny
        · exact (N5.keepB k6 B6.some (List.mem_cons_of_mem _ hbn)).put (by simp)
        · refine (L5.keepS (S := [b]) (.ofKeep k6 (by simp) B6.some) (fun y hy => by rw [List.mem_singleton.mp hy]; exact .inl (List.mem_cons_of_mem _ hbl))).keepS (S := [W0]) (.upd (by simp)) (fun y hy => by rw [List.mem_singleton.mp hy]; exact .inl (by simp))
      rintro H5 ⟨ws, lw, hws, k5, B5, eW, N5, L5⟩
      dsimp only [gName]
      try simp only [L2.start, List.map_cons, List.map_nil, List.length_cons, List.length_nil, List.replicate_succ, List.replicate_zero, List.cons_append, List.nil_append, List.set_cons_succ, List.set_cons_zero, Nat.reduceAdd, Nat.reduceSub, Nat.zero_add]
      obtain ⟨zl5, ldz5, ld25, kvs5, ed5, NL5⟩ := id L5
      obtain ⟨zn5, _, _, dx5, ps5, kv5, x1, x2, x3, x4, _⟩ := id N5
      have nW3 : H3 W0 = none := ks_none (k9.trans k94) nW
      have nWd : W0 ≠ d := fun z => by rw [z, ed5] at eW; cases eW
      refine ⟨_, rfl, W0, _, rfl, .inl (SqL.of eW), fun l nl => ?_⟩
      have sl := same_upd (o := .lst (nts ws)) nl
      have el : (upd H5 l (.lst (nts ws))) l = some (.lst (nts ws)) := upd_same
      have N6 := N5.same sl
      have L6 := L5.same sl
      have B6 := B5.same sl
      have eW6 := sl _ _ eW
      have ed6 := sl _ _ ed5
      have lZ : l ∉ d :: p.x :: p.dn :: W0 :: Zl := fun z => by
        rcases List.mem_cons.mp z with y | z
        · rw [y, ed5] at nl; cases nl
        rcases List.mem_cons.mp z with y | z
        · rw [y, x1] at nl; cases nl
        rcases List.mem_cons.mp z with y | z
        · rw [y, x4] at nl; cases nl
        exact zl5 _ z nl
      have llm : l ≠ p.lm := fun y => by rw [y, x2] at nl; cases nl
      have lld : l ≠ p.ld := fun y => by rw [y, x3] at nl; cases nl
      generalize upd H5 l (.lst (nts ws)) = H6 at *
      refine ⟨_, rfl, _, rfl, d, _, rfl, DPut.k (k := .inr s1) ed6 (by rw [NL5.1]; exact big_lt (by omega)), ?_⟩
      have L7 := L6.put c1 ed6 lZ llm lld el
      have N7 := N6.keep (S := [d]) (H' := upd H6 d (.dK (putK kvs5 (.inr s1) (.ref l)))) (.upd (by simp)) (fun y hy => by rw [List.mem_singleton.mp hy]; exact List.mem_cons_of_mem _ hdn)
      have B7 : BoxAt (c + 110 + 20 * j + 1 + n4) (upd H6 d (.dK (putK kvs5 (.inr s1) (.ref l)))) b := BoxAt.at B6 (upd_ne bd)
      have eW7 : (upd H6 d (.dK (putK kvs5 (.inr s1) (.ref l)))) W0 = some (.lst (nts ws)) := (upd_ne nWd).trans eW6
      have k37 : KeepS [b, d, p.dn] H3 (upd H6 d (.dK (putK kvs5 (.inr s1) (.ref l)))) := ((k9.trans k94).trans ((KeepS.ofKeep k5 (by simp) B5.some).trans (.ofSame sl))).trans (.upd (by simp))
      generalize upd H6 d (.dK (putK kvs5 (.inr s1) (.ref l))) = H7 at *
      obtain ⟨_, _, _, dx7, _, _, f7, _⟩ := id N7
      refine ⟨_, rfl, p.x, dx7, _, rfl, f7, rfl, _, rfl, ?_⟩
      refine if_ev (fun z G => ∃ t, z = .ref t ∧ (SqL K G t (nts ws) ∨ SqT K G t (nts ws)) ∧ NetAt C (W0 :: Zn) G p m gs nm' ∧ LsAt (W0 :: Zl) G p d (nm' ++ [(s1, ws)]) ∧ BoxAt (c + 110 + 20 * j + 15) G b ∧ Keep b H7 G ∧ G W0 = some (.lst (nts ws))) (fun Q' q' => ?_) ?_
      · refine ⟨_, rfl, b, _, _, rfl, B7, by decide, by decide, by decide, by omega, by decide, fun r8 H8 u8 v8 B8 k8 => ?_⟩
        replace B8 := bx1 B8
        have N8 := N7.keepB k8 B8.some (List.mem_cons_of_mem _ hbn)
        have L8 := L7.keepS (S := [b]) (.ofKeep k8 (by simp) B8.some) (fun y hy => by rw [List.mem_singleton.mp hy]; exact .inl (List.mem_cons_of_mem _ hbl))
        have eW8 := k8 _ _ eW7 nWb
        refine ⟨rfl, _, rfl, ite2 (fun _ => ?_) (fun _ => ?_)⟩
        · exact ⟨_, rfl, q' _ _ ⟨W0, rfl, .inl (SqL.of eW8), N8, L8, B8.mono (by omega), k8, eW8⟩⟩
        · refine ⟨_, rfl, W0, _, rfl, .inl ⟨SqL.of eW8, fun t nt => ?_⟩⟩
          have st := same_upd (o := .tup (nts ws)) nt
          exact q' _ _ ⟨t, rfl, .inr (.inl (.inl upd_same)), N8.same st, L8.same st, (B8.same st).mono (by omega), k8.trans (Keep.ofSame st), st _ _ eW8⟩
      · rintro z G ⟨t, rfl, hT, NG, LG, BG, kG, eWG⟩
        refine ⟨W0 :: Zn, p, m, gs, nm', s1, t, ws, rfl, NG, c1, hT, hws, by omega, fun HA kA NA => ?_⟩
        have nWn : W0 ∉ [p.dn] := fun z => by
          rw [List.mem_singleton.mp z, x4] at eW
          cases eW
        have eWA := kA.1 _ _ eWG nWn
        have LA := LG.keepS kA (fun y hy => by rw [List.mem_singleton.mp hy]; exact .inr (by simp))
        have BA := BG.keepS kA (by simpa using bdn)
        have k3A : KeepS [b, d, p.dn] H3 HA := (k37.trans (.ofKeep kG (by simp) BG.some)).trans (kA.mono (fun y hy => by rw [List.mem_singleton.mp hy]; simp))
        refine ⟨_, rfl, .inl ⟨rfl, _, SqL.of eWA⟩, W0, _, _, rfl, rfl, eWA, by rw [nts_len]; exact big_lt (by omega), ?_⟩
        refine ⟨nm' ++ [(s1, ws)], _, _, _, rfl, (NA.put (by simp)).less, (LA.keepS (S := [W0]) (.upd (by simp)) (fun y hy => by rw [List.mem_singleton.mp hy]; exact .inl (by simp))).less, by rw [List.length_append, List.length_singleton]; omega, fun x hx => ?_, BoxAt.mono (BA.at (upd_ne nWb.symm)) (by omega), ks_updN k3A nW3⟩
        rcases List.mem_append.mp hx with y | y
        · exact hn9 x y
        · rw [List.mem_singleton.mp y]
          exact .inr ⟨by show ws.length ≤ 8; omega, hws⟩
  · rintro σ H9 ⟨nm', y5, y6, y7, rfl, N9, L9, ln, hn9, B9, k9⟩
    rw [List.length_map] at ln B9
    exact q nm' H9 N9 L9 (by omega) hn9 (B9.mono (by omega)) (K3.trans k9)
end
section
variable {P : Program} {w : World} {K : PySem.W.Frag} {mg : Str → Option Value} {base : Heap}
variable {C : Addr} {a1 a2 a3 a4 a5 a6 a7 a8 a9 a10 a11 a12 a13 a14 a15 a16 a17 a18 a19 a20 a21 a22 a23 a24 a25 : Addr} {l1 l2 l3 l4 l5 l6 l7 l8 l9 l10 l11 l12 l13 l14 l15 l16 l17 l18 l19 l20 l21 l22 l23 l24 l25 : FuncData}
/-! ### a sorted list is one -/
theorem rise_pw : ∀ (ss : List Str) (p : Str), risingS p ss = true → (p :: ss).Pairwise fun x y => x.cps.toList ≤ y.cps.toList
  | [], p, _ => List.pairwise_singleton _ _
  | s :: ss, p, h => by
    unfold risingS at h
    obtain ⟨h1, h2⟩ := Bool.and_eq_true_iff.mp h
    have ih := rise_pw ss s h2
    have le : p.cps.toList ≤ s.cps.toList := by
      rw [ltCps_eq] at h1
      simpa using h1
    refine List.pairwise_cons.mpr ⟨fun y hy => ?_, ih⟩
    rcases List.mem_cons.mp hy with e | hy
    · rw [e]
      exact le
    · exact List.le_trans le ((List.pairwise_cons.mp ih).1 y hy)
theorem sortS_one {xs ys zs : List Str} (h1 : xs.Perm zs) (s1 : sortedS xs = true) (h2 : ys.Perm zs) (s2 : sortedS ys = true) : xs = ys := by
  have pw : ∀ l : List Str, sortedS l = true → l.Pairwise fun x y => x.cps.toList ≤ y.cps.toList := fun l h => by
    cases l with
    | nil => exact .nil
    | cons x r => exact rise_pw r x h
  refine List.Perm.eq_of_pairwise (le := fun x y : Str => x.cps.toList ≤ y.cps.toList) (fun x y _ _ a b => ?_) (pw _ s1) (pw _ s2) (h1.trans h2.symm)
  have e := List.le_antisymm a b
  cases x
  cases y
  congr 1
  exact Array.toList_inj.mp e
/-! ### what a net tells, as data -/
def dInts (ws : List Nat) : List PyData := ws.map fun (a : Nat) => PyData.int (a : Int)
def dGt : Gt → PyData
  | .w k ws => .tuple (.str k :: dInts ws)
  | .fi b => .tuple [.str "fixed", .int (b : Int)]
theorem dpa_nts {H : Hp} : ∀ ws : List Nat, DpAll K H (nts ws) (dInts ws)
  | [] => .nil
  | a :: ws => .cons (.int _) (dpa_nts ws)
theorem dp_row {H : Hp} {t : Addr} {g : Gt} (h : H t = some (.tup g.row)) : Dp K H (.ref t) (dGt g) := by
  cases g with
  | w k ws => exact .tup (.inl (.inl h)) (.cons (.str _) (dpa_nts ws))
  | fi b => exact .tup (.inl (.inl h)) (.cons (.str _) (.cons (.int _) .nil))
theorem dpa_rows {H : Hp} : ∀ (ts : List Addr) (gs : List Gt), ts.length = gs.length → (∀ (i : Nat) (t : Addr) (g : Gt), ts[i]? = some t → gs[i]? = some g → H t = some (.tup g.row)) → DpAll K H (ts.map V.ref) (gs.map dGt)
  | [], [], _, _ => .nil
  | [], _ :: _, h, _ => by cases h
  | _ :: _, [], h, _ => by cases h
  | t :: ts, g :: gs, h, f => .cons (dp_row (f 0 t g rfl rfl)) (dpa_rows ts gs (Nat.succ.inj h) fun i a b h1 h2 => f (i + 1) a b h1 h2)
theorem dpa_strs {H : Hp} : ∀ ys : List Str, DpAll K H (ys.map V.str) (ys.map PyData.str)
  | [] => .nil
  | y :: ys => .cons (.str _) (dpa_strs ys)
theorem dpa_lists {H : Hp} : ∀ (ls : List Addr) (wss : List (List Nat)), ls.length = wss.length → (∀ (i : Nat) (l : Addr) (ws : List Nat), ls[i]? = some l → wss[i]? = some ws → H l = some (.lst (nts ws))) → DpAll K H (ls.map V.ref) (wss.map fun ws => .list (dInts ws))
  | [], [], _, _ => .nil
  | [], _ :: _, h, _ => by cases h
  | _ :: _, [], h, _ => by cases h
  | t :: ts, g :: gs, h, f => .cons (.lst (SqL.of (f 0 t g rfl rfl)) (dpa_nts g)) (dpa_lists ts gs (Nat.succ.inj h) fun i a b h1 h2 => f (i + 1) a b h1 h2)
def lkN (nm : List (Str × List Nat)) (y : Str) : List Nat := ((nm.find? fun x => decide (x.1 = y)).map (·.2)).getD []
theorem lkN_at : ∀ {nm : List (Str × List Nat)} {i : Nat} {n : Str} {ws : List Nat}, (nm.map (·.1)).Nodup → nm[i]? = some (n, ws) → lkN nm n = ws
  | [], i, n, ws, _, h => by simp at h
  | x :: nm, 0, n, ws, _, h => by
    cases h
    simp [lkN]
  | x :: nm, i + 1, n, ws, hd, h => by
    have hd' := List.nodup_cons.mp hd
    have hx : ¬ x.1 = n := fun e => hd'.1 (by show x.1 ∈ _; rw [e]; exact List.mem_map.mpr ⟨(n, ws), List.mem_of_getElem? h, rfl⟩)
    have ih := lkN_at (nm := nm) (i := i) hd'.2 h
    unfold lkN at ih ⊢
    rw [List.find?_cons_of_neg (by simpa using hx)]
    exact ih
theorem sameN {H G : Hp} {y : Addr} {o : HO} (s : Same H G) (n : H y = none) : Same H (upd G y o) := fun a u e => by
  rw [upd_ne (ne_of_none e n)]
  exact s _ _ e
theorem back {H G : Hp} (s : Same H G) {y : Addr} (n : G y = none) : H y = none := by
  cases e : H y with
  | none => rfl
  | some o => rw [s _ _ e] at n; cases n
theorem lv0_ints (ws : List Nat) : ∀ d ∈ dInts ws, Lv 0 d := fun d hd => by
  obtain ⟨a, _, rfl⟩ := List.mem_map.mp hd
  exact True.intro
theorem lv_gt {n : Nat} {g : Gt} (h : g.ok n) : Lv 1 (dGt g) := by
  cases g with
  | w k ws =>
    refine ⟨by rw [List.length_cons]; unfold dInts; rw [List.length_map]; rcases h.1 with ⟨_, e⟩ | ⟨_, e⟩ <;> omega, fun d hd => ?_⟩
    rcases List.mem_cons.mp hd with e | hd
    · rw [e]; exact True.intro
    · exact lv0_ints ws d hd
  | fi b =>
    refine ⟨by show 2 ≤ 1000000; decide, fun d hd => ?_⟩
    simp only [List.mem_cons, List.not_mem_nil, or_false] at hd
    rcases hd with e | e <;> rw [e] <;> exact True.intro
theorem lv_rows {m : Nat} {gs : List Gt} (ok : GsOk m gs) (h : gs.length ≤ 200) : Lv 2 (.list (gs.map dGt)) := by
  refine ⟨by rw [List.length_map]; omega, fun d hd => ?_⟩
  obtain ⟨g, hg, rfl⟩ := List.mem_map.mp hd
  obtain ⟨i, hi⟩ := List.mem_iff_getElem?.mp hg
  exact lv_gt (ok i g hi)
theorem lv_strs {ys : List Str} (h : ys.length ≤ 200) : Lv 2 (.list (ys.map PyData.str)) := ⟨by rw [List.length_map]; omega, fun d hd => by
  obtain ⟨y, _, rfl⟩ := List.mem_map.mp hd
  exact True.intro⟩
theorem lv_lists {ys : List Str} {f : Str → List Nat} (h : ys.length ≤ 200) (hf : ∀ y ∈ ys, (f y).length ≤ 200) : Lv 2 (.list (ys.map fun y => .list (dInts (f y)))) := ⟨by rw [List.length_map]; omega, fun d hd => by
  obtain ⟨y, hy, rfl⟩ := List.mem_map.mp hd
  exact ⟨by unfold dInts; rw [List.length_map]; have := hf y hy; omega, lv0_ints _⟩⟩
theorem at_last {us : List V} {v : V} : atI (us ++ [v]) (-1) = some v := by
  unfold atI ixN
  rw [if_neg (by decide), if_pos (by rw [List.length_append]; show -((us.length + 1 : Nat) : Int) ≤ -1; omega)]
  show (us ++ [v])[_]? = _
  have : ((-1 : Int) + ((us ++ [v]).length : Nat)).toNat = us.length := by rw [List.length_append]; simp; omega
  rw [this, List.getElem?_append_right (Nat.le_refl _), Nat.sub_self]
  rfl
theorem last_dps {m : Nat} {gs : List Gt} (h : 1 ≤ m) : atI ((dps m gs).map V.int) (-1) = some (.int (dpW m gs (m + gs.length - 1))) := by
  have l := dps_len m gs
  have e : dps m gs = (dps m gs).take (m + gs.length - 1) ++ [dpW m gs (m + gs.length - 1)] := by
    have := List.take_append_drop (m + gs.length - 1) (dps m gs)
    rw [List.drop_eq_getElem_cons (by omega), List.drop_of_length_le (by omega)] at this
    rw [show dpW m gs (m + gs.length - 1) = (dps m gs)[m + gs.length - 1] from by unfold dpW; simp [List.getD, List.getElem?_eq_getElem (show m + gs.length - 1 < (dps m gs).length by omega)]]
    exact this.symm
  generalize (dps m gs).take (m + gs.length - 1) = t at *
  generalize dpW m gs (m + gs.length - 1) = v at *
  rw [e, List.map_append]
  exact at_last
def spStands (C : Addr) : Sp := fun vs H Q _ => ∃ (Z Zl : List Addr) (p : NetP) (m : Nat) (gs : List Gt) (nm : List (Str × List Nat)) (R d : Addr), vs = [.ref p.x, .int (m : Int), .ref R, .ref d] ∧ NetAt C Z H p m gs nm ∧ RowsAt46 H R gs ∧ GsOk m gs ∧ LsAt Zl H p d nm ∧ nm.length ≤ 20 ∧ (∀ x ∈ nm, x.2.length ≤ 8 ∧ ∀ w ∈ x.2, w < m + gs.length) ∧ 1 ≤ m ∧ m ≤ 100 ∧ gs.length ≤ 200 ∧ ∀ H', Same H H' → Q (.bl true) H'
theorem ok__law_stands (B : Bl mg) (L : LL K mg C a1 a2 a3 a4 a5 a6 a7 a8 a9 a10 a11 a12 a13 a14 a15 a16 a17 a18 a19 a20 a21 a22 a23 a24 a25 l1 l2 l3 l4 l5 l6 l7 l8 l9 l10 l11 l12 l13 l14 l15 l16 l17 l18 l19 l20 l21 l22 l23 l24 l25) : FnOk P w K mg base CX0 8 a8 l8 ["_law_net", "_law_many", "_law_rows", "_law_lists"] (spStands C) := by
  have G__law_same : FnOk P w K mg base CX0 7 a3 l3 ["_law_found", "_law_due"] (spSame K 4) := (ok_same L.F__law_same L.b__law_same L.m__law_same B 4).mono (by decide)
  have G_Net_gates : FnOk P w K mg base CX0 7 a23 l23 ["self"] (spGates C) := (ok_Net_gates B L).mono (by decide)
  have G_Net_names : FnOk P w K mg base CX0 7 a21 l21 ["self"] (spNames C) := (ok_Net_names B L).mono (by decide)
  have G_Net_given : FnOk P w K mg base CX0 7 a20 l20 ["self", "name"] (spGiven C) := (ok_Net_given B L).mono (by decide)
  have G_Net_depth : FnOk P w K mg base CX0 7 a24 l24 ["self", "wire"] (spDepth C) := (ok_Net_depth B L).mono (by decide)
  have G_Net_inputs : FnOk P w K mg base CX0 7 a22 l22 ["self"] (spInputs C) := (ok_Net_inputs B L).mono (by decide)
  have G__law_depths : FnOk P w K mg base CX0 7 a7 l7 ["_law_rows", "_law_many"] spDeps := (ok__law_depths B L).mono (by decide)
  refine L.F__law_stands.ok sc__law_stands (fun vs H Q E h => ?_) (fun cdv A outer s H vs Q E hr h => ?_)
  · obtain ⟨Z, Zl, p, m, gs, nm, R, d, rfl, _⟩ := h
    rfl
  obtain ⟨Z, Zl, p, m, gs, nm, R, d, rfl, hN, hR, ok, hL, hnm, hws, m1, m9, hg, q⟩ := h
  refine ⟨_, (pss_cons (ps_set (i := 4) sc__law_stands.nd rfl (.inl rfl) (pe_lst (pa_cons (pe_meth0 (pv 0) L.T.cl L.M_Net_gates G_Net_gates hr L.b_Net_gates .nil pass0) (pa_cons (pe_meth0 (pv 0) L.T.cl L.M_Net_names G_Net_names hr L.b_Net_names .nil pass0) (pa_cons (pe_lc (own := [("_law_name", 7)]) (by rfl) sc__law_stands.nd (pi_list (pe_callB (call_sortedD rfl) (by rfl) L.z_sorted boot_sorted (pa_cons (pv 3) pa_nil))) (blkOk_by (own := [("_law_name", 7)]) (N := ["_law_net", "_law_many", "_law_rows", "_law_lists", "_law_told", "_law_last", "_law_one", "_law_name", "_law_wire"]) (sc := defScope s__law_stands) (by decide +kernel)) (fun _ _ _ _ _ => pg_name (i := 7) sc__law_stands.nd rfl (Or.inl rfl)) (fun _ _ _ _ _ => pts_nil) (fun _ _ _ _ _ => (pe_meth (pv 0) L.T.cl L.M_Net_given G_Net_given hr L.b_Net_given .nil pass0 (pa_cons (pv 7) pa_nil)))) pa_nil)))))
    (pss_cons (ps_if (pt_not (pt_val (pe_call G__law_same hr (by rfl) L.m__law_same L.F__law_same.kp L.b__law_same .nil pass0 (pa_cons (pv 4) (pa_cons (pe_lst (pa_cons (pv 2) (pa_cons (pe_callB (call_sortedD rfl) (by rfl) L.z_sorted boot_sorted (pa_cons (pv 3) pa_nil)) (pa_cons (pe_lc (own := [("_law_name", 7)]) (by rfl) sc__law_stands.nd (pi_list (pe_callB (call_sortedD rfl) (by rfl) L.z_sorted boot_sorted (pa_cons (pv 3) pa_nil))) (blkOk_by (own := [("_law_name", 7)]) (N := ["_law_net", "_law_many", "_law_rows", "_law_lists", "_law_told", "_law_last", "_law_one", "_law_name", "_law_wire"]) (sc := defScope s__law_stands) (by decide +kernel)) (fun _ _ _ _ _ => pg_name (i := 7) sc__law_stands.nd rfl (Or.inl rfl)) (fun _ _ _ _ _ => pts_nil) (fun _ _ _ _ _ => (pe_dget (units1 hr) (pv 3) (pv 7) (fun _ _ => rfl)))) pa_nil)))) pa_nil))))) (pss_one (ps_ret pe_bl)) pss_nil)
    (pss_cons (ps_set (i := 5) sc__law_stands.nd rfl (.inl rfl) (pe_meth (pv 0) L.T.cl L.M_Net_depth G_Net_depth hr L.b_Net_depth .nil pass0 (pa_cons (pe_op op_sub (pe_op op_add (pv 1) (pe_callB call_len_seq (by rfl) B.len PySem.boot_len (pa_cons (pv 2) pa_nil))) pe_int) pa_nil)))
    (pss_cons (ps_if (pt_not (pt_val (pe_call G__law_same hr (by rfl) L.m__law_same L.F__law_same.kp L.b__law_same .nil pass0 (pa_cons (pe_lst (pa_cons (pe_meth0 (pv 0) L.T.cl L.M_Net_inputs G_Net_inputs hr L.b_Net_inputs .nil pass0) (pa_cons (pe_callB (call_lenOwn L.M_Net___len__ (ok_Net___len__ B L) L.b_Net___len__ (hr.mono (by decide)) pass0) (by rfl) B.len boot_len (pa_cons (pv 0) pa_nil)) (pa_cons (pv 5) pa_nil)))) (pa_cons (pe_lst (pa_cons (pv 1) (pa_cons (pe_callB call_len_seq (by rfl) B.len PySem.boot_len (pa_cons (pv 2) pa_nil)) (pa_cons (pe_ix ix_list (pe_call G__law_depths hr (by rfl) L.m__law_depths L.F__law_depths.kp L.b__law_depths .nil pass0 (pa_cons (pv 2) (pa_cons (pv 1) pa_nil))) (pe_un un_neg pe_int) (fun _ _ => rfl)) pa_nil)))) pa_nil))))) (pss_one (ps_ret pe_bl)) pss_nil)
    (pss_cons (ps_if (pt_not (pt_val (pe_call G__law_same hr (by rfl) L.m__law_same L.F__law_same.kp L.b__law_same .nil pass0 (pa_cons (pe_lc (own := [("_law_wire", 8)]) (by rfl) sc__law_stands.nd (pi_range1 (by rfl) B.range (pa_cons (pe_op op_add (pv 1) (pe_callB call_len_seq (by rfl) B.len PySem.boot_len (pa_cons (pv 2) pa_nil))) pa_nil)) (blkOk_by (own := [("_law_wire", 8)]) (N := ["_law_net", "_law_many", "_law_rows", "_law_lists", "_law_told", "_law_last", "_law_one", "_law_name", "_law_wire"]) (sc := defScope s__law_stands) (by decide +kernel)) (fun _ _ _ _ _ => pg_name (i := 8) sc__law_stands.nd rfl (Or.inl rfl)) (fun _ _ _ _ _ => pts_nil) (fun _ _ _ _ _ => (pe_meth (pv 0) L.T.cl L.M_Net_depth G_Net_depth hr L.b_Net_depth .nil pass0 (pa_cons (pv 8) pa_nil)))) (pa_cons (pe_call G__law_depths hr (by rfl) L.m__law_depths L.F__law_depths.kp L.b__law_depths .nil pass0 (pa_cons (pv 2) (pa_cons (pv 1) pa_nil))) pa_nil))))) (pss_one (ps_ret pe_bl)) pss_nil)
    (pss_cons (ps_expr (pe_bm PySem.F.plainAttrs_list PySem.F.slot_list_append PySem.F.type_list_append mt_append (pe_ix ix_list (pv 4) pe_int (fun _ _ => rfl)) (pa_cons (pe_tup (pa_cons pe_str (pa_cons pe_int (pa_cons pe_int pa_nil)))) pa_nil)))
    (pss_cons (ps_expr (pe_bm PySem.F.plainAttrs_list PySem.F.slot_list_append PySem.F.type_list_append mt_append (pe_ix ix_list (pv 4) pe_int (fun _ _ => rfl)) (pa_cons pe_str pa_nil)))
    (pss_cons (ps_for PassesOwn.never rfl (pi_list (pe_ix ix_list (pv 4) pe_int (fun _ _ => rfl))) (pg_name (i := 6) sc__law_stands.nd rfl (.inl rfl)) (pss_one (ps_expr (pe_bm PySem.F.plainAttrs_list PySem.F.slot_list_append PySem.F.type_list_append mt_append (pv 6) (pa_cons pe_int pa_nil)))))
    (pss_one (ps_ret (pe_call G__law_same hr (by rfl) L.m__law_same L.F__law_same.kp L.b__law_same .nil pass0 (pa_cons (pe_lst (pa_cons (pe_meth0 (pv 0) L.T.cl L.M_Net_gates G_Net_gates hr L.b_Net_gates .nil pass0) (pa_cons (pe_meth0 (pv 0) L.T.cl L.M_Net_names G_Net_names hr L.b_Net_names .nil pass0) pa_nil))) (pa_cons (pe_lst (pa_cons (pv 2) (pa_cons (pe_callB (call_sortedD rfl) (by rfl) L.z_sorted boot_sorted (pa_cons (pv 3) pa_nil)) pa_nil))) pa_nil))))))))))))), ?_⟩
  obtain ⟨zl0, ldz, ld2, kvs, ed, NL⟩ := id hL
  have keys : kvs.map (·.1) = (nm.map (·.1)).map Sum.inr := by rw [NL.keys, List.map_map]; rfl
  have at_nm : ∀ {y : Str}, y ∈ nm.map (·.1) → ∃ i : Nat, nm[i]? = some (y, lkN nm y) := fun {y} hy => by
    obtain ⟨x, hx, ex⟩ := List.mem_map.mp hy
    obtain ⟨i, hi⟩ := List.mem_iff_getElem?.mp hx
    have hi' : nm[i]? = some (y, x.2) := by rw [hi, ← ex]
    exact ⟨i, by rw [lkN_at NL.2.1 hi']; exact hi'⟩
  obtain ⟨_, _, _, dx0, _, _, f0, _⟩ := id hN
  refine ⟨_, rfl, p.x, dx0, _, rfl, f0, rfl, Z, p, m, gs, nm, rfl, hN, fun t1 ps nt1 lp hps => ?_⟩
  have s1 := same_upd (o := .lst (ps.map V.ref)) nt1
  have e1 : (upd H t1 (.lst (ps.map V.ref))) t1 = some (.lst (ps.map V.ref)) := upd_same
  have N1 := hN.same s1
  generalize upd H t1 (.lst (ps.map V.ref)) = H1 at *
  obtain ⟨_, _, _, dx1, _, _, f1, _⟩ := id N1
  refine ⟨_, rfl, p.x, dx1, _, rfl, f1, rfl, Z, p, m, gs, nm, rfl, N1, by omega, fun ys t2 H2 hp hs s2 nt2 e2 => ?_⟩
  have N2 := N1.same s2
  have s02 := s1.trans s2
  refine ⟨_, rfl, d, kvs, nm.map (·.1), rfl, .of (s02 _ _ ed), keys, by rw [List.length_map]; omega, fun zs p3 hp3 hs3 np3 => ?_⟩
  obtain rfl : zs = ys := sortS_one hp3 hs3 hp hs
  have s3 := same_upd (o := .lst (zs.map V.str)) np3
  have e3 : (upd H2 p3 (.lst (zs.map V.str))) p3 = some (.lst (zs.map V.str)) := upd_same
  have s03 := s02.trans s3
  have e1' := s3 _ _ (s2 _ _ e1)
  have e2' := s3 _ _ e2
  have N3 := N2.same s3
  generalize upd H2 p3 (.lst (zs.map V.str)) = H3 at *
  refine ⟨p3, rfl, ⟨_, SqL.of e3⟩, fun D3 nD3 => ?_⟩
  refine lc_it (walk_list (K := K) (a := p3) (xs := zs.map V.str)) (fun j H5 => ∃ ls : List Addr, ls.length = j ∧ Same H3 H5 ∧ H5 D3 = some (.lst (ls.map V.ref)) ∧ D3 ∉ ls ∧ ∀ (i : Nat) (l : Addr) (y : Str), ls[i]? = some l → zs[i]? = some y → H5 l = some (.lst (nts (lkN nm y))) ∧ H3 l = none) ⟨[], rfl, same_upd nD3, upd_same, (fun z => nomatch z), fun i l y h => by simp at h⟩ (fun j H5 _ ⟨_, _, s5, _⟩ => SqL.of (s5 _ _ e3)) ?_ ?_
  · rintro j v H6 H5 hj ⟨ls, ll, s5, eD, nDl, hls⟩ ⟨rfl, hz⟩
    replace hz : (zs.map V.str)[j]? = some v := hz
    rw [List.length_map] at hj
    rw [List.getElem?_map, List.getElem?_eq_getElem hj] at hz
    have hy : zs[j]? = some zs[j] := List.getElem?_eq_getElem hj
    cases hz
    generalize zs[j] = y at *
    obtain ⟨i, hi⟩ := at_nm (hp.mem_iff.mp (List.mem_of_getElem? hy))
    have N5 := N3.same s5
    obtain ⟨_, _, _, dx5, _, _, f5, _⟩ := id N5
    dsimp only [gName]
    refine ⟨rfl, yesT ?_⟩
    try simp only [L2.start, List.map_cons, List.map_nil, List.length_cons, List.length_nil, List.replicate_succ, List.replicate_zero, List.cons_append, List.nil_append, List.set_cons_succ, List.set_cons_zero, Nat.reduceAdd, Nat.reduceSub, Nat.zero_add]
    refine ⟨_, rfl, p.x, dx5, _, rfl, f5, rfl, _, rfl, Z, p, m, gs, nm, i, y, _, rfl, N5, hi, fun t nt => ?_⟩
    have st := same_upd (o := .lst (nts (lkN nm y))) nt
    have tD : t ≠ D3 := fun z => by rw [z, eD] at nt; cases nt
    refine ⟨_, st _ _ eD, by rw [List.length_map, ll]; exact big_lt (by have := hp.length_eq; rw [List.length_map] at this; omega), ls ++ [t], by rw [List.length_append, ll]; rfl, fun a o e => ?_, by rw [upd_same, List.map_append]; rfl, fun z => ?_, fun i' l' y' h1 h2 => ?_⟩
    · rw [upd_ne (ne_of_none e nD3)]
      exact st _ _ (s5 _ _ e)
    · rcases List.mem_append.mp z with w | w
      · exact nDl w
      · exact tD (List.mem_singleton.mp w).symm
    · by_cases c : i' < ls.length
      · rw [List.getElem?_append_left c] at h1
        obtain ⟨b1, b2⟩ := hls i' l' y' h1 h2
        exact ⟨by rw [upd_ne (show l' ≠ D3 from fun z => nDl (by rw [← z]; exact List.mem_of_getElem? h1))]; exact st _ _ b1, b2⟩
      · have i0 : i' = ls.length := by
          have := (List.getElem?_eq_some_iff.mp h1).1
          rw [List.length_append, List.length_cons, List.length_nil] at this
          omega
        rw [List.getElem?_append_right (by omega), i0, Nat.sub_self] at h1
        rw [i0, ll, hy] at h2
        cases h1
        cases h2
        refine ⟨by rw [upd_ne tD, upd_same], ?_⟩
        cases e : H3 t with
        | none => rfl
        | some o => rw [s5 _ _ e] at nt; cases nt
  rintro H5 ⟨ls, ll, s5, eD, nDl, hls⟩
  rw [List.length_map] at ll
  have lz : zs.length = nm.length := by have := hp.length_eq; rw [List.length_map] at this; exact this
  refine ⟨(by show 3 ≤ sizeLine; decide), fun T1 nT1 => ?_⟩
  have sT1 := same_upd (o := .lst [.ref t1, .ref t2, .ref D3]) nT1
  have eT1 : (upd H5 T1 (.lst [.ref t1, .ref t2, .ref D3])) T1 = some (.lst [.ref t1, .ref t2, .ref D3]) := upd_same
  have s0T : Same H _ := (s03.trans s5).trans sT1
  have e1T := sT1 _ _ (s5 _ _ e1')
  have e2T := sT1 _ _ (s5 _ _ e2')
  have e3T := sT1 _ _ eD
  have hlT : ∀ (i : Nat) (l : Addr) (y : Str), ls[i]? = some l → zs[i]? = some y → (upd H5 T1 (.lst [.ref t1, .ref t2, .ref D3])) l = some (.lst (nts (lkN nm y))) := fun i l y h1 h2 => sT1 _ _ (hls i l y h1 h2).1
  generalize upd H5 T1 (.lst [.ref t1, .ref t2, .ref D3]) = HT at *
  dsimp only [gName]
  try simp only [L2.start, List.map_cons, List.map_nil, List.length_cons, List.length_nil, List.replicate_succ, List.replicate_zero, List.cons_append, List.nil_append, List.set_cons_succ, List.set_cons_zero, Nat.reduceAdd, Nat.reduceSub, Nat.zero_add]
  refine ⟨_, rfl, _, rfl, _, rfl, d, kvs, nm.map (·.1), rfl, .of (s0T _ _ ed), keys, by rw [List.length_map]; omega, fun zs2 p4 hp4 hs4 np4 => ?_⟩
  obtain rfl : zs2 = zs := sortS_one hp4 hs4 hp hs
  have s4 := same_upd (o := .lst (zs2.map V.str)) np4
  have e4 : (upd HT p4 (.lst (zs2.map V.str))) p4 = some (.lst (zs2.map V.str)) := upd_same
  have s04 := s0T.trans s4
  have sT4 : Same HT _ := s4
  generalize upd HT p4 (.lst (zs2.map V.str)) = H7 at *
  refine ⟨_, rfl, d, kvs, nm.map (·.1), rfl, .of (s04 _ _ ed), keys, by rw [List.length_map]; omega, fun zs3 p5 hp5 hs5 np5 => ?_⟩
  obtain rfl : zs3 = zs2 := sortS_one hp5 hs5 hp hs
  have s6 := same_upd (o := .lst (zs3.map V.str)) np5
  have e6 : (upd H7 p5 (.lst (zs3.map V.str))) p5 = some (.lst (zs3.map V.str)) := upd_same
  have s06 := s04.trans s6
  have sT6 := sT4.trans s6
  generalize upd H7 p5 (.lst (zs3.map V.str)) = H8 at *
  refine ⟨p5, rfl, ⟨_, SqL.of e6⟩, fun D6 nD6 => ?_⟩
  refine lc_it (walk_list (K := K) (a := p5) (xs := zs3.map V.str)) (fun j H9 => ∃ ls2 : List Addr, ls2.length = j ∧ Same H8 H9 ∧ H9 D6 = some (.lst (ls2.map V.ref)) ∧ ∀ (i : Nat) (l : Addr) (y : Str), ls2[i]? = some l → zs3[i]? = some y → H8 l = some (.lst (nts (lkN nm y)))) ⟨[], rfl, same_upd nD6, upd_same, fun i l y h => by simp at h⟩ (fun j H9 _ ⟨_, _, s9, _⟩ => SqL.of (s9 _ _ e6)) ?_ ?_
  · rintro j v H10 H9 hj ⟨ls2, ll2, s9, eD6, hls2⟩ ⟨rfl, hz⟩
    replace hz : (zs3.map V.str)[j]? = some v := hz
    rw [List.length_map] at hj
    rw [List.getElem?_map, List.getElem?_eq_getElem hj] at hz
    have hy : zs3[j]? = some zs3[j] := List.getElem?_eq_getElem hj
    cases hz
    generalize zs3[j] = y at *
    obtain ⟨i, hi⟩ := at_nm (hp.mem_iff.mp (List.mem_of_getElem? hy))
    obtain ⟨l, ev, el⟩ := NL.in_ hi
    dsimp only [gName]
    refine ⟨rfl, yesT ?_⟩
    try simp only [L2.start, List.map_cons, List.map_nil, List.length_cons, List.length_nil, List.replicate_succ, List.replicate_zero, List.cons_append, List.nil_append, List.set_cons_succ, List.set_cons_zero, Nat.reduceAdd, Nat.reduceSub, Nat.zero_add]
    refine ⟨_, rfl, _, rfl, d, .ref l, rfl, ?_, ?_⟩
    · rw [← ev]
      exact DGet.k (k := .inr y) (s9 _ _ (s06 _ _ ed))
    refine ⟨_, eD6, by rw [List.length_map, ll2]; exact big_lt (by omega), ls2 ++ [l], by rw [List.length_append, ll2]; rfl, fun a o e => ?_, by rw [upd_same, List.map_append]; rfl, fun i' l' y' h1 h2 => ?_⟩
    · rw [upd_ne (ne_of_none e nD6)]
      exact s9 _ _ e
    · by_cases c : i' < ls2.length
      · rw [List.getElem?_append_left c] at h1
        exact hls2 i' l' y' h1 h2
      · have i0 : i' = ls2.length := by
          have := (List.getElem?_eq_some_iff.mp h1).1
          rw [List.length_append, List.length_cons, List.length_nil] at this
          omega
        rw [List.getElem?_append_right (by omega), i0, Nat.sub_self] at h1
        rw [i0, ll2, hy] at h2
        cases h1
        cases h2
        exact s06 _ _ el
  rintro H9 ⟨ls2, ll2, s9, eD6, hls2⟩
  rw [List.length_map] at ll2
  refine ⟨(by show 3 ≤ sizeLine; decide), fun T2 nT2 => ?_⟩
  have sT2 := same_upd (o := .lst [.ref R, .ref p4, .ref D6]) nT2
  have eT2 : (upd H9 T2 (.lst [.ref R, .ref p4, .ref D6])) T2 = some (.lst [.ref R, .ref p4, .ref D6]) := upd_same
  have sTX : Same HT _ := (sT6.trans s9).trans sT2
  have s0X := (s06.trans s9).trans sT2
  have e4X := sT2 _ _ (s9 _ _ (s6 _ _ e4))
  have eDX := sT2 _ _ eD6
  have hlX : ∀ (i : Nat) (l : Addr) (y : Str), ls2[i]? = some l → zs3[i]? = some y → (upd H9 T2 (.lst [.ref R, .ref p4, .ref D6])) l = some (.lst (nts (lkN nm y))) := fun i l y h1 h2 => sT2 _ _ (s9 _ _ (hls2 i l y h1 h2))
  generalize upd H9 T2 (.lst [.ref R, .ref p4, .ref D6]) = HX at *
  obtain ⟨ts, lts, eR, hts⟩ := id hR
  have hlk : ∀ y ∈ zs3, (lkN nm y).length ≤ 200 := fun y hy => by
    obtain ⟨i, hi⟩ := at_nm (hp.mem_iff.mp hy)
    have := (hws _ (List.mem_of_getElem? hi)).1
    dsimp only at this
    omega
  have ea : (zs3.map (lkN nm)).map (fun ws => PyData.list (dInts ws)) = zs3.map fun y => .list (dInts (lkN nm y)) := by rw [List.map_map]; rfl
  have dL : ∀ {G : Hp} (ls : List Addr), ls.length = zs3.length → (∀ (i : Nat) (l : Addr) (y : Str), ls[i]? = some l → zs3[i]? = some y → G l = some (.lst (nts (lkN nm y)))) → DpAll K G (ls.map V.ref) (zs3.map fun y => .list (dInts (lkN nm y))) := fun {G} ls h f => by
    rw [← ea]
    refine dpa_lists ls _ (by rw [List.length_map]; exact h) (fun i l ws h1 h2 => ?_)
    rw [List.getElem?_map] at h2
    cases hy : zs3[i]? with
    | none => rw [hy] at h2; cases h2
    | some y =>
      rw [hy] at h2
      cases h2
      exact f i l y h1 hy
  refine ⟨.ref T1, .ref T2, .list [.list (gs.map dGt), .list (zs3.map PyData.str), .list (zs3.map fun y => .list (dInts (lkN nm y)))], 3, rfl, rfl, ⟨by show 3 ≤ 1000000; decide, fun dd hdd => ?_⟩,
    .lst (SqL.of (sTX _ _ eT1)) (.cons (.lst (SqL.of (sTX _ _ e1T)) (dpa_rows ps gs lp fun i t g h1 h2 => s0X _ _ (hps i t g h1 h2))) (.cons (.lst (SqL.of (sTX _ _ e2T)) (dpa_strs _)) (.cons (.lst (SqL.of (sTX _ _ e3T)) (dL ls ll fun i l y h1 h2 => sTX _ _ (hlT i l y h1 h2))) .nil))),
    .lst (SqL.of eT2) (.cons (.lst (SqL.of (s0X _ _ eR)) (dpa_rows ts gs lts fun i t g h1 h2 => s0X _ _ (hts i t g h1 h2))) (.cons (.lst (SqL.of e4X) (dpa_strs _)) (.cons (.lst (SqL.of eDX) (dL ls2 ll2 hlX)) .nil))), fun HY sY => ?_⟩
  · simp only [List.mem_cons, List.not_mem_nil, or_false] at hdd
    rcases hdd with e | e | e <;> rw [e]
    · exact lv_rows ok hg
    · exact lv_strs (by omega)
    · exact lv_lists (by omega) hlk
  refine ⟨_, rfl, iteF ?_⟩
  dsimp only [tNext]
  have s0Y := s0X.trans sY
  have NY := hN.same s0Y
  have eRY := s0Y _ _ eR
  obtain ⟨_, _, _, dxY, _, _, fY, _⟩ := id NY
  refine ⟨_, rfl, p.x, dxY, _, rfl, fY, rfl, _, rfl, _, rfl, R, _, rfl, .inl (SqL.of eRY), ?_⟩
  rw [List.length_map, lts]
  refine ⟨_, _, rfl, rfl, _, _, rfl, rfl, Z, p, m, gs, nm, m + gs.length - 1, ?_, NY, by omega, fun HZ sZ => ?_⟩
  · have : (m : Int) + (gs.length : Int) - 1 = ((m + gs.length - 1 : Nat) : Int) := by omega
    rw [← this]
    rfl
  have s0Z := s0Y.trans sZ
  have NZ := hN.same s0Z
  obtain ⟨_, _, _, dxZ, _, _, fZ, _⟩ := id NZ
  dsimp only [gName]
  try simp only [L2.start, List.map_cons, List.map_nil, List.length_cons, List.length_nil, List.replicate_succ, List.replicate_zero, List.cons_append, List.nil_append, List.set_cons_succ, List.set_cons_zero, Nat.reduceAdd, Nat.reduceSub, Nat.zero_add]
  refine ⟨_, rfl, p.x, dxZ, _, rfl, fZ, rfl, Z, p, m, gs, nm, rfl, NZ, ?_⟩
  refine ⟨_, rfl, p.x, dxZ, _, rfl, fZ, Z, p, m, gs, nm, rfl, NZ, _, rfl, by omega, by omega, ?_⟩
  refine ⟨_, rfl, (by show 3 ≤ sizeLine; decide), fun T3 nT3 => ?_⟩
  have sT3 := same_upd (o := .lst [.int (m : Int), .int (gs.length : Nat), .int (dpW m gs (m + gs.length - 1))]) nT3
  have eT3 : (upd HZ T3 (.lst [.int (m : Int), .int (gs.length : Nat), .int (dpW m gs (m + gs.length - 1))])) T3 = some (.lst [.int (m : Int), .int (gs.length : Nat), .int (dpW m gs (m + gs.length - 1))]) := upd_same
  have s0A := s0Z.trans sT3
  generalize upd HZ T3 (.lst [.int (m : Int), .int (gs.length : Nat), .int (dpW m gs (m + gs.length - 1))]) = HA at *
  refine ⟨_, rfl, _, rfl, R, _, rfl, .inl (SqL.of (s0A _ _ eR)), ?_⟩
  rw [List.length_map, lts]
  refine ⟨_, rfl, _, rfl, R, m, gs, rfl, ⟨ts, lts, s0A _ _ eR, fun i t g h1 h2 => s0A _ _ (hts i t g h1 h2)⟩, ok, m9, hg, fun D7 HB sB n7 e7 => ?_⟩
  refine ⟨_, rfl, D7, _, _, _, rfl, rfl, SqL.of e7, last_dps m1, ?_⟩
  refine ⟨(by show 3 ≤ sizeLine; decide), fun T4 nT4 => ?_⟩
  have sT4' := same_upd (o := .lst [.int (m : Int), .int (gs.length : Nat), .int (dpW m gs (m + gs.length - 1))]) nT4
  have eT4 : (upd HB T4 (.lst [.int (m : Int), .int (gs.length : Nat), .int (dpW m gs (m + gs.length - 1))])) T4 = some (.lst [.int (m : Int), .int (gs.length : Nat), .int (dpW m gs (m + gs.length - 1))]) := upd_same
  have s0C := (s0A.trans sB).trans sT4'
  have eT3C := sT4' _ _ (sB _ _ eT3)
  generalize upd HB T4 (.lst [.int (m : Int), .int (gs.length : Nat), .int (dpW m gs (m + gs.length - 1))]) = HC at *
  refine ⟨.ref T3, .ref T4, .list [.int (m : Int), .int (gs.length : Nat), .int (dpW m gs (m + gs.length - 1))], 3, rfl, rfl, ⟨by show 3 ≤ 1000000; decide, fun dd hdd => ?_⟩, .lst (SqL.of eT3C) (.cons (.int _) (.cons (.int _) (.cons (.int _) .nil))), .lst (SqL.of eT4) (.cons (.int _) (.cons (.int _) (.cons (.int _) .nil))), fun HD sD => ?_⟩
  · simp only [List.mem_cons, List.not_mem_nil, or_false] at hdd
    rcases hdd with e | e | e <;> rw [e] <;> exact True.intro
  refine ⟨_, rfl, iteF ?_⟩
  dsimp only [tNext]
  have s0D := s0C.trans sD
  have eRD := s0D _ _ eR
  refine ⟨_, rfl, _, rfl, R, _, rfl, .inl (SqL.of eRD), ?_⟩
  rw [List.length_map, lts]
  refine ⟨_, _, rfl, rfl, ?_⟩
  dsimp only
  rw [show (m : Int) + (gs.length : Int) = ((m + gs.length : Nat) : Int) by omega]
  refine ⟨_, rfl, by omega, by omega, fun D8 nD8 => ?_⟩
  rw [Int.toNat_natCast]
  refine lc_range (n := m + gs.length) (fun j H1 => Same HD H1 ∧ H1 D8 = some (.lst (((dps m gs).take j).map V.int))) ⟨same_upd nD8, upd_same⟩ ?_ ?_
  · rintro j H1 hj ⟨s1', eD8⟩
    have N1' := hN.same (s0D.trans s1')
    obtain ⟨_, _, _, dx1', _, _, f1', _⟩ := id N1'
    dsimp only [gName]
    refine ⟨rfl, yesT ?_⟩
    try simp only [L2.start, List.map_cons, List.map_nil, List.length_cons, List.length_nil, List.replicate_succ, List.replicate_zero, List.cons_append, List.nil_append, List.set_cons_succ, List.set_cons_zero, Nat.reduceAdd, Nat.reduceSub, Nat.zero_add]
    refine ⟨_, rfl, p.x, dx1', _, rfl, f1', rfl, _, rfl, Z, p, m, gs, nm, j, by rw [Int.zero_add]; rfl, N1', hj, fun H3' s3' => ?_⟩
    have lt : j < (dps m gs).length := by rw [dps_len]; exact hj
    refine ⟨_, s3' _ _ eD8, by rw [List.length_map, List.length_take]; exact big_lt (by omega), fun a o e => ?_, ?_⟩
    · rw [upd_ne (ne_of_none e nD8)]
      exact s3' _ _ (s1' _ _ e)
    · rw [upd_same, List.take_add_one, List.getElem?_eq_getElem lt, List.map_append]
      have : dpW m gs j = (dps m gs)[j] := by unfold dpW; simp [List.getD, List.getElem?_eq_getElem lt]
      rw [this]
      rfl
  rintro HE ⟨sE, eD8⟩
  rw [List.take_of_length_le (by rw [dps_len]; omega)] at eD8
  have s0E := s0D.trans sE
  refine ⟨_, rfl, _, rfl, R, m, gs, rfl, ⟨ts, lts, s0E _ _ eR, fun i t g h1 h2 => s0E _ _ (hts i t g h1 h2)⟩, ok, m9, hg, fun D9 HF sF n9 e9 => ?_⟩
  refine ⟨.ref D8, .ref D9, .list ((dps m gs).map PyData.int), 3, rfl, rfl, ⟨by rw [List.length_map, dps_len]; omega, fun dd hdd => ?_⟩, .lst (SqL.of (sF _ _ eD8)) (dp_ints _), .lst (SqL.of e9) (dp_ints _), fun HG sG => ?_⟩
  · obtain ⟨x, _, rfl⟩ := List.mem_map.mp hdd
    exact True.intro
  refine ⟨_, rfl, iteF ?_⟩
  dsimp only [tNext]
  have sXG : Same HX HG := ((((((sY.trans sZ).trans sT3).trans sB).trans sT4').trans sD).trans sE).trans (sF.trans sG)
  have sTG : Same HT HG := sTX.trans sXG
  have s0G := s0X.trans sXG
  have eT1G := sTG _ _ eT1
  have g1 := sTG _ _ e1T
  have g2 := sTG _ _ e2T
  have g3 := sTG _ _ e3T
  refine ⟨_, rfl, T1, _, _, _, rfl, rfl, SqL.of eT1G, atI_nat (j := 0) rfl, .inl ⟨rfl, _, SqL.of g1⟩, (by show 3 ≤ sizeLine; decide), fun U nU => ?_⟩
  refine ⟨t1, _, _, rfl, rfl, (same_upd nU) _ _ g1, by rw [List.length_map, lp]; exact big_lt (by omega), ?_⟩
  have h1n : H t1 = none := nt1
  have h2n : H t2 = none := back s1 nt2
  have h3n : H D3 = none := back s03 nD3
  have t12 : t1 ≠ t2 := ne_of_none e1 nt2
  have t13 : t1 ≠ D3 := ne_of_none e1' nD3
  have t23 : t2 ≠ D3 := ne_of_none e2' nD3
  have T1a : t1 ≠ T1 := ne_of_none (s5 _ _ e1') nT1
  have T1b : t2 ≠ T1 := ne_of_none (s5 _ _ e2') nT1
  have sU := same_upd (o := .tup [.str "both", .int 0, .int 0]) nU
  have m0 : Same H (upd (upd HG U (.tup [.str "both", .int 0, .int 0])) t1 (.lst (ps.map V.ref ++ [.ref U]))) := sameN (s0G.trans sU) h1n
  have mT : (upd (upd HG U (.tup [.str "both", .int 0, .int 0])) t1 (.lst (ps.map V.ref ++ [.ref U]))) T1 = some (.lst [.ref t1, .ref t2, .ref D3]) := by rw [upd_ne T1a.symm]; exact sU _ _ eT1G
  have m2 : (upd (upd HG U (.tup [.str "both", .int 0, .int 0])) t1 (.lst (ps.map V.ref ++ [.ref U]))) t2 = some (.lst (zs3.map V.str)) := by rw [upd_ne t12.symm]; exact sU _ _ g2
  have m3 : (upd (upd HG U (.tup [.str "both", .int 0, .int 0])) t1 (.lst (ps.map V.ref ++ [.ref U]))) D3 = some (.lst (ls.map V.ref)) := by rw [upd_ne t13.symm]; exact sU _ _ g3
  have ln3 : ∀ (i : Nat) (l : Addr) (y : Str), ls[i]? = some l → zs3[i]? = some y → H l = none ∧ l ≠ D3 ∧ (upd (upd HG U (.tup [.str "both", .int 0, .int 0])) t1 (.lst (ps.map V.ref ++ [.ref U]))) l = some (.lst (nts (lkN nm y))) ∧ l ≠ T1 ∧ l ≠ t2 := fun i l y h1 h2 => by
    obtain ⟨b1, b2⟩ := hls i l y h1 h2
    have lt1 : l ≠ t1 := (ne_of_none e1' b2).symm
    exact ⟨back s03 b2, (fun z => nDl (by rw [← z]; exact List.mem_of_getElem? h1)), by rw [upd_ne lt1]; exact sU _ _ (sTG _ _ (hlT i l y h1 h2)), ne_of_none b1 nT1, (ne_of_none e2' b2).symm⟩
  generalize upd (upd HG U (.tup [.str "both", .int 0, .int 0])) t1 (.lst (ps.map V.ref ++ [.ref U])) = HK at *
  refine ⟨_, rfl, T1, _, _, _, rfl, rfl, SqL.of mT, atI_nat (j := 1) rfl, .inl ⟨rfl, _, SqL.of m2⟩, t2, _, _, rfl, rfl, m2, by rw [List.length_map]; exact big_lt (by omega), ?_⟩
  have q0 : Same H (upd HK t2 (.lst (zs3.map V.str ++ [.str "qq"]))) := sameN m0 h2n
  have qT : (upd HK t2 (.lst (zs3.map V.str ++ [.str "qq"]))) T1 = some (.lst [.ref t1, .ref t2, .ref D3]) := by rw [upd_ne T1b.symm]; exact mT
  have q3 : (upd HK t2 (.lst (zs3.map V.str ++ [.str "qq"]))) D3 = some (.lst (ls.map V.ref)) := by rw [upd_ne t23.symm]; exact m3
  have ln4 : ∀ (i : Nat) (l : Addr), ls[i]? = some l → H l = none ∧ l ≠ D3 ∧ ∃ xs : List V, (upd HK t2 (.lst (zs3.map V.str ++ [.str "qq"]))) l = some (.lst xs) ∧ xs.length ≤ 200 := fun i l h1 => by
    have il := (List.getElem?_eq_some_iff.mp h1).1
    obtain ⟨b1, b2, b3, b4, b5⟩ := ln3 i l _ h1 (List.getElem?_eq_getElem (by omega))
    exact ⟨b1, b2, _, by rw [upd_ne b5]; exact b3, by rw [nts_len]; exact hlk _ (List.getElem_mem _)⟩
  generalize upd HK t2 (.lst (zs3.map V.str ++ [.str "qq"])) = HM at *
  refine ⟨_, rfl, T1, _, _, _, rfl, rfl, SqL.of qT, atI_nat (j := 2) rfl, D3, rfl, ⟨_, SqL.of q3⟩, ?_⟩
  refine for_it (walk_list (K := K) (a := D3) (xs := ls.map V.ref)) (fun j σ H9 => ∃ y6 : Option V, σ = [some (.ref p.x), some (.int (m : Int)), some (.ref R), some (.ref d), some (.ref T1), some (.int (dpW m gs (m + gs.length - 1))), y6, none, none] ∧ Same H H9 ∧ H9 D3 = some (.lst (ls.map V.ref)) ∧ ∀ (i : Nat) (l : Addr), ls[i]? = some l → ∃ xs : List V, H9 l = some (.lst xs) ∧ xs.length ≤ 200 + j) ⟨_, rfl, q0, q3, fun i l h => by obtain ⟨_, _, xs, h1, h2⟩ := ln4 i l h; exact ⟨xs, h1, by omega⟩⟩ (fun j σ H9 _ ⟨_, _, _, e, _⟩ => SqL.of e) ?_ ?_
  · rintro j v σ H0 H9 hj ⟨y6, rfl, s9', e9', f9'⟩ ⟨rfl, hz⟩
    replace hz : (ls.map V.ref)[j]? = some v := hz
    rw [List.length_map] at hj
    rw [List.getElem?_map, List.getElem?_eq_getElem hj] at hz
    have hl' : ls[j]? = some ls[j] := List.getElem?_eq_getElem hj
    cases hz
    generalize ls[j] = l at *
    obtain ⟨b1, b2, _⟩ := ln4 j l hl'
    obtain ⟨xs, w1, w2⟩ := f9' j l hl'
    dsimp only [gName]
    try simp only [L2.start, List.map_cons, List.map_nil, List.length_cons, List.length_nil, List.replicate_succ, List.replicate_zero, List.cons_append, List.nil_append, List.set_cons_succ, List.set_cons_zero, Nat.reduceAdd, Nat.reduceSub, Nat.zero_add]
    refine ⟨_, rfl, .inl ⟨rfl, _, SqL.of w1⟩, l, _, _, rfl, rfl, w1, big_lt (by omega), ?_⟩
    refine ⟨_, rfl, sameN s9' b1, by rw [upd_ne b2.symm]; exact e9', fun i l2 h2 => ?_⟩
    by_cases c : l2 = l
    · exact ⟨_, by rw [c, upd_same], by rw [List.length_append, List.length_singleton]; omega⟩
    · obtain ⟨ys, u1, u2⟩ := f9' i l2 h2
      exact ⟨ys, by rw [upd_ne c]; exact u1, by omega⟩
  rintro σ H9 ⟨y6, rfl, s9', e9', f9'⟩
  have N9 := hN.same s9'
  obtain ⟨_, _, _, dx9, _, _, f9, _⟩ := id N9
  try simp only [L2.start, List.map_cons, List.map_nil, List.length_cons, List.length_nil, List.replicate_succ, List.replicate_zero, List.cons_append, List.nil_append, List.set_cons_succ, List.set_cons_zero, Nat.reduceAdd, Nat.reduceSub, Nat.zero_add]
  refine ⟨_, rfl, p.x, dx9, _, rfl, f9, rfl, Z, p, m, gs, nm, rfl, N9, fun u1 ps2 nu1 lp2 hps2 => ?_⟩
  have v1 := same_upd (o := .lst (ps2.map V.ref)) nu1
  have w1 : (upd H9 u1 (.lst (ps2.map V.ref))) u1 = some (.lst (ps2.map V.ref)) := upd_same
  have r1 := s9'.trans v1
  have hp2 : ∀ (i : Nat) (r : Addr) (g : Gt), ps2[i]? = some r → gs[i]? = some g → (upd H9 u1 (.lst (ps2.map V.ref))) r = some (.tup g.row) := fun i r g h1 h2 => v1 _ _ (hps2 i r g h1 h2)
  generalize upd H9 u1 (.lst (ps2.map V.ref)) = HP at *
  have NP := hN.same r1
  obtain ⟨_, _, _, dxP, _, _, fP, _⟩ := id NP
  refine ⟨_, rfl, p.x, dxP, _, rfl, fP, rfl, Z, p, m, gs, nm, rfl, NP, by omega, fun ys2 u2 HQ hp7 hs7 s7 nu2 e7' => ?_⟩
  obtain rfl : ys2 = zs3 := sortS_one hp7 hs7 hp hs
  have r2 := r1.trans s7
  refine ⟨(by show 2 ≤ sizeLine; decide), fun X1 nX1 => ?_⟩
  have v3 := same_upd (o := .lst [.ref u1, .ref u2]) nX1
  have x1' : (upd HQ X1 (.lst [.ref u1, .ref u2])) X1 = some (.lst [.ref u1, .ref u2]) := upd_same
  have r3 := r2.trans v3
  have sP3 := s7.trans v3
  have e7a := v3 _ _ e7'
  generalize upd HQ X1 (.lst [.ref u1, .ref u2]) = HR at *
  refine ⟨_, rfl, _, rfl, d, kvs, nm.map (·.1), rfl, .of (r3 _ _ ed), keys, by rw [List.length_map]; omega, fun zs4 p8 hp8 hs8 np8 => ?_⟩
  obtain rfl : zs4 = ys2 := sortS_one hp8 hs8 hp hs
  have v4 := same_upd (o := .lst (zs4.map V.str)) np8
  have e8' : (upd HR p8 (.lst (zs4.map V.str))) p8 = some (.lst (zs4.map V.str)) := upd_same
  have r4 := r3.trans v4
  have sP4 := sP3.trans v4
  have x1b := v4 _ _ x1'
  have e7b := v4 _ _ e7a
  generalize upd HR p8 (.lst (zs4.map V.str)) = HS at *
  refine ⟨(by show 2 ≤ sizeLine; decide), fun X2 nX2 => ?_⟩
  have v5 := same_upd (o := .lst [.ref R, .ref p8]) nX2
  have x2' : (upd HS X2 (.lst [.ref R, .ref p8])) X2 = some (.lst [.ref R, .ref p8]) := upd_same
  have r5 := r4.trans v5
  have sP5 := sP4.trans v5
  have x1c := v5 _ _ x1b
  have e7c := v5 _ _ e7b
  have e8c := v5 _ _ e8'
  generalize upd HS X2 (.lst [.ref R, .ref p8]) = HU at *
  refine ⟨.ref X1, .ref X2, .list [.list (gs.map dGt), .list (zs4.map PyData.str)], 3, rfl, rfl, ⟨by show 2 ≤ 1000000; decide, fun dd hdd => ?_⟩,
    .lst (SqL.of x1c) (.cons (.lst (SqL.of (sP5 _ _ w1)) (dpa_rows ps2 gs lp2 fun i t g h1 h2 => sP5 _ _ (hp2 i t g h1 h2))) (.cons (.lst (SqL.of e7c) (dpa_strs _)) .nil)),
    .lst (SqL.of x2') (.cons (.lst (SqL.of (r5 _ _ eR)) (dpa_rows ts gs lts fun i t g h1 h2 => r5 _ _ (hts i t g h1 h2))) (.cons (.lst (SqL.of e8c) (dpa_strs _)) .nil)), fun HV sV => q _ (r5.trans sV)⟩
  simp only [List.mem_cons, List.not_mem_nil, or_false] at hdd
  rcases hdd with e | e <;> rw [e]
  · exact lv_rows ok hg
  · exact lv_strs (by omega)
end
section
variable {P : Program} {w : World} {K : PySem.W.Frag} {mg : Str → Option Value} {base : Heap}
variable {C : Addr} {a1 a2 a3 a4 a5 a6 a7 a8 a9 a10 a11 a12 a13 a14 a15 a16 a17 a18 a19 a20 a21 a22 a23 a24 a25 : Addr} {l1 l2 l3 l4 l5 l6 l7 l8 l9 l10 l11 l12 l13 l14 l15 l16 l17 l18 l19 l20 l21 l22 l23 l24 l25 : FuncData}
/-! ### two nets beside each other -/
structure Sd where
  p : NetP
  m : Nat
  d : Addr
  K : Addr
  R : Addr
  ts : List Addr
  due : List Gt
def zn (b : Addr) (s o : Sd) : List Addr := [b, s.d, s.K, o.d, o.K, o.p.x, o.p.lm, o.p.ld, o.p.dn]
def zl (b : Addr) (s o : Sd) : List Addr := [b, s.K, o.d, o.K, o.p.x, o.p.lm, o.p.ld, o.p.dn]
def ApS (b : Addr) (s o : Sd) : Prop := s.K ≠ b ∧ s.K ≠ s.d ∧ s.K ≠ o.d ∧ s.K ≠ o.K
def Side (C b : Addr) (s o : Sd) (H : Hp) (t k : Nat) : Prop := ∃ nm, NetAt C (zn b s o) H s.p s.m (s.due.take t) nm ∧ LsAt (zl b s o) H s.p s.d nm ∧ H s.K = some (.lst ((s.ts.take t).map V.ref)) ∧ nm.length ≤ k ∧ ∀ x ∈ nm, x.2.length ≤ 8 ∧ ∀ w ∈ x.2, w < s.m + (s.due.take t).length
theorem Side.keep {C b : Addr} {s o : Sd} {H H' : Hp} {t k : Nat} {S : List Addr} (h : Side C b s o H t k) (e : KeepS S H H') (hS : ∀ y ∈ S, y ∈ zl b s o ∧ y ≠ s.K) : Side C b s o H' t k := by
  obtain ⟨nm, a1, a2, a3, a4⟩ := h
  refine ⟨nm, a1.keep e (fun y hy => ?_), a2.keepS e (fun y hy => .inl (hS y hy).1), e.1 _ _ a3 (fun z => (hS _ z).2 rfl), a4⟩
  have := (hS y hy).1
  unfold zl at this
  unfold zn
  simp only [List.mem_cons] at this ⊢
  rcases this with z | z
  · exact .inl z
  · exact .inr (.inr z)
theorem Side.same {C b : Addr} {s o : Sd} {H H' : Hp} {t k : Nat} (h : Side C b s o H t k) (e : Same H H') : Side C b s o H' t k := h.keep (S := []) (.ofSame e) (fun _ z => nomatch z)
theorem Side.mono {C b : Addr} {s o : Sd} {H : Hp} {t k k' : Nat} (h : Side C b s o H t k) (e : k ≤ k') : Side C b s o H t k' := by
  obtain ⟨nm, a1, a2, a3, a4, a5⟩ := h
  exact ⟨nm, a1, a2, a3, Nat.le_trans a4 e, a5⟩
theorem Side.pK {C b : Addr} {s o : Sd} {H : Hp} {t k : Nat} (h : Side C b s o H t k) : s.K ∉ [s.p.x, s.p.lm, s.p.ld, s.p.dn] ∧ o.K ∉ [s.p.x, s.p.lm, s.p.ld, s.p.dn] ∧ s.d ∉ [s.p.x, s.p.lm, s.p.ld, s.p.dn] ∧ b ∉ [s.p.x, s.p.lm, s.p.ld, s.p.dn] := by
  obtain ⟨nm, ⟨_, _, ⟨c1, c2, c3, c4⟩, _⟩, _⟩ := h
  have f : ∀ y ∈ zn b s o, y ∉ [s.p.x, s.p.lm, s.p.ld, s.p.dn] := fun y hy z => by
    simp only [List.mem_cons, List.not_mem_nil, or_false] at z
    rcases z with z | z | z | z <;> rw [z] at hy
    · exact c1 hy
    · exact c2 hy
    · exact c3 hy
    · exact c4 hy
  exact ⟨f _ (by simp [zn]), f _ (by simp [zn]), f _ (by simp [zn]), f _ (by simp [zn])⟩
/-- a net's own part once a gate more is laid, ahead of the kept list -/
def SideL (C b : Addr) (s o : Sd) (H : Hp) (t k : Nat) : Prop := ∃ nm, NetAt C (zn b s o) H s.p s.m (s.due.take (t + 1)) nm ∧ LsAt (zl b s o) H s.p s.d nm ∧ H s.K = some (.lst ((s.ts.take t).map V.ref)) ∧ nm.length ≤ k ∧ ∀ x ∈ nm, x.2.length ≤ 8 ∧ ∀ w ∈ x.2, w < s.m + (s.due.take t).length
theorem SideL.keep {C b : Addr} {s o : Sd} {H H' : Hp} {t k : Nat} (h : SideL C b s o H t k) (e : Same H H') : SideL C b s o H' t k := by
  obtain ⟨nm, a1, a2, a3, a4⟩ := h
  exact ⟨nm, a1.same e, a2.same e, e _ _ a3, a4⟩
theorem SideL.fin {C b : Addr} {s o : Sd} {H : Hp} {t k : Nat} {r : Addr} (h : SideL C b s o H t k) (hr : s.ts[t]? = some r) : Side C b s o (upd H s.K (.lst ((s.ts.take t).map V.ref ++ [.ref r]))) (t + 1) k := by
  obtain ⟨nm, a1, a2, a3, a4, a5⟩ := h
  refine ⟨nm, a1.put (by simp [zn]), a2.keepS (S := [s.K]) (.upd (by simp)) (fun y hy => .inl (by rw [List.mem_singleton.mp hy]; simp [zl])), ?_, a4, fun x hx => ⟨(a5 x hx).1, fun w hw => Nat.lt_of_lt_of_le ((a5 x hx).2 w hw) ?_⟩⟩
  · rw [upd_same, List.take_add_one, hr, List.map_append]
    rfl
  · rw [List.length_take, List.length_take]
    omega
theorem Side.stay {C b : Addr} {s o : Sd} {H : Hp} {t k : Nat} (h : Side C b s o H t k) (l : s.ts.length = s.due.length) (ht : s.due.length ≤ t) : Side C b s o H (t + 1) k := by
  obtain ⟨nm, a⟩ := h
  refine ⟨nm, ?_⟩
  rw [List.take_of_length_le (by omega), List.take_of_length_le (by omega)] at a ⊢
  exact a
theorem KeepS.tup {S : List Addr} {H H' : Hp} {y : Addr} {xs : List V} (k : KeepS S H H') (hS : ∀ y ∈ S, ∀ xs, H y ≠ some (.tup xs)) (e : H y = some (.tup xs)) : H' y = some (.tup xs) := k.1 _ _ e (fun z => hS y z xs e)
def nmb (t : Nat) : Nat := if t ≤ 7 then 0 else if t ≤ 39 then 3 else 6
theorem nb_up {t : Nat} (h : t ≠ 7) (h' : t ≠ 39) : nmb (t + 1) = nmb t := by
  unfold nmb
  split <;> split <;> (try split) <;> (try split) <;> omega
theorem nb_3 {t : Nat} (h : t = 7 ∨ t = 39) : nmb (t + 1) = nmb t + 3 := by
  rcases h with h | h <;> subst h <;> rfl
theorem nb_le (t : Nat) : nmb t ≤ 6 := by
  unfold nmb
  split
  · omega
  · split <;> omega
theorem NetAt.withZ {C : Addr} {Z Z2 : List Addr} {H : Hp} {p : NetP} {m : Nat} (h : NetAt C Z H p m [] []) (hz : ∀ z ∈ Z2, H z ≠ none ∧ z ∉ [p.x, p.lm, p.ld, p.dn]) : NetAt C Z2 H p m [] [] := by
  obtain ⟨a, b, _, dx, ps, kvs, e1, e2, e3, e4, ⟨g1, g2⟩, n1, n2, n3⟩ := h
  refine ⟨fun z h => (hz z h).1, b, ⟨fun h => (hz _ h).2 (by simp), fun h => (hz _ h).2 (by simp), fun h => (hz _ h).2 (by simp), fun h => (hz _ h).2 (by simp)⟩, dx, ps, kvs, e1, e2, e3, e4, ⟨g1, fun i q g _ hg => by simp at hg⟩, n1, n2, fun i k v n ws _ hn => by simp at hn⟩
theorem init_side {C b : Addr} {s o : Sd} {H : Hp} (N : NetAt C [] H s.p s.m [] []) (hz : ∀ z ∈ zn b s o, H z ≠ none ∧ z ∉ [s.p.x, s.p.lm, s.p.ld, s.p.dn]) (hd : s.d ∉ zl b s o) (ed : H s.d = some (.dK [])) (eK : H s.K = some (.lst [])) : Side C b s o H 0 0 := by
  have hs : ∀ y ∈ zl b s o, y ∈ zn b s o := fun y hy => by
    unfold zl at hy
    unfold zn
    simp only [List.mem_cons] at hy ⊢
    rcases hy with z | z
    · exact .inl z
    · exact .inr (.inr z)
  refine ⟨[], ?_, ⟨fun z h => (hz z (hs z h)).1, hd, (hz s.d (by simp [zn])).2, [], ed, rfl, List.nodup_nil, fun i k v n ws _ hn => by simp at hn⟩, by rw [List.take_zero]; exact eK, Nat.le_refl _, fun x hx => nomatch hx⟩
  rw [List.take_zero]
  exact N.withZ hz
theorem two_of {α : Type} {l : List α} (h : l.length = 2) : ∃ x y, l = [x, y] := by
  match l, h with
  | [x, y], _ => exact ⟨_, _, rfl⟩
theorem memL {α : Type} {P : α → Prop} {a : α} {l : List α} (h : P a) (t : ∀ x ∈ l, P x) : ∀ x ∈ a :: l, P x := fun x hx => by
  rcases List.mem_cons.mp hx with z | z
  · rw [z]
    exact h
  · exact t x z
def sc (b : Addr) (s o : Sd) : List Addr := [b, s.d, s.K, s.p.lm, s.p.ld, s.p.dn, o.d, o.K, o.p.lm, o.p.ld, o.p.dn]
def StS (SS : List Addr) (G : Hp) (s : Sd) : Prop := s.ts.length = s.due.length ∧ s.due.length ≤ 40 ∧ GsOk s.m s.due ∧ 1 ≤ s.m ∧ s.m ≤ 25 ∧ s.R ∉ SS ∧ G s.R = some (.lst (s.ts.map V.ref)) ∧ ∀ (i : Nat) (t : Addr) (g : Gt), s.ts[i]? = some t → s.due[i]? = some g → G t = some (.tup g.row)
theorem Side.noTup {C b : Addr} {s o : Sd} {H : Hp} {t k : Nat} (h : Side C b s o H t k) : ∀ y ∈ [s.d, s.K, s.p.lm, s.p.ld, s.p.dn], ∀ xs, H y ≠ some (.tup xs) := by
  obtain ⟨nm, ⟨_, _, _, dx, ps, kvs, e1, e2, e3, e4, _⟩, ⟨_, _, _, kvs', ed, _⟩, eK, _⟩ := h
  have f : ∀ {y : Addr} {o : HO}, H y = some o → (∀ xs, o ≠ .tup xs) → ∀ xs, H y ≠ some (.tup xs) := fun e n xs z => n xs (by rw [e] at z; exact Option.some.inj z)
  exact memL (f ed (fun xs z => by cases z)) (memL (f eK (fun xs z => by cases z)) (memL (f e2 (fun xs z => by cases z)) (memL (f e3 (fun xs z => by cases z)) (memL (f e4 (fun xs z => by cases z)) (fun x hx => nomatch hx)))))
def tt (j i t : Nat) : Nat := if i < j then t + 1 else t
theorem in739 : ∀ t : Nat, t < 40 → inV (.int (0 + (t : Int))) [.int 7, .int 39] = decide (t = 7 ∨ t = 39) := by decide +kernel
theorem taken_ok {m t : Nat} {gs : List Gt} (h : GsOk m gs) : GsOk m (gs.take t) := fun i g hi => by
  rw [List.getElem?_take] at hi
  split at hi
  · exact h i g hi
  · cases hi
def rIxA (xs : List V) (v r : V) : Prop := ∃ i, v = .int i ∧ atI xs i = some r
theorem rIxA.of {xs : List V} {i : Int} {r : V} (h : rIxA xs (.int i) r) : atI xs i = some r := by
  obtain ⟨j, e, h⟩ := h
  cases e
  exact h
end
section
variable {P : Program} {w : World} {K : PySem.W.Frag} {mg : Str → Option Value} {base : Heap}
variable {C : Addr} {a1 a2 a3 a4 a5 a6 a7 a8 a9 a10 a11 a12 a13 a14 a15 a16 a17 a18 a19 a20 a21 a22 a23 a24 a25 : Addr} {l1 l2 l3 l4 l5 l6 l7 l8 l9 l10 l11 l12 l13 l14 l15 l16 l17 l18 l19 l20 l21 l22 l23 l24 l25 : FuncData}
def spLaw (K : PySem.W.Frag) : Sp := fun vs H Q _ => ∃ (a : Addr) (ns : List Int), vs = [.ref a] ∧ SqL K H a (ns.map V.int) ∧ ns.length ≤ 63 ∧ ∀ H', Q (.bl true) H'
def apart (p q : NetP) : Prop := ∀ y ∈ [p.x, p.lm, p.ld, p.dn], y ∉ [q.x, q.lm, q.ld, q.dn]
theorem NetAt.some4 {C : Addr} {Z : List Addr} {H : Hp} {p : NetP} {m : Nat} {gs : List Gt} {nm : List (Str × List Nat)} (h : NetAt C Z H p m gs nm) : ∀ y ∈ [p.x, p.lm, p.ld, p.dn], H y ≠ none := fun y hy => by
  obtain ⟨_, _, _, _, _, _, e1, e2, e3, e4, _⟩ := h
  simp only [List.mem_cons, List.not_mem_nil, or_false] at hy
  rcases hy with z | z | z | z <;> rw [z]
  · exact some_ne e1
  · exact some_ne e2
  · exact some_ne e3
  · exact some_ne e4
theorem NetAt.putN {C : Addr} {H : Hp} {p : NetP} {m : Nat} {D : Addr} {o : HO} (h : NetAt C [] H p m [] []) (e : H D ≠ none) (n : D ∉ [p.x, p.lm, p.ld, p.dn]) : NetAt C [] (upd H D o) p m [] [] :=
  ((h.withZ (Z2 := [D]) (fun z hz => by rw [List.mem_singleton.mp hz]; exact ⟨e, n⟩)).put (o := o) (by simp)).less
theorem ok_law {f : Addr} {fd : FuncData} (F : Fun K "law" "law" s_law f fd) (B : Bl mg) (L : LL K mg C a1 a2 a3 a4 a5 a6 a7 a8 a9 a10 a11 a12 a13 a14 a15 a16 a17 a18 a19 a20 a21 a22 a23 a24 a25 l1 l2 l3 l4 l5 l6 l7 l8 l9 l10 l11 l12 l13 l14 l15 l16 l17 l18 l19 l20 l21 l22 l23 l24 l25) : FnOk P w K mg base CX0 10 f fd ["_law_script"] (spLaw K) := by
  have G__law_box : FnOk P w K mg base CX0 9 a1 l1 ["_law_script", "_law_k"] (spBox K) := ok_box L.F__law_box B
  have G_Net___init__ : FnOk P w K mg base CX0 8 a10 l10 ["self", "many"] (spNetI C) := (ok_Net___init__ B L).mono (by decide)
  have G__law_take : FnOk P w K mg base CX0 9 a2 l2 ["_law_box_here", "_law_size"] (spTake 1) := (ok_take L.F__law_take L.b__law_take L.m__law_take B 1).mono (by decide)
  have G__law_gates : FnOk P w K mg base CX0 9 a5 l5 ["_law_box_here", "_law_wide", "_law_size"] spGatesL := (ok__law_gates B L).mono (by decide)
  have G__law_laid : FnOk P w K mg base CX0 9 a6 l6 ["_law_net", "_law_row"] (spLaid C) := (ok__law_laid B L).mono (by decide)
  have G__law_same : FnOk P w K mg base CX0 9 a3 l3 ["_law_found", "_law_due"] (spSame K 1) := (ok_same L.F__law_same L.b__law_same L.m__law_same B 1).mono (by decide)
  have G__law_named : FnOk P w K mg base CX0 9 a9 l9 ["_law_box_here", "_law_net", "_law_many", "_law_rows", "_law_lists"] (spNamed C) := (ok__law_named B L).mono (by decide)
  have G__law_stands : FnOk P w K mg base CX0 9 a8 l8 ["_law_net", "_law_many", "_law_rows", "_law_lists"] (spStands C) := (ok__law_stands B L).mono (by decide)
  refine F.ok sc_law (fun vs H Q E h => ?_) (fun cdv A outer s H vs Q E hr h => ?_)
  · obtain ⟨a, ns, rfl, _⟩ := h
    rfl
  obtain ⟨a, ns, rfl, hS, h63, q⟩ := h
  refine ⟨_, (pss_cons (ps_for PassesOwn.never rfl (pi_range1 (by rfl) B.range (pa_cons (pe_op op_add pe_int (pe_callB (call_min2 rfl) (by rfl) B.min boot_min (pa_cons pe_int (pa_cons (pe_callB call_len_seq (by rfl) B.len PySem.boot_len (pa_cons (pv 0) pa_nil)) pa_nil)))) pa_nil)) (pg_name (i := 1) sc_law.nd rfl (.inl rfl)) (pss_cons (ps_set (i := 2) sc_law.nd rfl (.inr rfl) (pe_call G__law_box hr (by rfl) L.m__law_box L.F__law_box.kp L.b__law_box .nil pass0 (pa_cons (pv 0) (pa_cons (pv 1) pa_nil))))
    (pss_cons (ps_set (i := 3) sc_law.nd rfl (.inr rfl) (pe_lc (own := [("_law_turn", 8)]) (by rfl) sc_law.nd (pi_range1 (by rfl) B.range (pa_cons pe_int pa_nil)) (blkOk_by (own := [("_law_turn", 8)]) (N := ["_law_script", "_law_k", "_law_box_here", "_law_sizes", "_law_nets", "_law_kept", "_law_lists", "_law_due", "_law_turn", "_law_at", "_law_many"]) (sc := defScope s_law) (by decide +kernel)) (fun _ _ _ _ _ => pg_name (i := 8) sc_law.nd rfl (Or.inl rfl)) (fun _ _ _ _ _ => pts_nil) (fun _ _ _ _ _ => (pe_op op_add pe_int (pe_call G__law_take hr (by rfl) L.m__law_take L.F__law_take.kp L.b__law_take .nil pass0 (pa_cons (pv 2) (pa_cons (pe_ix (ix_listK (K := K)) (pe_lst (pa_cons pe_int (pa_cons pe_int pa_nil))) (pe_call G__law_take hr (by rfl) L.m__law_take L.F__law_take.kp L.b__law_take .nil pass0 (pa_cons (pv 2) (pa_cons pe_int pa_nil))) (fun _ _ => rfl)) pa_nil)))))))
    (pss_cons (ps_asg (pe_tup (pa_cons (pe_lc (own := [("_law_many", 10)]) (by rfl) sc_law.nd (pi_list (pv 3)) (blkOk_by (own := [("_law_many", 10)]) (N := ["_law_script", "_law_k", "_law_box_here", "_law_sizes", "_law_nets", "_law_kept", "_law_lists", "_law_due", "_law_turn", "_law_at", "_law_many"]) (sc := defScope s_law) (by decide +kernel)) (fun _ _ _ _ _ => pg_name (i := 10) sc_law.nd rfl (Or.inl rfl)) (fun _ _ _ _ _ => pts_nil) (fun _ _ _ _ _ => (pe_make L.M G_Net___init__ hr (by rfl) L.T.mgC L.b_Net___init__ .nil pass0 (pa_cons (pv 10) pa_nil)))) (pa_cons (pe_lst (pa_cons (pe_lst pa_nil) (pa_cons (pe_lst pa_nil) pa_nil))) (pa_cons (pe_lst (pa_cons pe_dnewK (pa_cons pe_dnewK pa_nil))) pa_nil)))) (pg_tup (by rfl) (pgs_cons (pg_name (i := 4) sc_law.nd rfl (.inr rfl)) (pgs_cons (pg_name (i := 5) sc_law.nd rfl (.inr rfl)) (pgs_cons (pg_name (i := 6) sc_law.nd rfl (.inr rfl)) pgs_nil)))))
    (pss_cons (ps_setLc (i := 7) (own := [("_law_many", 10)]) (by rfl) sc_law.nd rfl rfl (sw_true rfl rfl rfl (by decide +kernel)) (pi_list (pv 3)) (blkOk_by (own := [("_law_many", 10)]) (N := ["_law_script", "_law_k", "_law_box_here", "_law_sizes", "_law_nets", "_law_kept", "_law_lists", "_law_due", "_law_turn", "_law_at", "_law_many"]) (sc := defScope s_law) (by decide +kernel)) (fun _ _ _ _ _ => pg_name (i := 10) sc_law.nd rfl (Or.inl rfl)) (fun _ _ _ _ _ => pts_nil) (fun _ _ _ _ _ => (pe_call G__law_gates hr (by rfl) L.m__law_gates L.F__law_gates.kp L.b__law_gates .nil pass0 (pa_cons (pv 2) (pa_cons (pv 10) (pa_cons (pe_call G__law_take hr (by rfl) L.m__law_take L.F__law_take.kp L.b__law_take .nil pass0 (pa_cons (pv 2) (pa_cons pe_int pa_nil))) pa_nil))))))
    (pss_cons (ps_for PassesOwn.never rfl (pi_range1 (by rfl) B.range (pa_cons pe_int pa_nil)) (pg_name (i := 8) sc_law.nd rfl (.inl rfl)) (pss_one (ps_for PassesOwn.never rfl (pi_range1 (by rfl) B.range (pa_cons pe_int pa_nil)) (pg_name (i := 9) sc_law.nd rfl (.inl rfl)) (pss_cons (ps_if (pt_cmpR op_lt (pv 8) (pe_callB call_len_seq (by rfl) B.len PySem.boot_len (pa_cons (pe_ix ix_list (pv 7) (pv 9) (fun _ _ => rfl)) pa_nil)) (nomark _)) (pss_cons (ps_if (pt_not (pt_val (pe_call G__law_same hr (by rfl) L.m__law_same L.F__law_same.kp L.b__law_same .nil pass0 (pa_cons (pe_call G__law_laid hr (by rfl) L.m__law_laid L.F__law_laid.kp L.b__law_laid .nil pass0 (pa_cons (pe_ix ix_list (pv 4) (pv 9) (fun _ _ => rfl)) (pa_cons (pe_ix ix_list (pe_ix ix_list (pv 7) (pv 9) (fun _ _ => rfl)) (pv 8) (fun _ _ => rfl)) pa_nil))) (pa_cons (pe_op op_add (pe_ix ix_list (pv 3) (pv 9) (fun _ _ => rfl)) (pv 8)) pa_nil))))) (pss_one (ps_ret pe_bl)) pss_nil)
    (pss_one (ps_expr (pe_bm PySem.F.plainAttrs_list PySem.F.slot_list_append PySem.F.type_list_append mt_append (pe_ix ix_list (pv 5) (pv 9) (fun _ _ => rfl)) (pa_cons (pe_ix ix_list (pe_ix ix_list (pv 7) (pv 9) (fun _ _ => rfl)) (pv 8) (fun _ _ => rfl)) pa_nil))))) pss_nil)
    (pss_one (ps_if (pt_cmpR op_in_seq (pv 8) (pe_tup (pa_cons pe_int (pa_cons pe_int pa_nil))) (by rfl)) (pss_one (ps_expr (pe_call G__law_named hr (by rfl) L.m__law_named L.F__law_named.kp L.b__law_named .nil pass0 (pa_cons (pv 2) (pa_cons (pe_ix ix_list (pv 4) (pv 9) (fun _ _ => rfl)) (pa_cons (pe_ix ix_list (pv 3) (pv 9) (fun _ _ => rfl)) (pa_cons (pe_ix ix_list (pv 5) (pv 9) (fun _ _ => rfl)) (pa_cons (pe_ix ix_list (pv 6) (pv 9) (fun _ _ => rfl)) pa_nil)))))))) pss_nil))))))
    (pss_one (ps_if (pt_not (pt_val (pe_callB (cr_all rfl) (by rfl) B.all boot_all (pa_cons (pe_lc (own := [("_law_at", 9)]) (by rfl) sc_law.nd (pi_tup (pe_tup (pa_cons pe_int (pa_cons pe_int (pa_cons pe_int pa_nil))))) (blkOk_by (own := [("_law_at", 9)]) (N := ["_law_script", "_law_k", "_law_box_here", "_law_sizes", "_law_nets", "_law_kept", "_law_lists", "_law_due", "_law_turn", "_law_at", "_law_many"]) (sc := defScope s_law) (by decide +kernel)) (fun _ _ _ _ _ => pg_name (i := 9) sc_law.nd rfl (Or.inl rfl)) (fun _ _ _ _ _ => pts_nil) (fun _ _ _ _ _ => (pe_call G__law_stands hr (by rfl) L.m__law_stands L.F__law_stands.kp L.b__law_stands .nil pass0 (pa_cons (pe_ix (ix_listK (K := K)) (pv 4) (pv 9) (fun _ _ => rfl)) (pa_cons (pe_ix (ix_listK (K := K)) (pv 3) (pv 9) (fun _ _ => rfl)) (pa_cons (pe_ix (ix_listK (K := K)) (pv 5) (pv 9) (fun _ _ => rfl)) (pa_cons (pe_ix (ix_listK (K := K)) (pv 6) (pv 9) (fun _ _ => rfl)) pa_nil))))))) pa_nil)))) (pss_one (ps_ret pe_bl)) pss_nil))))))))
    (pss_one (ps_ret pe_bl))), ?_⟩
  refine ⟨_, rfl, a, _, rfl, .inl hS, _, _, rfl, ?_⟩
  obtain ⟨n, en, hn⟩ : ∃ n : Nat, 1 + (if (((ns.map V.int).length : Nat) : Int) < 3 then (((ns.map V.int).length : Nat) : Int) else (3 : Int)) = (n : Int) ∧ n ≤ 4 := by
    split
    · exact ⟨1 + (ns.map V.int).length, by omega, by omega⟩
    · exact ⟨4, by decide, by decide⟩
  refine ⟨_, _, rfl, rfl, (n : Int), congrArg (fun z => [V.int z]) en, by omega, by omega, ?_⟩
  rw [Int.toNat_natCast]
  refine for_range (n := n) (fun i σ H5 => ∃ (y1 y2 y3 y4 y5 y6 y7 y8 y9 y10 : Option V), σ = [some (.ref a), y1, y2, y3, y4, y5, y6, y7, y8, y9, y10] ∧ Same H H5) ⟨_, _, _, _, _, _, _, _, _, _, rfl, Same.refl _⟩ ?_ ?_
  · rintro i σ H5 hi ⟨y1, y2, y3, y4, y5, y6, y7, y8, y9, y10, rfl, s5⟩
    dsimp only [gName]
    try simp only [L2.start, List.map_cons, List.map_nil, List.length_cons, List.length_nil, List.replicate_succ, List.replicate_zero, List.cons_append, List.nil_append, List.set_cons_succ, List.set_cons_zero, Nat.reduceAdd, Nat.reduceSub, Nat.zero_add]
    refine ⟨_, rfl, _, rfl, a, ns, _, rfl, s5.seq hS, by omega, by omega, fun b H6 nb s6 B6 => ?_⟩
    dsimp only [gName]
    try simp only [L2.start, List.map_cons, List.map_nil, List.length_cons, List.length_nil, List.replicate_succ, List.replicate_zero, List.cons_append, List.nil_append, List.set_cons_succ, List.set_cons_zero, Nat.reduceAdd, Nat.reduceSub, Nat.zero_add]
    have hh : ∀ y o, H y = some o → H6 y = some o ∧ y ≠ b := fun y o e => ⟨s6 _ _ (s5 _ _ e), fun z => by rw [z] at e; have := s5 _ _ e; rw [nb] at this; cases this⟩
    refine ⟨_, rfl, by decide, by decide, fun D nD => ?_⟩
    have nDb : D ≠ b := (B6.ne nD).symm
    refine lc_range (n := 2) (fun j H9 => ∃ ms : List Nat, ms.length = j ∧ (∀ m ∈ ms, 1 ≤ m ∧ m ≤ 24) ∧ Keep b H6 H9 ∧ BoxAt (10 + 5 * j) H9 b ∧ H9 D = some (.lst (nts ms))) ⟨[], rfl, (fun _ z => nomatch z), Keep.new nD, (B6.same (same_upd nD)).mono (by decide), upd_same⟩ ?_ ?_
    · rintro j H9 hj ⟨ms, lm, hms, k9, B9, eD⟩
      dsimp only [gName]
      refine ⟨rfl, yesT ?_⟩
      try simp only [L2.start, List.map_cons, List.map_nil, List.length_cons, List.length_nil, List.replicate_succ, List.replicate_zero, List.cons_append, List.nil_append, List.set_cons_succ, List.set_cons_zero, Nat.reduceAdd, Nat.reduceSub, Nat.zero_add]
      refine ⟨_, rfl, (by show 2 ≤ sizeLine; decide), fun L1 nL1 => ?_⟩
      have sL1 := same_upd (o := .lst [.int 6, .int 24]) nL1
      have eL1 : (upd H9 L1 (.lst [.int 6, .int 24])) L1 = some (.lst [.int 6, .int 24]) := upd_same
      have B1 := B9.same sL1
      have nL1b : L1 ≠ b := (B9.ne nL1).symm
      have eD1 := sL1 _ _ eD
      have k1 : Keep b H6 _ := k9.trans (Keep.ofSame sL1)
      generalize upd H9 L1 (.lst [.int 6, .int 24]) = H1 at *
      refine ⟨_, rfl, b, _, _, rfl, B1, by decide, by decide, by decide, by omega, by decide, fun r2 H2 u2 v2 B2 k2 => ?_⟩
      replace B2 := bx1 B2
      obtain ⟨w, ew, hw⟩ : ∃ w : Nat, atI [V.int 6, V.int 24] r2 = some (.int (w : Int)) ∧ (w = 6 ∨ w = 24) := by
        rcases (show r2 = 0 ∨ r2 = 1 by omega) with e | e <;> subst e
        · exact ⟨6, rfl, .inl rfl⟩
        · exact ⟨24, rfl, .inr rfl⟩
      refine ⟨L1, _, _, _, rfl, rfl, SqL.of (k2 _ _ eL1 nL1b), ew, ?_⟩
      refine ⟨b, _, _, rfl, B2, by omega, by omega, by omega, by omega, by decide, fun r3 H3 u3 v3 B3 k3 => ?_⟩
      replace B3 := bx1 B3
      obtain ⟨z, rfl⟩ : ∃ z : Nat, r3 = (z : Int) := ⟨r3.toNat, by omega⟩
      refine ⟨_, _, rfl, rfl, ?_⟩
      have k13 := k2.trans k3
      refine ⟨_, k13 _ _ eD1 nDb, by rw [nts_len, lm]; exact big_lt (by omega), ms ++ [1 + z], by rw [List.length_append, lm]; rfl, fun m hm => ?_, fun y o e ny => ?_, BoxAt.mono (B3.at (upd_ne nDb.symm)) (by omega), ?_⟩
      · rcases List.mem_append.mp hm with y | y
        · exact hms m y
        · rw [List.mem_singleton.mp y]
          omega
      · rw [upd_ne (ne_of_none e nD)]
        exact k13 _ _ (k1 _ _ e ny) ny
      · rw [upd_same]
        show some (HO.lst (nts ms ++ [V.int (1 + (z : Int))])) = some (HO.lst (nts (ms ++ [1 + z])))
        unfold nts
        rw [List.map_append, List.map_cons, List.map_nil, show ((1 + z : Nat) : Int) = 1 + (z : Int) by omega]
    rintro H9 ⟨ms, lm, hms, k9, B9, eD⟩
    dsimp only [gName]
    try simp only [L2.start, List.map_cons, List.map_nil, List.length_cons, List.length_nil, List.replicate_succ, List.replicate_zero, List.cons_append, List.nil_append, List.set_cons_succ, List.set_cons_zero, Nat.reduceAdd, Nat.reduceSub, Nat.zero_add]
    refine ⟨_, rfl, D, rfl, ⟨_, SqL.of eD⟩, fun DN nDN => ?_⟩
    refine lc_it (walk_list (K := K) (a := D) (xs := nts ms)) (fun j H1 => ∃ ps : List NetP, ps.length = j ∧ Same H9 H1 ∧ H1 DN = some (.lst (ps.map fun p => .ref p.x)) ∧ (∀ (i : Nat) (p : NetP) (m : Nat), ps[i]? = some p → ms[i]? = some m → NetAt C [] H1 p m [] [] ∧ (∀ y ∈ [p.x, p.lm, p.ld, p.dn], H9 y = none ∧ y ≠ DN)) ∧ ∀ (i k : Nat) (p q : NetP), i < k → ps[i]? = some p → ps[k]? = some q → apart p q) ⟨[], rfl, same_upd nDN, upd_same, (fun i p m h => by simp at h), fun i k p q _ h => by simp at h⟩ (fun j H1 _ ⟨_, _, s1, _⟩ => SqL.of (s1 _ _ eD)) ?_ ?_
    · rintro j v H0 H1 hj ⟨ps, lp, s1, eN, hps, hap⟩ ⟨rfl, hz⟩
      rw [nts_len, lm] at hj
      obtain ⟨m, hm, rfl⟩ := nts_at hz
      obtain ⟨m1, m24⟩ := hms m (List.mem_of_getElem? hm)
      dsimp only [gName]
      refine ⟨rfl, yesT ?_⟩
      try simp only [L2.start, List.map_cons, List.map_nil, List.length_cons, List.length_nil, List.replicate_succ, List.replicate_zero, List.cons_append, List.nil_append, List.set_cons_succ, List.set_cons_zero, Nat.reduceAdd, Nat.reduceSub, Nat.zero_add]
      refine ⟨_, rfl, fun x dx nx ndx ne => ?_⟩
      refine ⟨x, dx, m, rfl, upd_same, by omega, fun p H7 px fr ⟨n1, n2, n3⟩ N0 => ⟨rfl, ?_⟩⟩
      have s7 : Same H1 H7 := made nx ndx ne fr
      subst px
      have up : ∀ {y : Addr}, (upd (upd H1 dx (.own p.x)) p.x (.ins C dx [])) y = none → H1 y = none := fun {y} e => by
        cases h : H1 y with
        | none => rfl
        | some o =>
          rw [upd_ne (ne_of_none h nx), upd_ne (ne_of_none h ndx), h] at e
          cases e
      have nn : ∀ y ∈ [p.x, p.lm, p.ld, p.dn], H1 y = none := fun y hy => by
        simp only [List.mem_cons, List.not_mem_nil, or_false] at hy
        rcases hy with z | z | z | z <;> rw [z]
        · exact nx
        · exact up n1
        · exact up n2
        · exact up n3
      have N7 := N0 [] (fun z hz => nomatch hz)
      have eN7 := s7 _ _ eN
      have dn : ∀ {q : NetP}, (∀ y ∈ [q.x, q.lm, q.ld, q.dn], y ≠ DN) → DN ∉ [q.x, q.lm, q.ld, q.dn] := fun h z => h _ z rfl
      have nDNp : ∀ y ∈ [p.x, p.lm, p.ld, p.dn], y ≠ DN := fun y hy z => by
        have := nn y hy
        rw [z, eN] at this
        cases this
      refine ⟨_, eN7, by rw [List.length_map, lp]; exact big_lt (by omega), ps ++ [p], by rw [List.length_append, lp]; rfl, fun y o e => ?_, by rw [upd_same, List.map_append]; rfl, fun i' p' m' h1 h2 => ?_, fun i' k' p' q' hik h1 h2 => ?_⟩
      · rw [upd_ne (ne_of_none e nDN)]
        exact s7 _ _ (s1 _ _ e)
      · by_cases c : i' < ps.length
        · rw [List.getElem?_append_left c] at h1
          obtain ⟨b1, b2⟩ := hps i' p' m' h1 h2
          exact ⟨(b1.same s7).putN (some_ne eN7) (dn fun y hy => (b2 y hy).2), b2⟩
        · have i0 : i' = ps.length := by
            have := (List.getElem?_eq_some_iff.mp h1).1
            rw [List.length_append, List.length_cons, List.length_nil] at this
            omega
          rw [List.getElem?_append_right (by omega), i0, Nat.sub_self] at h1
          rw [i0, lp, hm] at h2
          cases h1
          cases h2
          exact ⟨N7.putN (some_ne eN7) (dn nDNp), fun y hy => ⟨back s1 (nn y hy), nDNp y hy⟩⟩
      · have k0 := (List.getElem?_eq_some_iff.mp h2).1
        rw [List.length_append, List.length_cons, List.length_nil] at k0
        have hi' : i' < ps.length := by omega
        rw [List.getElem?_append_left hi'] at h1
        by_cases c : k' < ps.length
        · rw [List.getElem?_append_left c] at h2
          exact hap i' k' p' q' hik h1 h2
        · rw [List.getElem?_append_right (by omega), show k' - ps.length = 0 by omega] at h2
          cases h2
          intro y hy hy2
          have hmi : i' < ms.length := by
            have := (List.getElem?_eq_some_iff.mp hm).1
            omega
          exact (hps i' p' _ h1 (List.getElem?_eq_getElem hmi)).1.some4 y hy (nn y hy2)
    rintro H1 ⟨ps, lp, s1, eN, hps, hap⟩
    rw [nts_len, lm] at lp
    refine ⟨by show 0 ≤ sizeLine; decide, fun K0 nK0 => ?_⟩
    have t1 := same_upd (o := .lst []) nK0
    have eK0 : (upd H1 K0 (.lst [])) K0 = some (.lst []) := upd_same
    generalize upd H1 K0 (.lst []) = HA at *
    refine ⟨by show 0 ≤ sizeLine; decide, fun K1 nK1 => ?_⟩
    have t2 := same_upd (o := .lst []) nK1
    have eK1 : (upd HA K1 (.lst [])) K1 = some (.lst []) := upd_same
    have eK0b := t2 _ _ eK0
    generalize upd HA K1 (.lst []) = HB at *
    refine ⟨by show 2 ≤ sizeLine; decide, fun KL nKL => ?_⟩
    have t3 := same_upd (o := .lst [.ref K0, .ref K1]) nKL
    have eKL : (upd HB KL (.lst [.ref K0, .ref K1])) KL = some (.lst [.ref K0, .ref K1]) := upd_same
    have eK0c := t3 _ _ eK0b
    have eK1c := t3 _ _ eK1
    generalize upd HB KL (.lst [.ref K0, .ref K1]) = HC at *
    refine fun d0 nd0 => ?_
    have t4 := same_upd (o := .dK []) nd0
    have ed0 : (upd HC d0 (.dK [])) d0 = some (.dK []) := upd_same
    generalize upd HC d0 (.dK []) = HE at *
    refine fun d1 nd1 => ?_
    have t5 := same_upd (o := .dK []) nd1
    have ed1 : (upd HE d1 (.dK [])) d1 = some (.dK []) := upd_same
    have ed0b := t5 _ _ ed0
    generalize upd HE d1 (.dK []) = HF at *
    refine ⟨by show 2 ≤ sizeLine; decide, fun DL nDL => ?_⟩
    have t6 := same_upd (o := .lst [.ref d0, .ref d1]) nDL
    have eDL : (upd HF DL (.lst [.ref d0, .ref d1])) DL = some (.lst [.ref d0, .ref d1]) := upd_same
    generalize upd HF DL (.lst [.ref d0, .ref d1]) = HG at *
    refine ⟨by show 3 ≤ sizeLine; decide, fun T nT => ?_⟩
    have t7 := same_upd (o := .tup [.ref DN, .ref KL, .ref DL]) nT
    refine ⟨T, _, rfl, .inl (.inl upd_same), rfl, _, _, rfl, _, _, rfl, _, _, rfl, rfl, ?_⟩
    generalize upd HG T (.tup [.ref DN, .ref KL, .ref DL]) = HH at *
    try simp only [L2.start, List.map_cons, List.map_nil, List.length_cons, List.length_nil, List.replicate_succ, List.replicate_zero, List.cons_append, List.nil_append, List.set_cons_succ, List.set_cons_zero, Nat.reduceAdd, Nat.reduceSub, Nat.zero_add]
    obtain ⟨m0, m1, rfl⟩ := two_of lm
    obtain ⟨pp, pq, rfl⟩ := two_of lp
    obtain ⟨Np, fp⟩ := hps 0 _ _ rfl rfl
    obtain ⟨Nq, fq⟩ := hps 1 _ _ rfl rfl
    have apq := hap 0 1 _ _ (by decide) rfl rfl
    have sC : Same HC HH := ((t4.trans t5).trans t6).trans t7
    have sH : Same H1 HH := ((t1.trans t2).trans t3).trans sC
    have eDH := sH _ _ (s1 _ _ eD)
    have eNH := sH _ _ eN
    have eKLH := sC _ _ eKL
    have eDLH := t7 _ _ eDL
    have eK0H := sC _ _ eK0c
    have eK1H := sC _ _ eK1c
    have sF : Same HF HH := t6.trans t7
    have ed0H := sF _ _ ed0b
    have ed1H := sF _ _ ed1
    have BH : BoxAt 20 HH b := (B9.same s1).same sH
    have bH := BH.some
    have N0 := Np.same sH
    have N1 := Nq.same sH
    have s9 : ∀ {y : Addr}, H9 y ≠ none → H1 y ≠ none := fun {y} h => (KeepS.ofSame (S := []) s1).2 y h
    -- what is new stands apart from the nets
    have nuN : ∀ {m : Nat} {p : NetP}, NetAt C [] H1 p m [] [] → ∀ {G : Hp} {y : Addr}, Same H1 G → G y = none → y ∉ [p.x, p.lm, p.ld, p.dn] := fun N G y s n z => absurd n (by
      have := N.some4 y z
      exact (KeepS.ofSame (S := []) s).2 y this)
    have bp : b ∉ [pp.x, pp.lm, pp.ld, pp.dn] := fun z => B9.some (fp b z).1
    have bq : b ∉ [pq.x, pq.lm, pq.ld, pq.dn] := fun z => B9.some (fq b z).1
    have sA := t1
    have sB := t1.trans t2
    have sCC := sB.trans t3
    have sE := sCC.trans t4
    have K0p := nuN Np (Same.refl _) nK0
    have K0q := nuN Nq (Same.refl _) nK0
    have K1p := nuN Np sA nK1
    have K1q := nuN Nq sA nK1
    have d0p := nuN Np sCC nd0
    have d0q := nuN Nq sCC nd0
    have d1p := nuN Np sE nd1
    have d1q := nuN Nq sE nd1
    have K0b : K0 ≠ b := ((BoxAt.same B9 s1).ne nK0).symm
    have K1b : K1 ≠ b := (((BoxAt.same B9 s1).same sA).ne nK1).symm
    have d0b : d0 ≠ b := (((BoxAt.same B9 s1).same sCC).ne nd0).symm
    have d1b : d1 ≠ b := (((BoxAt.same B9 s1).same sE).ne nd1).symm
    have K01 : K0 ≠ K1 := ne_of_none eK0 nK1
    have d01 : d0 ≠ d1 := ne_of_none ed0 nd1
    have Kd : ∀ {k d : Addr}, HH k = some (.lst []) → HH d = some (.dK []) → k ≠ d := fun e e' z => by
      rw [z, e'] at e
      cases e
    have q4 : ∀ {o : HO} {y : Addr} {p : NetP}, y ∉ [p.x, p.lm, p.ld, p.dn] → y ≠ p.x ∧ y ≠ p.lm ∧ y ≠ p.ld ∧ y ≠ p.dn := fun h => by
      simpa only [List.mem_cons, List.not_mem_nil, or_false, not_or] using h
    have some4 : ∀ {m : Nat} {p : NetP}, NetAt C [] HH p m [] [] → ∀ y ∈ [p.x, p.lm, p.ld, p.dn], HH y ≠ none := fun N => N.some4
    have qp : ∀ y ∈ [pq.x, pq.lm, pq.ld, pq.dn], HH y ≠ none ∧ y ∉ [pp.x, pp.lm, pp.ld, pp.dn] := fun y hy => ⟨some4 N1 y hy, fun z => apq y z hy⟩
    have pqq : ∀ y ∈ [pp.x, pp.lm, pp.ld, pp.dn], HH y ≠ none ∧ y ∉ [pq.x, pq.lm, pq.ld, pq.dn] := fun y hy => ⟨some4 N0 y hy, apq y hy⟩
    have S0 : ∀ (R0 R1 : Addr) (ts0 ts1 : List Addr) (g0 g1 : List Gt), Side C b ⟨pp, m0, d0, K0, R0, ts0, g0⟩ ⟨pq, m1, d1, K1, R1, ts1, g1⟩ HH 0 0 := fun R0 R1 ts0 ts1 g0 g1 => init_side N0 (memL ⟨bH, bp⟩ (memL ⟨some_ne ed0H, d0p⟩ (memL ⟨some_ne eK0H, K0p⟩ (memL ⟨some_ne ed1H, d1p⟩ (memL ⟨some_ne eK1H, K1p⟩ qp))))) (fun z => by
      obtain ⟨u1, u2, u3, u4⟩ := q4 (o := .lst []) d0q
      simp only [zl, List.mem_cons, List.not_mem_nil, or_false, d0b, (Kd eK0H ed0H).symm, d01, (Kd eK1H ed0H).symm, u1, u2, u3, u4] at z) ed0H eK0H
    have S1 : ∀ (R0 R1 : Addr) (ts0 ts1 : List Addr) (g0 g1 : List Gt), Side C b ⟨pq, m1, d1, K1, R1, ts1, g1⟩ ⟨pp, m0, d0, K0, R0, ts0, g0⟩ HH 0 0 := fun R0 R1 ts0 ts1 g0 g1 => init_side N1 (memL ⟨bH, bq⟩ (memL ⟨some_ne ed1H, d1q⟩ (memL ⟨some_ne eK1H, K1q⟩ (memL ⟨some_ne ed0H, d0q⟩ (memL ⟨some_ne eK0H, K0q⟩ pqq))))) (fun z => by
      obtain ⟨u1, u2, u3, u4⟩ := q4 (o := .lst []) d1p
      simp only [zl, List.mem_cons, List.not_mem_nil, or_false, d1b, (Kd eK1H ed1H).symm, d01.symm, (Kd eK0H ed1H).symm, u1, u2, u3, u4] at z) ed1H eK1H
    refine ⟨_, rfl, D, rfl, ⟨_, SqL.of eDH⟩, fun E nE => ?_⟩
    have nEb : E ≠ b := (BH.ne nE).symm
    refine lc_it (walk_list (K := K) (a := D) (xs := nts [m0, m1])) (fun j H2 => ∃ rs : List (Addr × List Addr × List Gt), rs.length = j ∧ Keep b HH H2 ∧ BoxAt (20 + 411 * j) H2 b ∧ H2 E = some (.lst (rs.map fun r => .ref r.1)) ∧ ∀ (i : Nat) (r : Addr × List Addr × List Gt) (m : Nat), rs[i]? = some r → [m0, m1][i]? = some m → HH r.1 = none ∧ r.1 ≠ E ∧ r.2.1.length = r.2.2.length ∧ r.2.2.length ≤ 40 ∧ GsOk m r.2.2 ∧ H2 r.1 = some (.lst (r.2.1.map V.ref)) ∧ ∀ (i : Nat) (t : Addr) (g : Gt), r.2.1[i]? = some t → r.2.2[i]? = some g → H2 t = some (.tup g.row)) ⟨[], rfl, Keep.new nE, (BH.same (same_upd nE)).mono (by omega), upd_same, fun i r m h => by simp at h⟩ (fun j H2 _ ⟨_, _, k2, _⟩ => SqL.of (k2 _ _ eDH (fun z => by rw [z] at eDH; obtain ⟨_, _, _, eb, _⟩ := BH; rw [eDH] at eb; cases eb))) ?_ ?_
    · rintro j v G0 G1 hj ⟨rs, lr, kG, BG, eE, hrs⟩ ⟨rfl, hz⟩
      obtain ⟨m, hm, rfl⟩ := nts_at hz
      rw [nts_len, show [m0, m1].length = 2 from rfl] at hj
      obtain ⟨mm1, mm24⟩ := hms m (List.mem_of_getElem? hm)
      dsimp only [gName]
      refine ⟨rfl, yesT ?_⟩
      try simp only [L2.start, List.map_cons, List.map_nil, List.length_cons, List.length_nil, List.replicate_succ, List.replicate_zero, List.cons_append, List.nil_append, List.set_cons_succ, List.set_cons_zero, Nat.reduceAdd, Nat.reduceSub, Nat.zero_add]
      refine ⟨_, rfl, _, rfl, _, rfl, b, _, _, rfl, BG, by decide, by decide, by decide, by omega, by decide, fun r2 G2 u2 v2 B2 k2 => ?_⟩
      replace B2 := bx1 B2
      obtain ⟨n2, rfl⟩ : ∃ n2 : Nat, r2 = (n2 : Int) := ⟨r2.toNat, by omega⟩
      refine ⟨b, _, m, n2, rfl, B2, by omega, by omega, by omega, by omega, fun R gs G3 lgs ok3 nRb nR3 ⟨ts, lts, eR3, ht3⟩ B3 k3 => ?_⟩
      have k23 := k2.trans k3
      have kG2 := kG.trans k2
      have bl : ∀ {y : Addr} {xs : List V}, G1 y = some (.tup xs) → y ≠ b := fun e z => by
        obtain ⟨_, _, _, eb, _⟩ := BG
        rw [z, eb] at e
        cases e
      have eE3 := k23 _ _ eE nEb
      have nRE : R ≠ E := fun z => by
        rw [z, k2 _ _ eE nEb] at nR3
        cases nR3
      have nRH : HH R = none := keepN kG2 nRb nR3
      refine ⟨_, eE3, by rw [List.length_map, lr]; exact big_lt (by omega), rs ++ [(R, ts, gs)], by rw [List.length_append, lr]; rfl, fun y o e ny => ?_, BoxAt.mono (B3.at (upd_ne nEb.symm)) (by omega), by rw [upd_same, List.map_append]; rfl, fun i' r' m' h1 h2 => ?_⟩
      · rw [upd_ne (ne_of_none e nE)]
        exact k23 _ _ (kG _ _ e ny) ny
      · by_cases c : i' < rs.length
        · rw [List.getElem?_append_left c] at h1
          obtain ⟨f1, f2, f3, f4, f5, f6, f7⟩ := hrs i' r' m' h1 h2
          have rb : r'.1 ≠ b := fun z => by rw [z] at f1; exact bH f1
          refine ⟨f1, f2, f3, f4, f5, by rw [upd_ne f2]; exact k23 _ _ f6 rb, fun i t g hi hg => ?_⟩
          have et := f7 i t g hi hg
          rw [upd_ne (fun z => by rw [z, eE] at et; cases et)]
          exact k23 _ _ et (bl et)
        · have i0 : i' = rs.length := by
            have := (List.getElem?_eq_some_iff.mp h1).1
            rw [List.length_append, List.length_cons, List.length_nil] at this
            omega
          rw [List.getElem?_append_right (by omega), i0, Nat.sub_self] at h1
          rw [i0, lr, hm] at h2
          cases h1
          cases h2
          refine ⟨nRH, nRE, lts, by show gs.length ≤ 40; omega, ok3, by rw [upd_ne nRE]; exact eR3, fun i t g hi hg => ?_⟩
          have et := ht3 i t g hi hg
          rw [upd_ne (fun z => by rw [z, eE3] at et; cases et)]
          exact et
    rintro G ⟨rs, lr, kG, BG, eE, hrs⟩
    rw [nts_len, show [m0, m1].length = 2 from rfl] at lr BG
    obtain ⟨⟨R0, ts0, g0⟩, ⟨R1, ts1, g1⟩, rfl⟩ := two_of lr
    obtain ⟨a1, a2, a3, a4, a5, a6, a7⟩ := hrs 0 _ _ rfl rfl
    obtain ⟨c1, c2, c3, c4, c5, c6, c7⟩ := hrs 1 _ _ rfl rfl
    replace S0 := S0 R0 R1 ts0 ts1 g0 g1
    replace S1 := S1 R0 R1 ts0 ts1 g0 g1
    dsimp only at a1 a2 a3 a4 a5 a6 a7 c1 c2 c3 c4 c5 c6 c7
    dsimp only [gName]
    try simp only [L2.start, List.map_cons, List.map_nil, List.length_cons, List.length_nil, List.replicate_succ, List.replicate_zero, List.cons_append, List.nil_append, List.set_cons_succ, List.set_cons_zero, Nat.reduceAdd, Nat.reduceSub, Nat.zero_add]
    have bD : D ≠ b := nDb
    have two : ∀ {x : Addr} {u v : V}, HH x = some (.lst [u, v]) → x ≠ b ∧ x ≠ d0 ∧ x ≠ d1 ∧ x ≠ K0 ∧ x ≠ K1 := fun {x u v} e => ⟨(fun z => by
      obtain ⟨_, _, _, eb, _⟩ := BH
      rw [z, eb] at e
      cases e), (fun z => by rw [z, ed0H] at e; cases e), (fun z => by rw [z, ed1H] at e; cases e), (fun z => by rw [z, eK0H] at e; cases e), (fun z => by rw [z, eK1H] at e; cases e)⟩
    generalize hs0 : (⟨pp, m0, d0, K0, R0, ts0, g0⟩ : Sd) = s0 at *
    generalize hs1 : (⟨pq, m1, d1, K1, R1, ts1, g1⟩ : Sd) = s1' at *
    obtain ⟨SS, hSS⟩ : ∃ SS, SS = sc b s0 s1' := ⟨_, rfl⟩
    have inSS : ∀ {y : Addr}, y ∈ SS → (y = b ∨ y = d0 ∨ y = d1 ∨ y = K0 ∨ y = K1) ∨ y ∈ [pp.x, pp.lm, pp.ld, pp.dn] ∨ y ∈ [pq.x, pq.lm, pq.ld, pq.dn] := fun {y} h => by
      rw [hSS, ← hs0, ← hs1] at h
      simp only [sc, List.mem_cons, List.not_mem_nil, or_false] at h ⊢
      rcases h with z | z | z | z | z | z | z | z | z | z | z <;> simp [z]
    have noSS : ∀ {x : Addr} {u v : V}, HH x = some (.lst [u, v]) → x ∉ [pp.x, pp.lm, pp.ld, pp.dn] → x ∉ [pq.x, pq.lm, pq.ld, pq.dn] → x ∉ SS := fun e h1 h2 z => by
      obtain ⟨f1, f2, f3, f4, f5⟩ := two e
      rcases inSS z with (y | y | y | y | y) | y | y
      · exact f1 y
      · exact f2 y
      · exact f3 y
      · exact f4 y
      · exact f5 y
      · exact h1 y
      · exact h2 y
    have someSS : ∀ y ∈ SS, HH y ≠ none := fun y h => by
      rcases inSS h with (z | z | z | z | z) | z | z
      · rw [z]; exact bH
      · rw [z]; exact some_ne ed0H
      · rw [z]; exact some_ne ed1H
      · rw [z]; exact some_ne eK0H
      · rw [z]; exact some_ne eK1H
      · exact some4 N0 y z
      · exact some4 N1 y z
    have neSS : ∀ {x : Addr}, HH x = none → x ∉ SS := fun e z => someSS _ z e
    have nD_SS : D ∉ SS := noSS eDH (fun z => some_ne eD (fp D z).1) (fun z => some_ne eD (fq D z).1)
    have nN_SS : DN ∉ SS := noSS eNH (fun z => (fp DN z).2 rfl) (fun z => (fq DN z).2 rfl)
    have nKL_SS : KL ∉ SS := noSS eKLH (nuN Np sB nKL) (nuN Nq sB nKL)
    have nDL_SS : DL ∉ SS := noSS eDLH (nuN Np (sE.trans t5) nDL) (nuN Nq (sE.trans t5) nDL)
    have nE_SS : E ∉ SS := neSS nE
    have rb : ∀ {x : Addr} {u v : V}, HH x = some (.lst [u, v]) → G x = some (.lst [u, v]) := fun e => kG _ _ e (two e).1
    have gD := rb eDH
    have gN := rb eNH
    have gKL := rb eKLH
    have gDL := rb eDLH
    have SA := S0.keep (S := [b]) (.ofKeep kG (by simp) BG.some) (fun y hy => by
      rw [List.mem_singleton.mp hy, ← hs0]
      exact ⟨by simp [zl], K0b.symm⟩)
    have SB := S1.keep (S := [b]) (.ofKeep kG (by simp) BG.some) (fun y hy => by
      rw [List.mem_singleton.mp hy, ← hs1]
      exact ⟨by simp [zl], K1b.symm⟩)
    have tupSS : ∀ y ∈ SS, ∀ xs, G y ≠ some (.tup xs) := fun y h xs => by
      rw [hSS] at h
      have f1 := SA.noTup
      have f2 := SB.noTup
      simp only [sc, List.mem_cons, List.not_mem_nil, or_false] at h f1 f2
      rcases h with z | z | z | z | z | z | z | z | z | z | z
      · obtain ⟨_, _, _, eb, _⟩ := BG
        rw [z, eb]
        exact fun w => by cases w
      · exact f1 y (by simp [z]) xs
      · exact f1 y (by simp [z]) xs
      · exact f1 y (by simp [z]) xs
      · exact f1 y (by simp [z]) xs
      · exact f1 y (by simp [z]) xs
      · exact f2 y (by simp [z]) xs
      · exact f2 y (by simp [z]) xs
      · exact f2 y (by simp [z]) xs
      · exact f2 y (by simp [z]) xs
      · exact f2 y (by simp [z]) xs
    obtain ⟨mm0, mm0'⟩ := hms m0 (by simp)
    obtain ⟨mm1, mm1'⟩ := hms m1 (by simp)
    have ST0 : StS SS G s0 := by
      rw [← hs0]
      exact ⟨a3, a4, a5, mm0, by show m0 ≤ 25; omega, neSS a1, a6, a7⟩
    have ST1 : StS SS G s1' := by
      rw [← hs1]
      exact ⟨c3, c4, c5, mm1, by show m1 ≤ 25; omega, neSS c1, c6, c7⟩
    refine ⟨_, rfl, by decide, by decide, ?_⟩
    refine for_range (n := 40) (fun t σ H2 => ∃ (y8 y9 y10 : Option V), σ = [some (.ref a), some (.int (0 + (i : Int))), some (.ref b), some (.ref D), some (.ref DN), some (.ref KL), some (.ref DL), some (.ref E), y8, y9, y10] ∧ Side C b s0 s1' H2 t (nmb t) ∧ Side C b s1' s0 H2 t (nmb t) ∧ BoxAt (1000 + 500 * t) H2 b ∧ KeepS SS G H2) ⟨_, _, _, rfl, SA, SB, BG.mono (by omega), KeepS.refl _ _⟩ ?_ ?_
    · rintro t σ H2 ht ⟨y8, y9, y10, rfl, A2, B2, X2, k2⟩
      try simp only [L2.start, List.map_cons, List.map_nil, List.length_cons, List.length_nil, List.replicate_succ, List.replicate_zero, List.cons_append, List.nil_append, List.set_cons_succ, List.set_cons_zero, Nat.reduceAdd, Nat.reduceSub, Nat.zero_add]
      show tFor _ _ _ _ _ _
      try simp only [L2.start, List.map_cons, List.map_nil, List.length_cons, List.length_nil, List.replicate_succ, List.replicate_zero, List.cons_append, List.nil_append, List.set_cons_succ, List.set_cons_zero, Nat.reduceAdd, Nat.reduceSub, Nat.zero_add]
      refine ⟨_, rfl, by decide, by decide, ?_⟩
      refine for_range (n := 2) (fun j σ H3 => ∃ (y9 y10 : Option V), σ = [some (.ref a), some (.int (0 + (i : Int))), some (.ref b), some (.ref D), some (.ref DN), some (.ref KL), some (.ref DL), some (.ref E), some (.int (0 + (t : Int))), y9, y10] ∧ Side C b s0 s1' H3 (tt j 0 t) (nmb (tt j 0 t)) ∧ Side C b s1' s0 H3 (tt j 1 t) (nmb (tt j 1 t)) ∧ BoxAt (1000 + 500 * t + 210 * j) H3 b ∧ KeepS SS G H3) ⟨_, _, rfl, A2, B2, X2.mono (by omega), k2⟩ ?_ ?_
      · rintro j σ H3 hj ⟨y9, y10, rfl, A3, B3, X3, k3⟩
        dsimp only [gName]
        try simp only [L2.start, List.map_cons, List.map_nil, List.length_cons, List.length_nil, List.replicate_succ, List.replicate_zero, List.cons_append, List.nil_append, List.set_cons_succ, List.set_cons_zero, Nat.reduceAdd, Nat.reduceSub, Nat.zero_add]
        obtain ⟨s, o, to, u1, u2, u3, u4, u5, ST, As, Bs, hK, hsub, hfin⟩ : ∃ (s o : Sd) (to : Nat), atI [V.ref pp.x, .ref pq.x] (0 + (j : Int)) = some (.ref s.p.x) ∧ atI (nts [m0, m1]) (0 + (j : Int)) = some (.int (s.m : Int)) ∧ atI [V.ref R0, .ref R1] (0 + (j : Int)) = some (.ref s.R) ∧ atI [V.ref K0, .ref K1] (0 + (j : Int)) = some (.ref s.K) ∧ atI [V.ref d0, .ref d1] (0 + (j : Int)) = some (.ref s.d) ∧ StS SS G s ∧ Side C b s o H3 t (nmb t) ∧ Side C b o s H3 to (nmb to) ∧ (s.K ≠ b ∧ s.K ≠ s.d ∧ o.K ≠ b ∧ o.K ≠ s.d ∧ s.K ≠ o.K) ∧ (∀ y ∈ [b, s.d, s.K, s.p.lm, s.p.ld, s.p.dn], y ∈ SS) ∧ ∀ H', Side C b s o H' (t + 1) (nmb (t + 1)) → Side C b o s H' to (nmb to) → Side C b s0 s1' H' (tt (j + 1) 0 t) (nmb (tt (j + 1) 0 t)) ∧ Side C b s1' s0 H' (tt (j + 1) 1 t) (nmb (tt (j + 1) 1 t)) := by
          rcases (show j = 0 ∨ j = 1 by omega) with z | z <;> subst z
          · refine ⟨s0, s1', t, ?_, ?_, ?_, ?_, ?_, ST0, A3, B3, ?_, ?_, fun H' h1 h2 => ⟨h1, h2⟩⟩
            · rw [← hs0]; rfl
            · rw [← hs0]; rfl
            · rw [← hs0]; rfl
            · rw [← hs0]; rfl
            · rw [← hs0]; rfl
            · rw [← hs0, ← hs1]
              exact ⟨K0b, Kd eK0H ed0H, K1b, Kd eK1H ed0H, K01⟩
            · rw [hSS]
              intro y hy
              simp only [sc, List.mem_cons, List.not_mem_nil, or_false] at hy ⊢
              rcases hy with z | z | z | z | z | z <;> simp [z]
          · refine ⟨s1', s0, t + 1, ?_, ?_, ?_, ?_, ?_, ST1, B3, A3, ?_, ?_, fun H' h1 h2 => ⟨h2, h1⟩⟩
            · rw [← hs1]; rfl
            · rw [← hs1]; rfl
            · rw [← hs1]; rfl
            · rw [← hs1]; rfl
            · rw [← hs1]; rfl
            · rw [← hs0, ← hs1]
              exact ⟨K1b, Kd eK1H ed1H, K0b, Kd eK0H ed1H, K01.symm⟩
            · rw [hSS]
              intro y hy
              simp only [sc, List.mem_cons, List.not_mem_nil, or_false] at hy ⊢
              rcases hy with z | z | z | z | z | z <;> simp [z]
        obtain ⟨w1, w2, w3, w4, w5, w6, w7, w8⟩ := id ST
        refine ifS_cut (fun σ' H' => σ' = [some (.ref a), some (.int (0 + (i : Int))), some (.ref b), some (.ref D), some (.ref DN), some (.ref KL), some (.ref DL), some (.ref E), some (.int (0 + (t : Int))), some (.int (0 + (j : Int))), y10] ∧ Side C b s o H' (t + 1) (nmb t) ∧ Side C b o s H' to (nmb to) ∧ BoxAt (1000 + 500 * t + 210 * j) H' b ∧ KeepS SS G H') (fun D' hD' => ?_) ?_
        · refine ⟨_, rfl, _, rfl, _, rfl, E, _, _, _, rfl, rfl, SqL.of (k3.1 _ _ eE nE_SS), u3, s.R, _, rfl, .inl (SqL.of (k3.1 _ _ w7 w6)), ?_⟩
          rw [List.length_map]
          refine ⟨_, _, rfl, rfl, _, rfl, ite2 (fun c => ?_) (fun c => ?_)⟩
          · have c : t < s.ts.length := by have := of_decide_eq_true c; omega
            have hts : s.ts[t]? = some (s.ts[t]'c) := List.getElem?_eq_getElem c
            have hgs : s.due[t]? = some (s.due[t]'(by omega)) := List.getElem?_eq_getElem (by omega)
            have et := k3.tup tupSS (w8 t _ _ hts hgs)
            have hok := w3 t _ hgs
            generalize s.ts[t]'c = r at *
            generalize s.due[t]'(by omega) = g at *
            have atR : atI (s.ts.map V.ref) (0 + (t : Int)) = some (.ref r) := by
              rw [Int.zero_add]
              exact atI_nat (by rw [List.getElem?_map, hts]; rfl)
            have ltk : (s.due.take t).length = t := by rw [List.length_take]; omega
            have tk : s.due.take t ++ [g] = s.due.take (t + 1) := by
              rw [List.take_add_one, hgs]
              rfl
            have pk := As.pK
            obtain ⟨nm, n1, n2, n3, n4, n5⟩ := id As
            refine ⟨_, rfl, _, rfl, DN, _, _, _, rfl, rfl, SqL.of (k3.1 _ _ (kG _ _ eNH (two eNH).1) nN_SS), u1, _, rfl, _, rfl, E, _, _, _, rfl, rfl, SqL.of (k3.1 _ _ eE nE_SS), u3, _, rfl, s.R, _, _, _, rfl, rfl, SqL.of (k3.1 _ _ w7 w6), atR, zn b s o, s.p, s.m, s.due.take t, nm, r, g, rfl, n1, et, by rw [ltk]; exact hok, by omega, fun H4 k4 N4 => ?_⟩
            rw [tk] at N4
            rw [ltk]
            have k34 : KeepS SS H3 H4 := k4.mono (fun y hy => hsub y (by simp only [List.mem_cons, List.not_mem_nil, or_false] at hy ⊢; rcases hy with z | z <;> simp [z]))
            have k04 := k3.trans k34
            have A4 : SideL C b s o H4 t (nmb t) := ⟨nm, N4, n2.keepS k4 (fun y hy => .inr (by simp only [List.mem_cons, List.not_mem_nil, or_false] at hy ⊢; rcases hy with z | z <;> simp [z])), k4.1 _ _ n3 (fun z => pk.1 (by simp only [List.mem_cons, List.not_mem_nil, or_false] at z ⊢; rcases z with z | z <;> simp [z])), n4, n5⟩
            have B4 := Bs.keep k4 (fun y hy => by
              refine ⟨by simp only [zl, List.mem_cons, List.not_mem_nil, or_false] at hy ⊢; rcases hy with z | z <;> simp [z], fun z => pk.2.1 ?_⟩
              rw [z] at hy
              simp only [List.mem_cons, List.not_mem_nil, or_false] at hy ⊢
              rcases hy with z | z <;> simp [z])
            have X4 := X3.keepS k4 (fun z => pk.2.2.2 (by simp only [List.mem_cons, List.not_mem_nil, or_false] at z ⊢; rcases z with z | z <;> simp [z]))
            have ey : (s.m : Int) + (0 + (t : Int)) = ((s.m + t : Nat) : Int) := by omega
            refine ⟨_, rfl, _, rfl, D, _, _, _, rfl, rfl, SqL.of (k04.1 _ _ gD nD_SS), u2, _, rfl, _, _, rfl, rfl, _, _, .int ((s.m + t : Nat) : Int), 0, rfl, rfl, True.intro, .int _, (by show Dp K _ (.int ((s.m : Int) + (0 + (t : Int)))) _; rw [ey]; exact .int _), fun H5 s5 => ?_⟩
            refine ⟨_, rfl, iteF ?_⟩
            dsimp only [tNext]
            have A5 := A4.keep s5
            have B5 := B4.same s5
            have X5 := X4.same s5
            have k05 := k04.trans (.ofSame s5)
            obtain ⟨_, _, _, eK5, _⟩ := id A5
            refine ⟨_, rfl, _, rfl, KL, _, _, _, rfl, rfl, SqL.of (k05.1 _ _ gKL nKL_SS), u4, .inl ⟨rfl, _, SqL.of eK5⟩, _, rfl, _, rfl, E, _, _, _, rfl, rfl, SqL.of (k05.1 _ _ eE nE_SS), u3, _, rfl, s.R, _, _, _, rfl, rfl, SqL.of (k05.1 _ _ w7 w6), atR, s.K, _, _, rfl, rfl, eK5, by rw [List.length_map, List.length_take]; exact big_lt (by omega), ?_⟩
            exact hD' _ _ ⟨rfl, A5.fin hts, B5.keep (S := [s.K]) (.upd (by simp)) (fun y hy => by rw [List.mem_singleton.mp hy]; exact ⟨by simp [zl], hK.2.2.2.2⟩), X5.at (upd_ne hK.1.symm), k05.trans (.upd (hsub _ (by simp)))⟩
          · dsimp only [tNext]
            have c : s.due.length ≤ t := by
              have : ¬ (0 + (t : Int) < ((s.ts.length : Nat) : Int)) := fun z => c (decide_eq_true z)
              omega
            exact hD' _ _ ⟨rfl, As.stay w1 c, Bs, X3, k3⟩
        · rintro σ' H4 ⟨rfl, A4, B4, X4, k4⟩
          refine ⟨_, rfl, (by show 2 ≤ sizeLine; decide), fun T nT => ?_⟩
          have sT := same_upd (o := .tup [.int 7, .int 39]) nT
          have eT : (upd H4 T (.tup [.int 7, .int 39])) T = some (.tup [.int 7, .int 39]) := upd_same
          replace A4 := A4.same sT
          replace B4 := B4.same sT
          replace X4 := X4.same sT
          replace k4 := k4.trans (.ofSame sT)
          generalize upd H4 T (.tup [.int 7, .int 39]) = H5 at *
          refine ⟨T, _, rfl, .inr (.inl (.inl eT)), rfl, rfl, _, rfl, ite2 (fun c => ?_) (fun c => ?_)⟩
          · have c : t = 7 ∨ t = 39 := of_decide_eq_true (by rw [← in739 t ht]; exact c)
            have up3 := nb_3 c
            obtain ⟨nm, n1, n2, n3, n4, n5⟩ := id A4
            have pk := A4.pK
            have l20 : nmb t ≤ 6 := nb_le t
            refine ⟨_, rfl, _, rfl, _, rfl, DN, _, _, _, rfl, rfl, SqL.of (k4.1 _ _ gN nN_SS), u1, _, rfl, _, rfl, D, _, _, _, rfl, rfl, SqL.of (k4.1 _ _ gD nD_SS), u2, _, rfl, _, rfl, KL, _, _, _, rfl, rfl, SqL.of (k4.1 _ _ gKL nKL_SS), u4, _, rfl, _, rfl, DL, _, _, _, rfl, rfl, SqL.of (k4.1 _ _ gDL nDL_SS), u5, zn b s o, zl b s o, s.p, s.m, s.due.take (t + 1), nm, b, _, s.K, s.d, _, rfl, n1, by simp [zn], by simp [zn], X4, by omega, n3, by rw [List.length_map, List.length_take, List.length_take, w1], fun z => ?_, n2, by simp [zl], by omega, w4, by rw [List.length_take]; omega, fun nm' H6 N6 L6 ln6 in6 X6 k6 => ?_⟩
            · simp only [List.mem_cons, List.not_mem_nil, or_false, hK.1, hK.2.1, false_or] at z
              exact pk.1 (by simp [z])
            have A6 : Side C b s o H6 (t + 1) (nmb (t + 1)) := ⟨nm', N6, L6, k6.1 _ _ n3 (fun z => by
              simp only [List.mem_cons, List.not_mem_nil, or_false, hK.1, hK.2.1, false_or] at z
              exact pk.1 (by simp [z])), by omega, fun x hx => by
              rcases in6 x hx with z | z
              · exact n5 x z
              · exact z⟩
            have B6 := B4.keep k6 (fun y hy => by
              simp only [List.mem_cons, List.not_mem_nil, or_false] at hy
              rcases hy with z | z | z <;> rw [z]
              · exact ⟨by simp [zl], hK.2.2.1.symm⟩
              · exact ⟨by simp [zl], hK.2.2.2.1.symm⟩
              · exact ⟨by simp [zl], fun y => pk.2.1 (by simp [← y])⟩)
            obtain ⟨r1, r2⟩ := hfin _ A6 B6
            exact ⟨_, _, rfl, r1, r2, X6.mono (by omega), k4.trans (k6.mono (fun y hy => hsub y (by simp only [List.mem_cons, List.not_mem_nil, or_false] at hy ⊢; rcases hy with z | z | z <;> simp [z])))⟩
          · have c : ¬ (t = 7 ∨ t = 39) := fun z => c (by
              show inV (.int (0 + (t : Int))) [.int 7, .int 39] = true
              rw [in739 t ht]
              exact decide_eq_true z)
            dsimp only [tNext]
            obtain ⟨r1, r2⟩ := hfin _ (by rw [nb_up (fun z => c (.inl z)) (fun z => c (.inr z))]; exact A4) B4
            exact ⟨_, _, rfl, r1, r2, X4.mono (by omega), k4⟩
      · rintro σ H3 ⟨y9, y10, rfl, A3, B3, X3, k3⟩
        exact ⟨_, _, _, rfl, A3, B3, X3.mono (by omega), k3⟩
    · rintro σ H3 ⟨y8, y9, y10, rfl, A3, B3, X3, k3⟩
      try simp only [L2.start, List.map_cons, List.map_nil, List.length_cons, List.length_nil, List.replicate_succ, List.replicate_zero, List.cons_append, List.nil_append, List.set_cons_succ, List.set_cons_zero, Nat.reduceAdd, Nat.reduceSub, Nat.zero_add]
      refine ⟨(by show 3 ≤ sizeLine; decide), fun T nT => ?_⟩
      have sT := same_upd (o := .tup [.int 0, .int 1, .int 0]) nT
      have eT : (upd H3 T (.tup [.int 0, .int 1, .int 0])) T = some (.tup [.int 0, .int 1, .int 0]) := upd_same
      replace A3 := A3.same sT
      replace B3 := B3.same sT
      replace k3 := k3.trans (.ofSame sT)
      generalize upd H3 T (.tup [.int 0, .int 1, .int 0]) = H4 at *
      refine ⟨T, rfl, ⟨_, .inl (.inl eT)⟩, fun F nF => ?_⟩
      refine lc_it (walk_tup (K := K) (a := T) (xs := [.int 0, .int 1, .int 0])) (fun j H5 => Same H4 H5 ∧ H5 F = some (.lst ((List.replicate j true).map V.bl))) ⟨same_upd nF, upd_same⟩ (fun j H5 _ ⟨s5, _⟩ => .inl (.inl (s5 _ _ eT))) ?_ ?_
      · rintro j v H5 H6 hj ⟨s5, eF⟩ ⟨rfl, hz⟩
        replace hj : j < 3 := hj
        obtain ⟨s, o, u1, u2, u4, u5, ST, As⟩ : ∃ (s o : Sd), rIxA [V.ref pp.x, .ref pq.x] v (.ref s.p.x) ∧ rIxA (nts [m0, m1]) v (.int (s.m : Int)) ∧ rIxA [V.ref K0, .ref K1] v (.ref s.K) ∧ rIxA [V.ref d0, .ref d1] v (.ref s.d) ∧ StS SS G s ∧ Side C b s o H4 40 (nmb 40) := by
          have e0 : v = .int 0 ∨ v = .int 1 := by
            rcases (show j = 0 ∨ j = 1 ∨ j = 2 by omega) with z | z | z <;> subst z <;> cases hz
            · exact .inl rfl
            · exact .inr rfl
            · exact .inl rfl
          rcases e0 with z | z <;> subst z
          · refine ⟨s0, s1', ?_, ?_, ?_, ?_, ST0, A3⟩ <;> rw [← hs0] <;> exact ⟨_, rfl, rfl⟩
          · refine ⟨s1', s0, ?_, ?_, ?_, ?_, ST1, B3⟩ <;> rw [← hs1] <;> exact ⟨_, rfl, rfl⟩
        obtain ⟨w1, w2, w3, w4, w5, w6, w7, w8⟩ := id ST
        obtain ⟨vi, rfl, u1⟩ := u1
        replace u2 := u2.of
        replace u4 := u4.of
        replace u5 := u5.of
        have A5 := As.same s5
        have k5 := k3.trans (.ofSame s5)
        obtain ⟨nm, n1, n2, n3, n4, n5⟩ := id A5
        dsimp only [gName]
        refine ⟨rfl, yesT ?_⟩
        try simp only [L2.start, List.map_cons, List.map_nil, List.length_cons, List.length_nil, List.replicate_succ, List.replicate_zero, List.cons_append, List.nil_append, List.set_cons_succ, List.set_cons_zero, Nat.reduceAdd, Nat.reduceSub, Nat.zero_add]
        refine ⟨_, rfl, _, rfl, DN, _, _, _, rfl, rfl, SqL.of (k5.1 _ _ gN nN_SS), u1, _, rfl, _, rfl, D, _, _, _, rfl, rfl, SqL.of (k5.1 _ _ gD nD_SS), u2, _, rfl, _, rfl, KL, _, _, _, rfl, rfl, SqL.of (k5.1 _ _ gKL nKL_SS), u4, _, rfl, _, rfl, DL, _, _, _, rfl, rfl, SqL.of (k5.1 _ _ gDL nDL_SS), u5, zn b s o, zl b s o, s.p, s.m, s.due.take 40, nm, s.K, s.d, rfl, n1, ⟨s.ts.take 40, by rw [List.length_take, List.length_take, w1], n3, fun i' t g hi hg => ?_⟩, taken_ok w3, n2, by have := nb_le 40; omega, n5, w4, by omega, by rw [List.length_take]; omega, fun H7 s7 => ?_⟩
        · rw [List.take_of_length_le (by omega)] at hi hg
          exact k5.tup tupSS (w8 i' t g hi hg)
        · refine ⟨_, s7 _ _ eF, by rw [List.length_map, List.length_replicate]; exact big_lt (by omega), fun y u e => ?_, ?_⟩
          · rw [upd_ne (ne_of_none e nF)]
            exact s7 _ _ (s5 _ _ e)
          · rw [upd_same]
            show some (HO.lst ((List.replicate j true).map V.bl ++ [V.bl true])) = some (HO.lst ((List.replicate (j + 1) true).map V.bl))
            rw [show List.replicate (j + 1) true = List.replicate j true ++ [true] from List.replicate_succ', List.map_append]
            rfl
      rintro H5 ⟨s5, eF⟩
      refine ⟨F, _, rfl, SqL.of eF, ?_⟩
      refine ⟨_, rfl, iteF ?_⟩
      dsimp only [tNext]
      refine ⟨_, _, _, _, _, _, _, _, _, _, rfl, fun y u e => ?_⟩
      obtain ⟨e6, yb⟩ := hh y u e
      have e9 := k9 _ _ e6 yb
      have nSS : y ∉ SS := fun z => by
        have no : H9 y ≠ none := some_ne e9
        rcases inSS z with (w | w | w | w | w) | w | w
        · exact yb w
        · exact no (by rw [w]; exact back (s1.trans sCC) nd0)
        · exact no (by rw [w]; exact back (s1.trans sE) nd1)
        · exact no (by rw [w]; exact back s1 nK0)
        · exact no (by rw [w]; exact back (s1.trans sA) nK1)
        · exact no (fp y w).1
        · exact no (fq y w).1
      exact s5 _ _ (k3.1 _ _ (kG _ _ (sH _ _ (s1 _ _ e9)) yb) nSS)
  · rintro σ H5 ⟨y1, y2, y3, y4, y5, y6, y7, y8, y9, y10, rfl, s5⟩
    exact q _
end
theorem all_mk {l : PySem.W.OpenLaw} {w : World} {K : PySem.W.Frag} {h : Heap} {mg : Str → Option Value} {fa f1 f2 f3 f4 f5 f6 f7 f8 f9 f10 f11 f12 f13 f14 f15 f16 f17 f18 f19 f20 f21 f22 f23 f24 f25 f26 C : Addr} (X : K.In h) (G : h.Ns mainGlobals mg) (hfa : mg "law" = some (.ref fa))
    {od1 an1 od2 an2 od3 an3 od4 an4 od5 an5 od6 an6 od7 an7 od8 an8 od9 an9 od10 an10 od11 an11 od12 an12 od13 an13 od14 an14 od15 an15 od16 an16 od17 an17 od18 an18 od19 an19 od20 an20 od21 an21 od22 an22 od23 an23 od24 an24 od25 an25 od26 an26 : Option Addr} {sl1 sl2 sl3 sl4 sl5 sl6 sl7 sl8 sl9 sl10 sl11 sl12 sl13 sl14 sl15 sl16 sl17 sl18 sl19 sl20 sl21 sl22 sl23 sl24 sl25 sl26 : Array (Option Value)} {oc1 kV1 dc1 pm1 cd1 ct1 oc2 kV2 dc2 pm2 cd2 ct2 oc3 kV3 dc3 pm3 cd3 ct3 oc4 kV4 dc4 pm4 cd4 ct4 oc5 kV5 dc5 pm5 cd5 ct5 oc6 kV6 dc6 pm6 cd6 ct6 oc7 kV7 dc7 pm7 cd7 ct7 oc8 kV8 dc8 pm8 cd8 ct8 oc9 kV9 dc9 pm9 cd9 ct9 oc10 kV10 dc10 pm10 cd10 ct10 oc11 kV11 dc11 pm11 cd11 ct11 oc12 kV12 dc12 pm12 cd12 ct12 oc13 kV13 dc13 pm13 cd13 ct13 oc14 kV14 dc14 pm14 cd14 ct14 oc15 kV15 dc15 pm15 cd15 ct15 oc16 kV16 dc16 pm16 cd16 ct16 oc17 kV17 dc17 pm17 cd17 ct17 oc18 kV18 dc18 pm18 cd18 ct18 oc19 kV19 dc19 pm19 cd19 ct19 oc20 kV20 dc20 pm20 cd20 ct20 oc21 kV21 dc21 pm21 cd21 ct21 oc22 kV22 dc22 pm22 cd22 ct22 oc23 kV23 dc23 pm23 cd23 ct23 oc24 kV24 dc24 pm24 cd24 ct24 oc25 kV25 dc25 pm25 cd25 ct25 oc26 kV26 dc26 pm26 cd26 ct26 : Value}
    (a1 : PySem.W.nsIn K mainGlobals "_law_box" = some (some (.ref f1))) (l1 : K.lookup f1 = some ⟨oc1, od1, .func (PySem.W.fnOf "_law_box" "_law_box" (defArgs sBox) (defBody sBox) (defScope sBox) .none kV1 dc1 pm1 an1 cd1 ct1), sl1⟩) (c1 : PySem.W.codeIn K cd1 "_law_box" = true) (k1 : PySem.W.keepIn K (.ref f1) = true)
    (a2 : PySem.W.nsIn K mainGlobals "_law_take" = some (some (.ref f2))) (l2 : K.lookup f2 = some ⟨oc2, od2, .func (PySem.W.fnOf "_law_take" "_law_take" (defArgs sTake) (defBody sTake) (defScope sTake) .none kV2 dc2 pm2 an2 cd2 ct2), sl2⟩) (c2 : PySem.W.codeIn K cd2 "_law_take" = true) (k2 : PySem.W.keepIn K (.ref f2) = true)
    (a3 : PySem.W.nsIn K mainGlobals "_law_same" = some (some (.ref f3))) (l3 : K.lookup f3 = some ⟨oc3, od3, .func (PySem.W.fnOf "_law_same" "_law_same" (defArgs sSame) (defBody sSame) (defScope sSame) .none kV3 dc3 pm3 an3 cd3 ct3), sl3⟩) (c3 : PySem.W.codeIn K cd3 "_law_same" = true) (k3 : PySem.W.keepIn K (.ref f3) = true)
    (a4 : PySem.W.nsIn K mainGlobals "_law_names" = some (some (.ref f4))) (l4 : K.lookup f4 = some ⟨oc4, od4, .func (PySem.W.fnOf "_law_names" "_law_names" (defArgs s__law_names) (defBody s__law_names) (defScope s__law_names) .none kV4 dc4 pm4 an4 cd4 ct4), sl4⟩) (c4 : PySem.W.codeIn K cd4 "_law_names" = true) (k4 : PySem.W.keepIn K (.ref f4) = true)
    (a5 : PySem.W.nsIn K mainGlobals "_law_gates" = some (some (.ref f5))) (l5 : K.lookup f5 = some ⟨oc5, od5, .func (PySem.W.fnOf "_law_gates" "_law_gates" (defArgs s__law_gates) (defBody s__law_gates) (defScope s__law_gates) .none kV5 dc5 pm5 an5 cd5 ct5), sl5⟩) (c5 : PySem.W.codeIn K cd5 "_law_gates" = true) (k5 : PySem.W.keepIn K (.ref f5) = true)
    (a6 : PySem.W.nsIn K mainGlobals "_law_laid" = some (some (.ref f6))) (l6 : K.lookup f6 = some ⟨oc6, od6, .func (PySem.W.fnOf "_law_laid" "_law_laid" (defArgs s__law_laid) (defBody s__law_laid) (defScope s__law_laid) .none kV6 dc6 pm6 an6 cd6 ct6), sl6⟩) (c6 : PySem.W.codeIn K cd6 "_law_laid" = true) (k6 : PySem.W.keepIn K (.ref f6) = true)
    (a7 : PySem.W.nsIn K mainGlobals "_law_depths" = some (some (.ref f7))) (l7 : K.lookup f7 = some ⟨oc7, od7, .func (PySem.W.fnOf "_law_depths" "_law_depths" (defArgs s__law_depths) (defBody s__law_depths) (defScope s__law_depths) .none kV7 dc7 pm7 an7 cd7 ct7), sl7⟩) (c7 : PySem.W.codeIn K cd7 "_law_depths" = true) (k7 : PySem.W.keepIn K (.ref f7) = true)
    (a8 : PySem.W.nsIn K mainGlobals "_law_stands" = some (some (.ref f8))) (l8 : K.lookup f8 = some ⟨oc8, od8, .func (PySem.W.fnOf "_law_stands" "_law_stands" (defArgs s__law_stands) (defBody s__law_stands) (defScope s__law_stands) .none kV8 dc8 pm8 an8 cd8 ct8), sl8⟩) (c8 : PySem.W.codeIn K cd8 "_law_stands" = true) (k8 : PySem.W.keepIn K (.ref f8) = true)
    (a9 : PySem.W.nsIn K mainGlobals "_law_named" = some (some (.ref f9))) (l9 : K.lookup f9 = some ⟨oc9, od9, .func (PySem.W.fnOf "_law_named" "_law_named" (defArgs s__law_named) (defBody s__law_named) (defScope s__law_named) .none kV9 dc9 pm9 an9 cd9 ct9), sl9⟩) (c9 : PySem.W.codeIn K cd9 "_law_named" = true) (k9 : PySem.W.keepIn K (.ref f9) = true)
    (a10 : PySem.W.nsIn K mainGlobals "law" = some (some (.ref f10))) (l10 : K.lookup f10 = some ⟨oc10, od10, .func (PySem.W.fnOf "law" "law" (defArgs s_law) (defBody s_law) (defScope s_law) .none kV10 dc10 pm10 an10 cd10 ct10), sl10⟩) (c10 : PySem.W.codeIn K cd10 "law" = true) (k10 : PySem.W.keepIn K (.ref f10) = true)
    (aC : PySem.W.nsIn K mainGlobals "Net" = some (some (.ref C)))
    (pgC : PySem.W.plainGet K C Str.empty = true) (hdC : PySem.W.hasDictIn K C = true) (poC : PySem.W.plainOver K C = true) (saC : PySem.W.findIn K (.ref C) "__setattr__" = some (some (.builtin "object.__setattr__"))) (mkC : PySem.W.makesIn K C = true) (kcC : PySem.W.keepIn K (.ref C) = true)
    (naC0 : PySem.W.findIn K (.ref C) "input_count" = some none)
    (naC1 : PySem.W.findIn K (.ref C) "made" = some none)
    (naC2 : PySem.W.findIn K (.ref C) "depths" = some none)
    (naC3 : PySem.W.findIn K (.ref C) "by_name" = some none)
    (a11 : PySem.W.findIn K (.ref C) "__init__" = some (some (.ref f11))) (i11 : PySem.W.isFn K (.ref f11) = true) (l11 : K.lookup f11 = some ⟨oc11, od11, .func (PySem.W.fnOf "__init__" "Net.__init__" (defArgs s_Net___init__) (defBody s_Net___init__) (defScope s_Net___init__) .none kV11 dc11 pm11 an11 cd11 ct11), sl11⟩) (c11 : PySem.W.codeIn K cd11 "Net.__init__" = true) (k11 : PySem.W.keepIn K (.ref f11) = true)
    (a12 : PySem.W.findIn K (.ref C) "both" = some (some (.ref f12))) (i12 : PySem.W.isFn K (.ref f12) = true) (l12 : K.lookup f12 = some ⟨oc12, od12, .func (PySem.W.fnOf "both" "Net.both" (defArgs s_Net_both) (defBody s_Net_both) (defScope s_Net_both) .none kV12 dc12 pm12 an12 cd12 ct12), sl12⟩) (c12 : PySem.W.codeIn K cd12 "Net.both" = true) (k12 : PySem.W.keepIn K (.ref f12) = true)
    (a13 : PySem.W.findIn K (.ref C) "either" = some (some (.ref f13))) (i13 : PySem.W.isFn K (.ref f13) = true) (l13 : K.lookup f13 = some ⟨oc13, od13, .func (PySem.W.fnOf "either" "Net.either" (defArgs s_Net_either) (defBody s_Net_either) (defScope s_Net_either) .none kV13 dc13 pm13 an13 cd13 ct13), sl13⟩) (c13 : PySem.W.codeIn K cd13 "Net.either" = true) (k13 : PySem.W.keepIn K (.ref f13) = true)
    (a14 : PySem.W.findIn K (.ref C) "unlike" = some (some (.ref f14))) (i14 : PySem.W.isFn K (.ref f14) = true) (l14 : K.lookup f14 = some ⟨oc14, od14, .func (PySem.W.fnOf "unlike" "Net.unlike" (defArgs s_Net_unlike) (defBody s_Net_unlike) (defScope s_Net_unlike) .none kV14 dc14 pm14 an14 cd14 ct14), sl14⟩) (c14 : PySem.W.codeIn K cd14 "Net.unlike" = true) (k14 : PySem.W.keepIn K (.ref f14) = true)
    (a15 : PySem.W.findIn K (.ref C) "other" = some (some (.ref f15))) (i15 : PySem.W.isFn K (.ref f15) = true) (l15 : K.lookup f15 = some ⟨oc15, od15, .func (PySem.W.fnOf "other" "Net.other" (defArgs s_Net_other) (defBody s_Net_other) (defScope s_Net_other) .none kV15 dc15 pm15 an15 cd15 ct15), sl15⟩) (c15 : PySem.W.codeIn K cd15 "Net.other" = true) (k15 : PySem.W.keepIn K (.ref f15) = true)
    (a16 : PySem.W.findIn K (.ref C) "fixed" = some (some (.ref f16))) (i16 : PySem.W.isFn K (.ref f16) = true) (l16 : K.lookup f16 = some ⟨oc16, od16, .func (PySem.W.fnOf "fixed" "Net.fixed" (defArgs s_Net_fixed) (defBody s_Net_fixed) (defScope s_Net_fixed) .none kV16 dc16 pm16 an16 cd16 ct16), sl16⟩) (c16 : PySem.W.codeIn K cd16 "Net.fixed" = true) (k16 : PySem.W.keepIn K (.ref f16) = true)
    (a17 : PySem.W.findIn K (.ref C) "put" = some (some (.ref f17))) (i17 : PySem.W.isFn K (.ref f17) = true) (l17 : K.lookup f17 = some ⟨oc17, od17, .func (PySem.W.fnOf "put" "Net.put" (defArgs s_Net_put) (defBody s_Net_put) (defScope s_Net_put) .none kV17 dc17 pm17 an17 cd17 ct17), sl17⟩) (c17 : PySem.W.codeIn K cd17 "Net.put" = true) (k17 : PySem.W.keepIn K (.ref f17) = true)
    (a18 : PySem.W.findIn K (.ref C) "put_gate" = some (some (.ref f18))) (i18 : PySem.W.isFn K (.ref f18) = true) (l18 : K.lookup f18 = some ⟨oc18, od18, .func (PySem.W.fnOf "put_gate" "Net.put_gate" (defArgs s_Net_put_gate) (defBody s_Net_put_gate) (defScope s_Net_put_gate) .none kV18 dc18 pm18 an18 cd18 ct18), sl18⟩) (c18 : PySem.W.codeIn K cd18 "Net.put_gate" = true) (k18 : PySem.W.keepIn K (.ref f18) = true)
    (a19 : PySem.W.findIn K (.ref C) "need" = some (some (.ref f19))) (i19 : PySem.W.isFn K (.ref f19) = true) (l19 : K.lookup f19 = some ⟨oc19, od19, .func (PySem.W.fnOf "need" "Net.need" (defArgs s_Net_need) (defBody s_Net_need) (defScope s_Net_need) .none kV19 dc19 pm19 an19 cd19 ct19), sl19⟩) (c19 : PySem.W.codeIn K cd19 "Net.need" = true) (k19 : PySem.W.keepIn K (.ref f19) = true)
    (a20 : PySem.W.findIn K (.ref C) "give" = some (some (.ref f20))) (i20 : PySem.W.isFn K (.ref f20) = true) (l20 : K.lookup f20 = some ⟨oc20, od20, .func (PySem.W.fnOf "give" "Net.give" (defArgs s_Net_give) (defBody s_Net_give) (defScope s_Net_give) .none kV20 dc20 pm20 an20 cd20 ct20), sl20⟩) (c20 : PySem.W.codeIn K cd20 "Net.give" = true) (k20 : PySem.W.keepIn K (.ref f20) = true)
    (a21 : PySem.W.findIn K (.ref C) "given" = some (some (.ref f21))) (i21 : PySem.W.isFn K (.ref f21) = true) (l21 : K.lookup f21 = some ⟨oc21, od21, .func (PySem.W.fnOf "given" "Net.given" (defArgs s_Net_given) (defBody s_Net_given) (defScope s_Net_given) .none kV21 dc21 pm21 an21 cd21 ct21), sl21⟩) (c21 : PySem.W.codeIn K cd21 "Net.given" = true) (k21 : PySem.W.keepIn K (.ref f21) = true)
    (a22 : PySem.W.findIn K (.ref C) "names" = some (some (.ref f22))) (i22 : PySem.W.isFn K (.ref f22) = true) (l22 : K.lookup f22 = some ⟨oc22, od22, .func (PySem.W.fnOf "names" "Net.names" (defArgs s_Net_names) (defBody s_Net_names) (defScope s_Net_names) .none kV22 dc22 pm22 an22 cd22 ct22), sl22⟩) (c22 : PySem.W.codeIn K cd22 "Net.names" = true) (k22 : PySem.W.keepIn K (.ref f22) = true)
    (a23 : PySem.W.findIn K (.ref C) "inputs" = some (some (.ref f23))) (i23 : PySem.W.isFn K (.ref f23) = true) (l23 : K.lookup f23 = some ⟨oc23, od23, .func (PySem.W.fnOf "inputs" "Net.inputs" (defArgs s_Net_inputs) (defBody s_Net_inputs) (defScope s_Net_inputs) .none kV23 dc23 pm23 an23 cd23 ct23), sl23⟩) (c23 : PySem.W.codeIn K cd23 "Net.inputs" = true) (k23 : PySem.W.keepIn K (.ref f23) = true)
    (a24 : PySem.W.findIn K (.ref C) "gates" = some (some (.ref f24))) (i24 : PySem.W.isFn K (.ref f24) = true) (l24 : K.lookup f24 = some ⟨oc24, od24, .func (PySem.W.fnOf "gates" "Net.gates" (defArgs s_Net_gates) (defBody s_Net_gates) (defScope s_Net_gates) .none kV24 dc24 pm24 an24 cd24 ct24), sl24⟩) (c24 : PySem.W.codeIn K cd24 "Net.gates" = true) (k24 : PySem.W.keepIn K (.ref f24) = true)
    (a25 : PySem.W.findIn K (.ref C) "depth" = some (some (.ref f25))) (i25 : PySem.W.isFn K (.ref f25) = true) (l25 : K.lookup f25 = some ⟨oc25, od25, .func (PySem.W.fnOf "depth" "Net.depth" (defArgs s_Net_depth) (defBody s_Net_depth) (defScope s_Net_depth) .none kV25 dc25 pm25 an25 cd25 ct25), sl25⟩) (c25 : PySem.W.codeIn K cd25 "Net.depth" = true) (k25 : PySem.W.keepIn K (.ref f25) = true)
    (a26 : PySem.W.findIn K (.ref C) "__len__" = some (some (.ref f26))) (i26 : PySem.W.isFn K (.ref f26) = true) (l26 : K.lookup f26 = some ⟨oc26, od26, .func (PySem.W.fnOf "__len__" "Net.__len__" (defArgs s_Net___len__) (defBody s_Net___len__) (defScope s_Net___len__) .none kV26 dc26 pm26 an26 cd26 ct26), sl26⟩) (c26 : PySem.W.codeIn K cd26 "Net.__len__" = true) (k26 : PySem.W.keepIn K (.ref f26) = true)
    (z1 : PySem.W.nsIn K mainGlobals "len" = some none)
    (z2 : PySem.W.nsIn K mainGlobals "abs" = some none)
    (z3 : PySem.W.nsIn K mainGlobals "int" = some none)
    (z4 : PySem.W.nsIn K mainGlobals "divmod" = some none)
    (z5 : PySem.W.nsIn K mainGlobals "list" = some none)
    (z6 : PySem.W.nsIn K mainGlobals "enumerate" = some none)
    (z7 : PySem.W.nsIn K mainGlobals "isinstance" = some none)
    (z8 : PySem.W.nsIn K mainGlobals "tuple" = some none)
    (z9 : PySem.W.nsIn K mainGlobals "str" = some none)
    (z10 : PySem.W.nsIn K mainGlobals "bool" = some none)
    (z11 : PySem.W.nsIn K mainGlobals "zip" = some none)
    (z12 : PySem.W.nsIn K mainGlobals "all" = some none)
    (z13 : PySem.W.nsIn K mainGlobals "range" = some none)
    (z14 : PySem.W.nsIn K mainGlobals "max" = some none)
    (z15 : PySem.W.nsIn K mainGlobals "any" = some none)
    (z16 : PySem.W.nsIn K mainGlobals "min" = some none)
    (z17 : PySem.W.nsIn K mainGlobals "sum" = some none)
    (zsorted : PySem.W.nsIn K mainGlobals "sorted" = some none)
    : ∃ fd : FuncData, (∀ (s : Shared) (v : Value), BindsTo s fd ⟨[v], []⟩ [("_law_script", v)]) ∧ ∀ base : Heap, K.In base → base.Ns mainGlobals mg → FnOk l.prog w K mg base CX0 10 fa fd ["_law_script"] (spLaw K) := by
  have e := hfa.symm.trans (PySem.W.mg_of X G a10)
  cases e
  have F1 := fun_mk (st := sBox) l1 c1 k1
  have b1 := F1.binds (ps := ["_law_script", "_law_k"]) fun _ _ _ _ _ _ us hl => match us, hl with | [_, _], _ => rfl
  have m1 := PySem.W.mg_of X G a1
  have F2 := fun_mk (st := sTake) l2 c2 k2
  have b2 := F2.binds (ps := ["_law_box_here", "_law_size"]) fun _ _ _ _ _ _ us hl => match us, hl with | [_, _], _ => rfl
  have m2 := PySem.W.mg_of X G a2
  have F3 := fun_mk (st := sSame) l3 c3 k3
  have b3 := F3.binds (ps := ["_law_found", "_law_due"]) fun _ _ _ _ _ _ us hl => match us, hl with | [_, _], _ => rfl
  have m3 := PySem.W.mg_of X G a3
  have F4 := fun_mk (st := s__law_names) l4 c4 k4
  have b4 := F4.binds (ps := ["_law_box_here", "_law_size"]) fun _ _ _ _ _ _ us hl => match us, hl with | [_, _], _ => rfl
  have m4 := PySem.W.mg_of X G a4
  have F5 := fun_mk (st := s__law_gates) l5 c5 k5
  have b5 := F5.binds (ps := ["_law_box_here", "_law_wide", "_law_size"]) fun _ _ _ _ _ _ us hl => match us, hl with | [_, _, _], _ => rfl
  have m5 := PySem.W.mg_of X G a5
  have F6 := fun_mk (st := s__law_laid) l6 c6 k6
  have b6 := F6.binds (ps := ["_law_net", "_law_row"]) fun _ _ _ _ _ _ us hl => match us, hl with | [_, _], _ => rfl
  have m6 := PySem.W.mg_of X G a6
  have F7 := fun_mk (st := s__law_depths) l7 c7 k7
  have b7 := F7.binds (ps := ["_law_rows", "_law_many"]) fun _ _ _ _ _ _ us hl => match us, hl with | [_, _], _ => rfl
  have m7 := PySem.W.mg_of X G a7
  have F8 := fun_mk (st := s__law_stands) l8 c8 k8
  have b8 := F8.binds (ps := ["_law_net", "_law_many", "_law_rows", "_law_lists"]) fun _ _ _ _ _ _ us hl => match us, hl with | [_, _, _, _], _ => rfl
  have m8 := PySem.W.mg_of X G a8
  have F9 := fun_mk (st := s__law_named) l9 c9 k9
  have b9 := F9.binds (ps := ["_law_box_here", "_law_net", "_law_many", "_law_rows", "_law_lists"]) fun _ _ _ _ _ _ us hl => match us, hl with | [_, _, _, _, _], _ => rfl
  have m9 := PySem.W.mg_of X G a9
  have F10 := fun_mk (st := s_law) l10 c10 k10
  have F11 := fun_mk (st := s_Net___init__) l11 c11 k11
  have b11 := F11.binds (ps := ["self", "many"]) fun _ _ _ _ _ _ us hl => match us, hl with | [_, _], _ => rfl
  have M11 : Meth K C "__init__" f11 := ⟨a11, i11, k11⟩
  have F12 := fun_mk (st := s_Net_both) l12 c12 k12
  have b12 := F12.binds (ps := ["self", "a", "b"]) fun _ _ _ _ _ _ us hl => match us, hl with | [_, _, _], _ => rfl
  have M12 : Meth K C "both" f12 := ⟨a12, i12, k12⟩
  have F13 := fun_mk (st := s_Net_either) l13 c13 k13
  have b13 := F13.binds (ps := ["self", "a", "b"]) fun _ _ _ _ _ _ us hl => match us, hl with | [_, _, _], _ => rfl
  have M13 : Meth K C "either" f13 := ⟨a13, i13, k13⟩
  have F14 := fun_mk (st := s_Net_unlike) l14 c14 k14
  have b14 := F14.binds (ps := ["self", "a", "b"]) fun _ _ _ _ _ _ us hl => match us, hl with | [_, _, _], _ => rfl
  have M14 : Meth K C "unlike" f14 := ⟨a14, i14, k14⟩
  have F15 := fun_mk (st := s_Net_other) l15 c15 k15
  have b15 := F15.binds (ps := ["self", "a"]) fun _ _ _ _ _ _ us hl => match us, hl with | [_, _], _ => rfl
  have M15 : Meth K C "other" f15 := ⟨a15, i15, k15⟩
  have F16 := fun_mk (st := s_Net_fixed) l16 c16 k16
  have b16 := F16.binds (ps := ["self", "bit"]) fun _ _ _ _ _ _ us hl => match us, hl with | [_, _], _ => rfl
  have M16 : Meth K C "fixed" f16 := ⟨a16, i16, k16⟩
  have F17 := fun_mk (st := s_Net_put) l17 c17 k17
  have b17 := F17.binds (ps := ["self", "kind", "wires"]) fun _ _ _ _ _ _ us hl => match us, hl with | [_, _, _], _ => rfl
  have M17 : Meth K C "put" f17 := ⟨a17, i17, k17⟩
  have F18 := fun_mk (st := s_Net_put_gate) l18 c18 k18
  have b18 := F18.binds (ps := ["self", "gate", "depth"]) fun _ _ _ _ _ _ us hl => match us, hl with | [_, _, _], _ => rfl
  have M18 : Meth K C "put_gate" f18 := ⟨a18, i18, k18⟩
  have F19 := fun_mk (st := s_Net_need) l19 c19 k19
  have b19 := F19.binds (ps := ["self", "wires"]) fun _ _ _ _ _ _ us hl => match us, hl with | [_, _], _ => rfl
  have M19 : Meth K C "need" f19 := ⟨a19, i19, k19⟩
  have F20 := fun_mk (st := s_Net_give) l20 c20 k20
  have b20 := F20.binds (ps := ["self", "name", "wires"]) fun _ _ _ _ _ _ us hl => match us, hl with | [_, _, _], _ => rfl
  have M20 : Meth K C "give" f20 := ⟨a20, i20, k20⟩
  have F21 := fun_mk (st := s_Net_given) l21 c21 k21
  have b21 := F21.binds (ps := ["self", "name"]) fun _ _ _ _ _ _ us hl => match us, hl with | [_, _], _ => rfl
  have M21 : Meth K C "given" f21 := ⟨a21, i21, k21⟩
  have F22 := fun_mk (st := s_Net_names) l22 c22 k22
  have b22 := F22.binds (ps := ["self"]) fun _ _ _ _ _ _ us hl => match us, hl with | [_], _ => rfl
  have M22 : Meth K C "names" f22 := ⟨a22, i22, k22⟩
  have F23 := fun_mk (st := s_Net_inputs) l23 c23 k23
  have b23 := F23.binds (ps := ["self"]) fun _ _ _ _ _ _ us hl => match us, hl with | [_], _ => rfl
  have M23 : Meth K C "inputs" f23 := ⟨a23, i23, k23⟩
  have F24 := fun_mk (st := s_Net_gates) l24 c24 k24
  have b24 := F24.binds (ps := ["self"]) fun _ _ _ _ _ _ us hl => match us, hl with | [_], _ => rfl
  have M24 : Meth K C "gates" f24 := ⟨a24, i24, k24⟩
  have F25 := fun_mk (st := s_Net_depth) l25 c25 k25
  have b25 := F25.binds (ps := ["self", "wire"]) fun _ _ _ _ _ _ us hl => match us, hl with | [_, _], _ => rfl
  have M25 : Meth K C "depth" f25 := ⟨a25, i25, k25⟩
  have F26 := fun_mk (st := s_Net___len__) l26 c26 k26
  have b26 := F26.binds (ps := ["self"]) fun _ _ _ _ _ _ us hl => match us, hl with | [_], _ => rfl
  have M26 : Meth K C "__len__" f26 := ⟨a26, i26, k26⟩
  have clC : Cls K C := ⟨pgC, hdC, poC, saC⟩
  have mgC := PySem.W.mg_of X G aC
  have B : Bl mg := ⟨PySem.W.mg_none_of X G z1, PySem.W.mg_none_of X G z2, PySem.W.mg_none_of X G z3, PySem.W.mg_none_of X G z4, PySem.W.mg_none_of X G z5, PySem.W.mg_none_of X G z6, PySem.W.mg_none_of X G z7, PySem.W.mg_none_of X G z8, PySem.W.mg_none_of X G z9, PySem.W.mg_none_of X G z10, PySem.W.mg_none_of X G z11, PySem.W.mg_none_of X G z12, PySem.W.mg_none_of X G z13, PySem.W.mg_none_of X G z14, PySem.W.mg_none_of X G z15, PySem.W.mg_none_of X G z16, PySem.W.mg_none_of X G z17⟩
  refine ⟨PySem.W.fnOf "law" "law" (defArgs s_law) (defBody s_law) (defScope s_law) .none kV10 dc10 pm10 an10 cd10 ct10, fun s v => .of_eq rfl, fun base _ _ => ?_⟩
  have L : LL K mg C f1 f2 f3 f4 f5 f6 f7 f8 f9 f11 f12 f13 f14 f15 f16 f17 f18 f19 f20 f21 f22 f23 f24 f25 f26 _ _ _ _ _ _ _ _ _ _ _ _ _ _ _ _ _ _ _ _ _ _ _ _ _  := ⟨F1, m1, b1, F2, m2, b2, F3, m3, b3, F4, m4, b4, F5, m5, b5, F6, m6, b6, F7, m7, b7, F8, m8, b8, F9, m9, b9, ⟨clC, naC0, naC1, naC2, naC3, mgC⟩, ⟨mkC, a11, i11, kcC⟩, F11, b11, F12, b12, M12, F13, b13, M13, F14, b14, M14, F15, b15, M15, F16, b16, M16, F17, b17, M17, F18, b18, M18, F19, b19, M19, F20, b20, M20, F21, b21, M21, F22, b22, M22, F23, b23, M23, F24, b24, M24, F25, b25, M25, F26, b26, M26, PySem.W.mg_none_of X G zsorted⟩
  exact ok_law F10 B L
end GZ
open PySem PySem.W PyProof.Rows
set_option maxRecDepth 100000 in
set_option maxHeartbeats 0 in
theorem PySem.Challenge.cw_guessedzeros_k43_nets_laid_gate_by_gate_holds : PySem.Challenge.rw_guessedzeros_k43_nets_laid_gate_by_gate.Holds := by
  w_on; o_law; k_headLK; (case hw => w_witness2)
  k_fill
  refine L2.walk_of (l := PySem.Challenge.rw_guessedzeros_k43_nets_laid_gate_by_gate) (n := 63) (k := 10) (x := "_law_script") (CX := fun _ => L2.CX0) (sp := fun w => GZ.spLaw _) rfl (by decide) rfl ⟨rfl, by decide, by decide⟩ (fun w h Y => PySem.W.kIn_of Y) ?F (fun _ _ a ns hl _ hS => ⟨a, ns, rfl, hS, hl, fun _ => rfl⟩) (fun _ _ _ _ _ h => h)
  case F =>
    intro w mg fa h KX G hmg
    refine' GZ.all_mk KX G hmg ?a1 ?l1 ?c1 ?k1 ?a2 ?l2 ?c2 ?k2 ?a3 ?l3 ?c3 ?k3 ?a4 ?l4 ?c4 ?k4 ?a5 ?l5 ?c5 ?k5 ?a6 ?l6 ?c6 ?k6 ?a7 ?l7 ?c7 ?k7 ?a8 ?l8 ?c8 ?k8 ?a9 ?l9 ?c9 ?k9 ?a10 ?l10 ?c10 ?k10 ?aC ?pgC ?hdC ?poC ?saC ?mkC ?kcC ?naC0 ?naC1 ?naC2 ?naC3 ?a11 ?i11 ?l11 ?c11 ?k11 ?a12 ?i12 ?l12 ?c12 ?k12 ?a13 ?i13 ?l13 ?c13 ?k13 ?a14 ?i14 ?l14 ?c14 ?k14 ?a15 ?i15 ?l15 ?c15 ?k15 ?a16 ?i16 ?l16 ?c16 ?k16 ?a17 ?i17 ?l17 ?c17 ?k17 ?a18 ?i18 ?l18 ?c18 ?k18 ?a19 ?i19 ?l19 ?c19 ?k19 ?a20 ?i20 ?l20 ?c20 ?k20 ?a21 ?i21 ?l21 ?c21 ?k21 ?a22 ?i22 ?l22 ?c22 ?k22 ?a23 ?i23 ?l23 ?c23 ?k23 ?a24 ?i24 ?l24 ?c24 ?k24 ?a25 ?i25 ?l25 ?c25 ?k25 ?a26 ?i26 ?l26 ?c26 ?k26 ?z1 ?z2 ?z3 ?z4 ?z5 ?z6 ?z7 ?z8 ?z9 ?z10 ?z11 ?z12 ?z13 ?z14 ?z15 ?z16 ?z17 ?zsorted
    (case a1 => k_is)
    (case l1 => k_is)
    (case c1 => k_is)
    (case k1 => k_is)
    (case a2 => k_is)
    (case l2 => k_is)
    (case c2 => k_is)
    (case k2 => k_is)
    (case a3 => k_is)
    (case l3 => k_is)
    (case c3 => k_is)
    (case k3 => k_is)
    (case a4 => k_is)
    (case l4 => k_is)
    (case c4 => k_is)
    (case k4 => k_is)
    (case a5 => k_is)
    (case l5 => k_is)
    (case c5 => k_is)
    (case k5 => k_is)
    (case a6 => k_is)
    (case l6 => k_is)
    (case c6 => k_is)
    (case k6 => k_is)
    (case a7 => k_is)
    (case l7 => k_is)
    (case c7 => k_is)
    (case k7 => k_is)
    (case a8 => k_is)
    (case l8 => k_is)
    (case c8 => k_is)
    (case k8 => k_is)
    (case a9 => k_is)
    (case l9 => k_is)
    (case c9 => k_is)
    (case k9 => k_is)
    (case a10 => k_is)
    (case l10 => k_is)
    (case c10 => k_is)
    (case k10 => k_is)
    (case aC => k_is)
    (case pgC => k_is)
    (case hdC => k_is)
    (case poC => k_is)
    (case saC => k_is)
    (case mkC => k_is)
    (case kcC => k_is)
    (case naC0 => k_is)
    (case naC1 => k_is)
    (case naC2 => k_is)
    (case naC3 => k_is)
    (case a11 => k_is)
    (case i11 => k_is)
    (case l11 => k_is)
    (case c11 => k_is)
    (case k11 => k_is)
    (case a12 => k_is)
    (case i12 => k_is)
    (case l12 => k_is)
    (case c12 => k_is)
    (case k12 => k_is)
    (case a13 => k_is)
    (case i13 => k_is)
    (case l13 => k_is)
    (case c13 => k_is)
    (case k13 => k_is)
    (case a14 => k_is)
    (case i14 => k_is)
    (case l14 => k_is)
    (case c14 => k_is)
    (case k14 => k_is)
    (case a15 => k_is)
    (case i15 => k_is)
    (case l15 => k_is)
    (case c15 => k_is)
    (case k15 => k_is)
    (case a16 => k_is)
    (case i16 => k_is)
    (case l16 => k_is)
    (case c16 => k_is)
    (case k16 => k_is)
    (case a17 => k_is)
    (case i17 => k_is)
    (case l17 => k_is)
    (case c17 => k_is)
    (case k17 => k_is)
    (case a18 => k_is)
    (case i18 => k_is)
    (case l18 => k_is)
    (case c18 => k_is)
    (case k18 => k_is)
    (case a19 => k_is)
    (case i19 => k_is)
    (case l19 => k_is)
    (case c19 => k_is)
    (case k19 => k_is)
    (case a20 => k_is)
    (case i20 => k_is)
    (case l20 => k_is)
    (case c20 => k_is)
    (case k20 => k_is)
    (case a21 => k_is)
    (case i21 => k_is)
    (case l21 => k_is)
    (case c21 => k_is)
    (case k21 => k_is)
    (case a22 => k_is)
    (case i22 => k_is)
    (case l22 => k_is)
    (case c22 => k_is)
    (case k22 => k_is)
    (case a23 => k_is)
    (case i23 => k_is)
    (case l23 => k_is)
    (case c23 => k_is)
    (case k23 => k_is)
    (case a24 => k_is)
    (case i24 => k_is)
    (case l24 => k_is)
    (case c24 => k_is)
    (case k24 => k_is)
    (case a25 => k_is)
    (case i25 => k_is)
    (case l25 => k_is)
    (case c25 => k_is)
    (case k25 => k_is)
    (case a26 => k_is)
    (case i26 => k_is)
    (case l26 => k_is)
    (case c26 => k_is)
    (case k26 => k_is)
    (case z1 => k_is)
    (case z2 => k_is)
    (case z3 => k_is)
    (case z4 => k_is)
    (case z5 => k_is)
    (case z6 => k_is)
    (case z7 => k_is)
    (case z8 => k_is)
    (case z9 => k_is)
    (case z10 => k_is)
    (case z11 => k_is)
    (case z12 => k_is)
    (case z13 => k_is)
    (case z14 => k_is)
    (case z15 => k_is)
    (case z16 => k_is)
    (case z17 => k_is)
    (case zsorted => k_is)

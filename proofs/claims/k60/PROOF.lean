import PyProof.Rows.All
import Wide.All
import OpenK.AllK
import Wide.FinOn
import HandS.ForMost
import HandS.Walk
import HandS.Zip
import HandS.WideBits
import HandS.IsInst
import OpenK.KEqL
import HandS.More
import HandS.Flow
import HandS.NoneIn
import HandS.Defaults
import HandS.Wide
import HandS.Style
import HandS.Dict
import HandS.Star
import HandS.Conv
import HandS.Small
import HandS.Codes
import HandS.Text
import HandS.WordsDict
import KE.OsRunLaw
import HandS.Deep
import HandS.OwnEq
import PyProof.Rows.FactsT3
import KE.DataEq
import KE.GoesZip
import KE.GoesMore
import KE.GoesEnum
import PyProof.Rows.ListStrD
import HandS.SortRule
import HandS.SortOrd
import KE.KSortTup
import PyProof.Rows.SortKeyStr
import PySem.Challenge.RW_guessedzeros_k60_settled_wires
set_option Elab.async false
set_option linter.all false
set_option maxRecDepth 100000
set_option maxHeartbeats 40000000
namespace GZ
open PySem PySem.Spec PyProof.Rows L2
/-! ### the text by places -/
def topS (i : Nat) : Stmt := PySem.Challenge.pw_guessedzeros_k60_settled_wires.main.body.getD i (.Pass ⟨0, 0, 0, 0⟩)
abbrev s_settled : Stmt := topS 2
theorem sc_settled : FnScope ["net", "cube", "signs", "gate", "name", "wire"] ["net", "cube"] (defScope s_settled) := ⟨rfl, rfl, rfl, by decide +kernel, rfl, by decide +kernel, by decide +kernel⟩
abbrev s_gate_sign : Stmt := topS 3
theorem sc_gate_sign : FnScope ["gate", "signs", "kind", "one", "other"] ["gate", "signs"] (defScope s_gate_sign) := ⟨rfl, rfl, rfl, by decide +kernel, rfl, by decide +kernel, by decide +kernel⟩
abbrev s_turned_sign : Stmt := topS 4
theorem sc_turned_sign : FnScope ["sign"] ["sign"] (defScope s_turned_sign) := ⟨rfl, rfl, rfl, by decide +kernel, rfl, by decide +kernel, by decide +kernel⟩
abbrev s_ruled_sign : Stmt := topS 5
theorem sc_ruled_sign : FnScope ["one", "other", "ruling"] ["one", "other", "ruling"] (defScope s_ruled_sign) := ⟨rfl, rfl, rfl, by decide +kernel, rfl, by decide +kernel, by decide +kernel⟩
abbrev s_Net___init__ : Stmt := inClass (topS 11) 0
theorem sc_Net___init__ : FnScope ["self", "many"] ["self", "many"] (defScope s_Net___init__) := ⟨rfl, rfl, rfl, by decide +kernel, rfl, by decide +kernel, by decide +kernel⟩
abbrev s_Net_both : Stmt := inClass (topS 11) 1
theorem sc_Net_both : FnScope ["self", "a", "b"] ["self", "a", "b"] (defScope s_Net_both) := ⟨rfl, rfl, rfl, by decide +kernel, rfl, by decide +kernel, by decide +kernel⟩
abbrev s_Net_either : Stmt := inClass (topS 11) 2
theorem sc_Net_either : FnScope ["self", "a", "b"] ["self", "a", "b"] (defScope s_Net_either) := ⟨rfl, rfl, rfl, by decide +kernel, rfl, by decide +kernel, by decide +kernel⟩
abbrev s_Net_unlike : Stmt := inClass (topS 11) 3
theorem sc_Net_unlike : FnScope ["self", "a", "b"] ["self", "a", "b"] (defScope s_Net_unlike) := ⟨rfl, rfl, rfl, by decide +kernel, rfl, by decide +kernel, by decide +kernel⟩
abbrev s_Net_other : Stmt := inClass (topS 11) 4
theorem sc_Net_other : FnScope ["self", "a"] ["self", "a"] (defScope s_Net_other) := ⟨rfl, rfl, rfl, by decide +kernel, rfl, by decide +kernel, by decide +kernel⟩
abbrev s_Net_fixed : Stmt := inClass (topS 11) 5
theorem sc_Net_fixed : FnScope ["self", "bit"] ["self", "bit"] (defScope s_Net_fixed) := ⟨rfl, rfl, rfl, by decide +kernel, rfl, by decide +kernel, by decide +kernel⟩
abbrev s_Net_put : Stmt := inClass (topS 11) 6
theorem sc_Net_put : FnScope ["self", "kind", "wires", "depth", "wire"] ["self", "kind", "wires"] (defScope s_Net_put) := ⟨rfl, rfl, rfl, by decide +kernel, rfl, by decide +kernel, by decide +kernel⟩
abbrev s_Net_put_gate : Stmt := inClass (topS 11) 7
theorem sc_Net_put_gate : FnScope ["self", "gate", "depth"] ["self", "gate", "depth"] (defScope s_Net_put_gate) := ⟨rfl, rfl, rfl, by decide +kernel, rfl, by decide +kernel, by decide +kernel⟩
abbrev s_Net_need : Stmt := inClass (topS 11) 8
theorem sc_Net_need : FnScope ["self", "wires", "wire"] ["self", "wires"] (defScope s_Net_need) := ⟨rfl, rfl, rfl, by decide +kernel, rfl, by decide +kernel, by decide +kernel⟩
abbrev s_Net_give : Stmt := inClass (topS 11) 9
theorem sc_Net_give : FnScope ["self", "name", "wires"] ["self", "name", "wires"] (defScope s_Net_give) := ⟨rfl, rfl, rfl, by decide +kernel, rfl, by decide +kernel, by decide +kernel⟩
abbrev s_Net_given : Stmt := inClass (topS 11) 10
theorem sc_Net_given : FnScope ["self", "name"] ["self", "name"] (defScope s_Net_given) := ⟨rfl, rfl, rfl, by decide +kernel, rfl, by decide +kernel, by decide +kernel⟩
abbrev s_Net_names : Stmt := inClass (topS 11) 11
theorem sc_Net_names : FnScope ["self"] ["self"] (defScope s_Net_names) := ⟨rfl, rfl, rfl, by decide +kernel, rfl, by decide +kernel, by decide +kernel⟩
abbrev s_Net_gates : Stmt := inClass (topS 11) 13
theorem sc_Net_gates : FnScope ["self"] ["self"] (defScope s_Net_gates) := ⟨rfl, rfl, rfl, by decide +kernel, rfl, by decide +kernel, by decide +kernel⟩
abbrev s_Net___len__ : Stmt := inClass (topS 11) 15
theorem sc_Net___len__ : FnScope ["self"] ["self"] (defScope s_Net___len__) := ⟨rfl, rfl, rfl, by decide +kernel, rfl, by decide +kernel, by decide +kernel⟩
abbrev sBox : Stmt := topS 13
abbrev sTake : Stmt := topS 14
abbrev sFolded : Stmt := topS 15
abbrev sSame : Stmt := topS 16
abbrev s__law_gate_rows : Stmt := topS 17
theorem sc__law_gate_rows : FnScope ["_law_box_here", "_law_first", "_law_many", "_law_rows", "_law_turn", "_law_far", "_law_kind", "_law_one", "_law_two"] ["_law_box_here", "_law_first", "_law_many"] (defScope s__law_gate_rows) := ⟨rfl, rfl, rfl, by decide +kernel, rfl, by decide +kernel, by decide +kernel⟩
abbrev s__law_net : Stmt := topS 18
theorem sc__law_net : FnScope ["_law_first", "_law_rows", "_law_given_here", "_law_net_here", "_law_row", "_law_name", "_law_wires"] ["_law_first", "_law_rows", "_law_given_here"] (defScope s__law_net) := ⟨rfl, rfl, rfl, by decide +kernel, rfl, by decide +kernel, by decide +kernel⟩
abbrev s__law_settled : Stmt := topS 19
theorem sc__law_settled : FnScope ["_law_rows", "_law_given_here", "_law_cube_here", "_law_wires", "_law_row", "_law_one", "_law_two", "_law_signs", "_law_sign", "_law_wire", "_law_name", "_law_some"] ["_law_rows", "_law_given_here", "_law_cube_here"] (defScope s__law_settled) := ⟨rfl, rfl, rfl, by decide +kernel, rfl, by decide +kernel, by decide +kernel⟩
abbrev s__law_is_open : Stmt := topS 20
theorem sc__law_is_open : FnScope ["_law_told", "_law_name", "_law_text"] ["_law_told"] (defScope s__law_is_open) := ⟨rfl, rfl, rfl, by decide +kernel, rfl, by decide +kernel, by decide +kernel⟩
abbrev s__law_word_of : Stmt := topS 21
theorem sc__law_word_of : FnScope ["_law_box_here", "_law_some"] ["_law_box_here", "_law_some"] (defScope s__law_word_of) := ⟨rfl, rfl, rfl, by decide +kernel, rfl, by decide +kernel, by decide +kernel⟩
abbrev s__law_given : Stmt := topS 22
theorem sc__law_given : FnScope ["_law_box_here", "_law_far", "_law_found", "_law_k", "_law_wires", "_law_turn"] ["_law_box_here", "_law_far"] (defScope s__law_given) := ⟨rfl, rfl, rfl, by decide +kernel, rfl, by decide +kernel, by decide +kernel⟩
abbrev s__law_cube : Stmt := topS 23
theorem sc__law_cube : FnScope ["_law_box_here", "_law_many", "_law_few", "_law_turn"] ["_law_box_here", "_law_many"] (defScope s__law_cube) := ⟨rfl, rfl, rfl, by decide +kernel, rfl, by decide +kernel, by decide +kernel⟩
abbrev s__law_shut : Stmt := topS 24
theorem sc__law_shut : FnScope ["_law_box_here", "_law_cube_here", "_law_spots", "_law_at", "_law_sign"] ["_law_box_here", "_law_cube_here"] (defScope s__law_shut) := ⟨rfl, rfl, rfl, by decide +kernel, rfl, by decide +kernel, by decide +kernel⟩
abbrev s__law_kept : Stmt := topS 25
theorem sc__law_kept : FnScope ["_law_one", "_law_other", "_law_signs", "_law_name", "_law_text", "_law_mine", "_law_its"] ["_law_one", "_law_other"] (defScope s__law_kept) := ⟨rfl, rfl, rfl, by decide +kernel, rfl, by decide +kernel, by decide +kernel⟩
abbrev s__law_grown_right : Stmt := topS 26
theorem sc__law_grown_right : FnScope ["_law_box_here", "_law_net_here", "_law_first", "_law_rows", "_law_given_here", "_law_cubes", "_law_far", "_law_one", "_law_other", "_law_wider", "_law_names", "_law_cube_here"] ["_law_box_here", "_law_net_here", "_law_first", "_law_rows", "_law_given_here", "_law_cubes"] (defScope s__law_grown_right) := ⟨rfl, rfl, rfl, by decide +kernel, rfl, by decide +kernel, by decide +kernel⟩
abbrev s__law_right : Stmt := topS 27
theorem sc__law_right : FnScope ["_law_box_here", "_law_first", "_law_rows", "_law_given_here", "_law_net_here", "_law_cubes", "_law_turn", "_law_cube_here", "_law_due", "_law_found", "_law_bits", "_law_sign"] ["_law_box_here"] (defScope s__law_right) := ⟨rfl, rfl, rfl, by decide +kernel, rfl, by decide +kernel, by decide +kernel⟩
abbrev s_law : Stmt := topS 28
theorem sc_law : FnScope ["_law_script", "_law_cells", "_law_k"] ["_law_script"] (defScope s_law) := ⟨rfl, rfl, rfl, by decide +kernel, rfl, by decide +kernel, by decide +kernel⟩
/-! ### built-in names that the text leaves alone -/
structure Bl (mg : Str → Option Value) : Prop where
  len : mg "len" = none
  abs : mg "abs" = none
  int : mg "int" = none
  divmod : mg "divmod" = none
  list : mg "list" = none
  enumerate : mg "enumerate" = none
  isinstance : mg "isinstance" = none
  tuple : mg "tuple" = none
  str : mg "str" = none
  bool : mg "bool" = none
  zip : mg "zip" = none
  all : mg "all" = none
  range : mg "range" = none
  max : mg "max" = none
  any : mg "any" = none
  min : mg "min" = none
  sum : mg "sum" = none
/-! ### rules with the written part told (for the blocks of comprehensions) -/
section
variable {X : Cx} {K : PySem.W.Frag}
theorem call_len_seqK (h : X.K = K := by rfl) : CallR X (.builtin "len") (fun xs H Q => ∃ p ys, xs = [.ref p] ∧ (SqL K H p ys ∨ SqT K H p ys) ∧ Q (.int ys.length) H) := by subst h; exact call_len_seq
theorem call_list_ofK (h : X.K = K := by rfl) : CallR X (.type "list") (fun xs H Q => ∃ p ys, xs = [.ref p] ∧ (SqL K H p ys ∨ SqT K H p ys) ∧ ∀ l, H l = none → Q (.ref l) (upd H l (.lst ys))) := by subst h; exact call_list_of
theorem call_tuple_ofK (h : X.K = K := by rfl) : CallR X (.type "tuple") (fun xs H Q => ∃ p ys, xs = [.ref p] ∧ ((SqL K H p ys ∧ ∀ l, H l = none → Q (.ref l) (upd H l (.tup ys))) ∨ (SqT K H p ys ∧ Q (.ref p) H))) := by subst h; exact call_tuple_of
theorem ix_listK (h : X.K = K := by rfl) : IxR X (rIxL K) := by subst h; exact ix_list
theorem ix_tupK (h : X.K = K := by rfl) : IxR X (rIxT K) := by subst h; exact ix_tup
theorem ix_seqK (h : X.K = K := by rfl) : IxR X (rIx K) := by subst h; exact ix_seq
theorem op_in_seqK (h : X.K = K := by rfl) : OpR X (compareOp .In) (rIn K false) := by subst h; exact op_in_seq
theorem op_notIn_seqK (h : X.K = K := by rfl) : OpR X (compareOp .NotIn) (rIn K true) := by subst h; exact op_notIn_seq
theorem sl_listK (h : X.K = K := by rfl) : SlR X (rSlL K) := by subst h; exact sl_list
theorem cr_sumK (hc : X.calm = true) (h : X.K = K := by rfl) : CallR X (.builtin "sum") (rSum K) := by subst h; exact cr_sum hc
theorem cr_allK (hc : X.calm = true) (h : X.K = K := by rfl) : CallR X (.builtin "all") (rAll K) := by subst h; exact cr_all hc
theorem cr_anyK (hc : X.calm = true) (h : X.K = K := by rfl) : CallR X (.builtin "any") (rAny K) := by subst h; exact cr_any hc
theorem call_isiK' (h : X.K = K := by rfl) : CallR X (.builtin "isinstance") (rIsi K) := by subst h; exact call_isi
theorem pi_listK {tg l : Expr} {tl : TE} (hl : PE X l tl) (h : X.K = K := by rfl) : PI X tg l (iList K tl) := by subst h; exact pi_list hl
theorem pi_tupK {tg l : Expr} {tl : TE} (hl : PE X l tl) (h : X.K = K := by rfl) : PI X tg l (iTup K tl) := by subst h; exact pi_tup hl
theorem pe_fldK {e : Expr} {ta : TE} {f : Str} {pos : Pos} (he : PE X e ta) (hb : attributeBase e f X.env (eval e X.env) = eval e X.env) (h : X.K = K := by rfl) : PE X (.Attribute e f pos) (tFld K ta f) := by subst h; exact pe_fld he hb
end
/-! ### heaps -/
theorem same_upd {H : Hp} {p : Addr} {o : HO} (h : H p = none) : Same H (upd H p o) := fun b x e => by
  rw [upd_ne (ne_of_none e h)]
  exact e
/-- all but what stands at b is as it was -/
def Keep (b : Addr) (H H' : Hp) : Prop := ∀ p o, H p = some o → p ≠ b → H' p = some o
theorem Keep.refl (b : Addr) (H : Hp) : Keep b H H := fun _ _ h _ => h
theorem Keep.trans {b : Addr} {H H1 H2 : Hp} (x : Keep b H H1) (y : Keep b H1 H2) : Keep b H H2 := fun p o h n => y p o (x p o h n) n
theorem Keep.ofSame {b : Addr} {H H1 : Hp} (x : Same H H1) : Keep b H H1 := fun p o h _ => x p o h
theorem Keep.upd {b : Addr} {H : Hp} {o : HO} : Keep b H (upd H b o) := fun p x h n => by
  rw [upd_ne n]
  exact h
theorem Keep.new {b p : Addr} {H : Hp} {o : HO} (h : H p = none) : Keep b H (L2.upd H p o) := .ofSame (same_upd h)
theorem Keep.seq {K : PySem.W.Frag} {b a : Addr} {H H' : Hp} {xs : List V} (e : Keep b H H') (n : a ≠ b) (h : SqL K H a xs) : SqL K H' a xs := by
  rcases h with (h | ⟨o, h⟩) | h
  · exact .inl (.inl (e _ _ h n))
  · exact .inl (.inr ⟨o, e _ _ h n⟩)
  · exact .inr h
theorem Keep.seqT {K : PySem.W.Frag} {b a : Addr} {H H' : Hp} {xs : List V} (e : Keep b H H') (n : a ≠ b) (h : SqT K H a xs) : SqT K H' a xs := by
  rcases h with (h | ⟨o, h⟩) | h
  · exact .inl (.inl (e _ _ h n))
  · exact .inl (.inr ⟨o, e _ _ h n⟩)
  · exact .inr h
theorem Same.seqT {K : PySem.W.Frag} {a : Addr} {H H' : Hp} {xs : List V} (e : Same H H') (h : SqT K H a xs) : SqT K H' a xs := by
  rcases h with (h | ⟨o, h⟩) | h
  · exact .inl (.inl (e _ _ h))
  · exact .inl (.inr ⟨o, e _ _ h⟩)
  · exact .inr h
/-- a drawing box: three ints, the last at most c -/
def BoxAt (c : Int) (H : Hp) (b : Addr) : Prop := ∃ x0 x1 x2 : Int, H b = some (.lst [.int x0, .int x1, .int x2]) ∧ 0 ≤ x0 ∧ 0 ≤ x1 ∧ x1 < 2147483647 ∧ 0 ≤ x2 ∧ x2 ≤ c
theorem BoxAt.mono {c d : Int} {H : Hp} {b : Addr} (h : BoxAt c H b) (l : c ≤ d) : BoxAt d H b := by
  obtain ⟨x0, x1, x2, e, a1, a2, a3, a4, a5⟩ := h
  exact ⟨x0, x1, x2, e, a1, a2, a3, a4, by omega⟩
theorem BoxAt.same {c : Int} {H H' : Hp} {b : Addr} (h : BoxAt c H b) (s : Same H H') : BoxAt c H' b := by
  obtain ⟨x0, x1, x2, e, r⟩ := h
  exact ⟨x0, x1, x2, s _ _ e, r⟩
theorem BoxAt.at {c : Int} {H H' : Hp} {b : Addr} (h : BoxAt c H b) (s : H' b = H b) : BoxAt c H' b := by
  obtain ⟨x0, x1, x2, e, r⟩ := h
  exact ⟨x0, x1, x2, by rw [s]; exact e, r⟩
theorem BoxAt.ne {c : Int} {H : Hp} {b p : Addr} (h : BoxAt c H b) (n : H p = none) : b ≠ p := by
  obtain ⟨x0, x1, x2, e, r⟩ := h
  exact ne_of_none e n
theorem e7 : (10 : Int) ^ ((7 : Int).toNat) = 10000000 := by decide
theorem e18 : (10 : Int) ^ ((18 : Int).toNat) = 1000000000000000000 := by decide
theorem divp_small {i j : Int} (h0 : 0 < j) (h1 : j < 2 ^ 250) : CDivP i j := by
  refine ⟨h0, ?_⟩
  show (decide ((if j == 0 then 0 else j.natAbs.log2 / 30 + 1) > 300) && _) = false
  rw [if_neg (show ¬ (j == 0) = true by simpa using (show j ≠ 0 by omega))]
  have hl : j.natAbs.log2 < 250 := PySem.Flt.log2_lt_of (by decide) (by omega)
  rw [decide_eq_false (show ¬ (j.natAbs.log2 / 30 + 1 > 300) by omega), Bool.false_and]
section
variable {P : Program} {w : World} {K : PySem.W.Frag} {mg : Str → Option Value} {base : Heap}
/-! ### _law_take -/
theorem scTake : FnScope ["_law_box_here", "_law_size", "_law_found", "_law_step", "_law_once", "_law_twice"] ["_law_box_here", "_law_size"] (defScope sTake) := ⟨rfl, rfl, rfl, by decide +kernel, rfl, by decide +kernel, by decide +kernel⟩
def spTake (k : Nat) : Sp := fun vs H Q _ => ∃ (b : Addr) (n c : Int), vs = [.ref b, .int n] ∧ BoxAt c H b ∧ 1 ≤ n ∧ n ≤ 10000000 ^ k ∧ n < 2 ^ 250 ∧ c + 2 ^ k ≤ 1000000000 ∧ 0 < k ∧
  ∀ (r : Int) (H' : Hp), 0 ≤ r → r < n → BoxAt (c + 2 ^ (k - 1)) H' b → Keep b H H' → Q (.int r) H'
theorem take_none {f : Addr} {fd : FuncData} : FnOk P w K mg base CX0 0 f fd ["_law_box_here", "_law_size"] (spTake 0) := by
  have no : ∀ vs H Q E, ¬ spTake 0 vs H Q E := fun vs H Q E h => by
    obtain ⟨b, n, c, _, _, _, _, _, _, h0, _⟩ := h
    omega
  exact ⟨fun vs H Q E h => absurd h (no vs H Q E), fun A outer s H args us vs Q E _ _ _ _ h => absurd h (no vs H Q E)⟩
theorem ok_take1 {f : Addr} {fd : FuncData} {k : Nat} (F : Fun K "_law_take" "_law_take" sTake f fd) (G : FnOk P w K mg base CX0 k f fd ["_law_box_here", "_law_size"] (spTake k)) (bf : Binds K fd ["_law_box_here", "_law_size"] []) (mf : mg "_law_take" = some (.ref f)) (B : Bl mg) :
    FnOk P w K mg base CX0 (k + 1) f fd ["_law_box_here", "_law_size"] (spTake (k + 1)) := by
  refine F.ok scTake (fun vs H Q E h => ?_) (fun cdv A outer s H vs Q E hr h => ?_)
  · obtain ⟨b, n, c, rfl, _⟩ := h
    rfl
  obtain ⟨b, n, c, rfl, hB, hn1, hnk, hn60, hc, _, q⟩ := h
  obtain ⟨x0, x1, x2, hb, h0, h1, h1', h2, h2'⟩ := hB
  have hp : (0 : Int) < 2 ^ k := Int.pow_pos (by decide)
  have hk2 : (2 : Int) ^ (k + 1) = 2 ^ k * 2 := Int.pow_succ 2 k
  refine ⟨_, pss_cons (ps_if (pt_cmpR op_gt (pe_ix ix_list (pv 0) pe_int (fun _ _ => rfl)) pe_int (nomark _))
      (pss_cons (ps_asg (pe_callB call_divmodW (by rfl) B.divmod boot_divmod (pa_cons (pe_ix ix_list (pv 0) pe_int (fun _ _ => rfl)) (pa_cons (pv 1) pa_nil)))
          (pg_tup (by rfl) (pgs_cons (pg_sub (pv 0) pe_int set_list) (pgs_cons (pg_name (i := 2) scTake.nd rfl (.inl rfl)) pgs_nil))))
        (pss_one (ps_ret (pv 2)))) pss_nil)
    (pss_cons (ps_if (pt_cmpR op_gt (pv 1) (pe_op op_pow pe_int pe_int) (nomark _))
      (pss_one (ps_ret (pe_op op_mod (pe_op op_add (pe_call G hr (by rfl) mf F.kp bf .nil pass0 (pa_cons (pv 0) (pa_cons (pe_op op_pow pe_int pe_int) pa_nil)))
          (pe_op op_mul (pe_op op_pow pe_int pe_int) (pe_call G hr (by rfl) mf F.kp bf .nil pass0 (pa_cons (pv 0) (pa_cons (pe_op op_add (pe_op op_fdiv (pe_op op_sub (pv 1) pe_int) (pe_op op_pow pe_int pe_int)) pe_int) pa_nil))))) (pv 1)))) pss_nil)
    (pss_cons (ps_asg (pe_op op_add (pe_ix ix_list (pv 0) pe_int (fun _ _ => rfl)) pe_int) (pg_sub (pv 0) pe_int set_list))
    (pss_cons (ps_set (i := 3) scTake.nd rfl (.inl rfl) (pe_op op_add pe_int (pe_op op_mul (pe_ix ix_list (pv 0) pe_int (fun _ _ => rfl)) (pe_ix ix_list (pv 0) pe_int (fun _ _ => rfl)))))
    (pss_cons (ps_set (i := 4) scTake.nd rfl (.inl rfl) (pe_op op_mod (pe_op op_mul (pe_op op_add (pe_ix ix_list (pv 0) pe_int (fun _ _ => rfl)) (pe_op op_mul pe_int (pe_ix ix_list (pv 0) pe_int (fun _ _ => rfl)))) (pv 3)) pe_int))
    (pss_cons (ps_set (i := 5) scTake.nd rfl (.inl rfl) (pe_op op_mod (pe_op op_add (pe_op op_mul (pv 4) (pe_op op_add (pe_op op_mod (pv 4) pe_int) pe_int)) (pe_ix ix_list (pv 0) pe_int (fun _ _ => rfl))) pe_int))
    (pss_one (ps_ret (pe_op op_mod (pe_op op_fdiv (pe_op op_mod (pe_op op_mul (pv 5) (pe_op op_add (pe_op op_mod (pv 5) pe_int) pe_int)) pe_int) pe_int) (pv 1))))))))), ?_⟩
  refine ⟨_, rfl, b, _, _, _, rfl, rfl, SqL.of hb, rfl, _, _, rfl, rfl, _, rfl, ite2 (fun cc => ?_) (fun cc => ?_)⟩
  · -- the great number's own digits
    refine ⟨_, rfl, b, _, _, _, rfl, rfl, SqL.of hb, rfl, _, rfl, _, _, rfl, divp_small (by omega) (by omega), fun p np => ?_⟩
    have nbp : b ≠ p := ne_of_none hb np
    refine ⟨p, _, rfl, .inl (.inl upd_same), rfl, _, _, rfl, _, rfl, b, _, _, 0, rfl, rfl, (by rw [upd_ne nbp]; exact hb), rfl, _, _, rfl, rfl, _, rfl, ?_⟩
    refine q _ _ (Int.emod_nonneg _ (by omega)) (Int.emod_lt_of_pos _ (by omega)) ⟨x0 / n, x1, x2, upd_same, Int.ediv_nonneg h0 (by omega), h1, h1', h2, by show x2 ≤ c + 2 ^ k; omega⟩ ?_
    exact Keep.trans (Keep.new np) Keep.upd
  · refine ⟨_, rfl, _, _, rfl, rfl, ⟨by decide, by decide, by decide⟩, _, _, rfl, rfl, _, rfl, ite2 (fun c2 => ?_) (fun c2 => ?_)⟩
    · -- two lesser draws
      have c3 : (10 : Int) ^ ((7 : Int).toNat) < n := of_decide_eq_true c2
      rw [e7] at c3
      have hk : 0 < k := by
        rcases Nat.eq_zero_or_pos k with z | z
        · subst z
          rw [show (10000000 : Int) ^ (0 + 1) = 10000000 by decide] at hnk
          omega
        · exact z
      obtain ⟨j, rfl⟩ : ∃ j, k = j + 1 := ⟨k - 1, by omega⟩
      have hj2 : (2 : Int) ^ (j + 1) = 2 ^ j * 2 := Int.pow_succ 2 j
      have hjp : (0 : Int) < 2 ^ j := Int.pow_pos (by decide)
      have h10 : (10000000 : Int) ≤ 10000000 ^ (j + 1) := by
        rw [Int.pow_succ]
        have : (0 : Int) < 10000000 ^ j := Int.pow_pos (by decide)
        omega
      have hdiv : (n - 1) / 10000000 + 1 ≤ 10000000 ^ (j + 1) := by
        rw [Int.pow_succ] at hnk
        have : n - 1 < 10000000 ^ (j + 1) * 10000000 := by omega
        have := Int.ediv_lt_of_lt_mul (by decide) this
        omega
      refine ⟨_, rfl, _, _, rfl, rfl, ⟨by decide, by decide, by decide⟩, b, _, c, rfl, ⟨x0, x1, x2, hb, h0, h1, h1', h2, h2'⟩, (by rw [e7]; decide), (by rw [e7]; exact h10), (by rw [e7]; decide), by omega, by omega, fun r1 H1 a1 a2 B1 k1 => ?_⟩
      refine ⟨_, _, rfl, rfl, ⟨by decide, by decide, by decide⟩, _, rfl, _, rfl, _, _, rfl, rfl, _, _, rfl, rfl, ⟨by decide, by decide, by decide⟩, _, _, rfl, rfl, (by rw [e7]; exact ⟨by decide, by decide⟩), _, _, rfl, rfl, ?_⟩
      rw [e7]
      refine ⟨b, _, c + 2 ^ j, rfl, B1, by omega, hdiv, by omega, by omega, by omega, fun r2 H2 a3 a4 B2 k2 => ?_⟩
      refine ⟨_, _, rfl, rfl, .inl ⟨by decide, by decide⟩, _, _, rfl, rfl, _, rfl, _, _, rfl, rfl, (by show (0 : Int) < n; omega), ?_⟩
      refine q _ _ (Int.emod_nonneg _ (by omega)) (Int.emod_lt_of_pos _ (by omega)) (B2.mono ?_) (k1.trans k2)
      show c + 2 ^ j + 2 ^ j ≤ c + 2 ^ (j + 1)
      omega
    · -- a turn of the wheel
      refine ⟨_, rfl, b, _, _, _, rfl, rfl, SqL.of hb, rfl, _, _, rfl, rfl, _, rfl, b, _, _, 2, rfl, rfl, hb, rfl, ?_⟩
      have hb2 : (upd H b (.lst [.int x0, .int x1, .int (x2 + 1)])) b = some (.lst [.int x0, .int x1, .int (x2 + 1)]) := upd_same
      refine ⟨_, rfl, b, _, _, _, rfl, rfl, SqL.of hb2, rfl, _, rfl, b, _, _, _, rfl, rfl, SqL.of hb2, rfl, _, _, rfl, rfl, .inl ⟨by omega, by omega⟩, _, _, rfl, rfl, ?_⟩
      refine ⟨_, rfl, b, _, _, _, rfl, rfl, SqL.of hb2, rfl, _, rfl, b, _, _, _, rfl, rfl, SqL.of hb2, rfl, _, _, rfl, rfl, .inl ⟨by omega, by omega⟩, _, _, rfl, rfl, _, rfl, _, _, rfl, rfl, .inl ⟨by omega, by omega⟩, _, _, rfl, rfl, (by show (0 : Int) < 2147483587; decide), ?_⟩
      generalize (x1 + 39373 * (x2 + 1)) * (69621 + (x2 + 1) * (x2 + 1)) = y
      have y1 := Int.emod_nonneg y (show (2147483587 : Int) ≠ 0 by decide)
      have y2 := Int.emod_lt_of_pos y (show (0 : Int) < 2147483587 by decide)
      refine ⟨_, rfl, _, rfl, _, _, rfl, rfl, (by show (0 : Int) < 30011; decide), _, _, rfl, rfl, _, _, rfl, rfl, .inl ⟨by omega, by omega⟩, _, rfl, b, _, _, _, rfl, rfl, SqL.of hb2, rfl, _, _, rfl, rfl, _, _, rfl, rfl, (by show (0 : Int) < 2147483563; decide), ?_⟩
      generalize (y % 2147483587 * (y % 2147483587 % 30011 + 5) + (x2 + 1)) = z
      have z1 := Int.emod_nonneg z (show (2147483563 : Int) ≠ 0 by decide)
      have z2 := Int.emod_lt_of_pos z (show (0 : Int) < 2147483563 by decide)
      refine ⟨_, rfl, _, rfl, _, _, rfl, rfl, (by show (0 : Int) < 1013; decide), _, _, rfl, rfl, _, _, rfl, rfl, .inl ⟨by omega, by omega⟩, _, _, rfl, rfl, (by show (0 : Int) < 998244353; decide), _, _, rfl, rfl, ⟨by decide, by decide⟩, _, rfl, _, _, rfl, rfl, (by show (0 : Int) < n; omega), ?_⟩
      refine q _ _ (Int.emod_nonneg _ (by omega)) (Int.emod_lt_of_pos _ (by omega)) ⟨x0, x1, x2 + 1, hb2, h0, h1, h1', by omega, by show x2 + 1 ≤ c + 2 ^ k; omega⟩ Keep.upd
theorem ok_take {f : Addr} {fd : FuncData} (F : Fun K "_law_take" "_law_take" sTake f fd) (bf : Binds K fd ["_law_box_here", "_law_size"] []) (mf : mg "_law_take" = some (.ref f)) (B : Bl mg) : ∀ k : Nat, FnOk P w K mg base CX0 k f fd ["_law_box_here", "_law_size"] (spTake k)
  | 0 => take_none
  | k + 1 => ok_take1 F (ok_take F bf mf B k) bf mf B
/-! ### _law_box -/
theorem scBox : FnScope ["_law_script", "_law_k", "_law_cell"] ["_law_script", "_law_k"] (defScope sBox) := ⟨rfl, rfl, rfl, by decide +kernel, rfl, by decide +kernel, by decide +kernel⟩
def spBox (K : PySem.W.Frag) : Sp := fun vs H Q _ => ∃ (a : Addr) (zs : List Int) (k : Int), vs = [.ref a, .int k] ∧ SqL K H a (zs.map V.int) ∧ 0 ≤ k ∧ k ≤ 1000 ∧
  ∀ (p : Addr) (H' : Hp), H p = none → Same H H' → BoxAt 0 H' p → Q (.ref p) H'
theorem b01 (b : Bool) : (-(2 ^ 64) < (if b = true then (1 : Int) else 0)) ∧ (if b = true then (1 : Int) else 0) < 2 ^ 64 := by cases b <;> decide
theorem b01n (b : Bool) : 0 ≤ (if b = true then (1 : Int) else 0) := by cases b <;> decide
theorem abs_nn (i : Int) : 0 ≤ (if i < 0 then -i else i) := by
  split <;> omega
theorem at_int {zs : List Int} {k : Int} (h0 : 0 ≤ k) (h : k < (zs.length : Int)) : ∃ v : Int, atI (zs.map V.int) k = some (.int v) ∧ zs[k.toNat]? = some v := by
  have hk : k.toNat < zs.length := by omega
  have ek : k = ((k.toNat : Nat) : Int) := by omega
  have q : atI (zs.map V.int) ((k.toNat : Nat) : Int) = some (.int zs[k.toNat]) := atI_nat (by rw [List.getElem?_map, List.getElem?_eq_getElem hk] <;> rfl)
  rw [← ek] at q
  exact ⟨zs[k.toNat], q, List.getElem?_eq_getElem hk⟩
theorem ok_box {f : Addr} {fd : FuncData} {k : Nat} (F : Fun K "_law_box" "_law_box" sBox f fd) (B : Bl mg) : FnOk P w K mg base CX0 (k + 1) f fd ["_law_script", "_law_k"] (spBox K) := by
  refine F.ok scBox (fun vs H Q E h => ?_) (fun cdv A outer s H vs Q E hr h => ?_)
  · obtain ⟨a, zs, k, rfl, _⟩ := h
    rfl
  obtain ⟨a, zs, k, rfl, hS, h0, h1, q⟩ := h
  refine ⟨_, pss_cons (ps_set (i := 2) scBox.nd rfl (.inl rfl) (pe_ifExp (pt_cmpR op_lt (pv 1) (pe_callB call_len_seq (by rfl) B.len PySem.boot_len (pa_cons (pv 0) pa_nil)) (nomark _)) (pe_ix ix_list (pv 0) (pv 1) (fun _ _ => rfl)) pe_int))
    (pss_one (ps_ret (pe_lst (pa_cons (pe_op op_mul (pe_callB call_abs (by rfl) B.abs boot_abs (pa_cons (pv 2) pa_nil)) (pe_callTy call_int1 (by rfl) B.int PyProof.Rows.boot_int (pa_cons (pe_cmpR op_ge (pe_callB call_abs (by rfl) B.abs boot_abs (pa_cons (pv 2) pa_nil)) (pe_op op_pow pe_int pe_int) (nomark _)) pa_nil)))
      (pa_cons (pe_op op_mod (pe_op op_mul (pe_op op_add (pe_op op_add (pe_op op_mod (pv 2) pe_int) (pe_op op_mul pe_int (pv 1))) pe_int) pe_int) pe_int) (pa_cons pe_int pa_nil)))))), ?_⟩
  refine ⟨_, rfl, _, rfl, a, _, rfl, .inl hS, _, _, rfl, rfl, _, rfl, ite2 (fun cc => ?_) (fun cc => ?_)⟩
  · have c1 : k < (((zs.map V.int).length : Nat) : Int) := of_decide_eq_true cc
    rw [List.length_map] at c1
    obtain ⟨v, hv, _⟩ := at_int h0 c1
    refine ⟨_, rfl, _, rfl, a, _, _, _, rfl, rfl, hS, hv, ?_⟩
    refine ⟨_, rfl, _, rfl, _, rfl, _, rfl, _, _, rfl, rfl, ⟨by decide, by decide, by decide⟩, _, _, rfl, rfl, .inr ⟨_, rfl, ?_⟩⟩
    refine ⟨_, _, rfl, rfl, .inr (b01 _), _, rfl, _, _, rfl, rfl, (by show (0 : Int) < 2147483629; decide), _, rfl, _, _, rfl, rfl, .inl ⟨by decide, by decide⟩, _, _, rfl, rfl, _, _, rfl, rfl, _, _, rfl, rfl, .inr ⟨by decide, by decide⟩, _, _, rfl, rfl, (by show (0 : Int) < 2147483647; decide), (by show 3 ≤ sizeLine; decide), fun p np => ?_⟩
    refine q p _ np (same_upd np) ⟨_, _, _, upd_same, Int.mul_nonneg (abs_nn v) (b01n _), Int.emod_nonneg _ (by decide), Int.emod_lt_of_pos _ (by decide), by decide, by decide⟩
  · refine ⟨_, rfl, _, rfl, _, rfl, _, rfl, _, _, rfl, rfl, ⟨by decide, by decide, by decide⟩, _, _, rfl, rfl, .inr ⟨_, rfl, ?_⟩⟩
    refine ⟨_, _, rfl, rfl, .inr (b01 _), _, rfl, _, _, rfl, rfl, (by show (0 : Int) < 2147483629; decide), _, rfl, _, _, rfl, rfl, .inl ⟨by decide, by decide⟩, _, _, rfl, rfl, _, _, rfl, rfl, _, _, rfl, rfl, .inr ⟨by decide, by decide⟩, _, _, rfl, rfl, (by show (0 : Int) < 2147483647; decide), (by show 3 ≤ sizeLine; decide), fun p np => ?_⟩
    refine q p _ np (same_upd np) ⟨_, _, _, upd_same, Int.mul_nonneg (abs_nn 0) (b01n _), Int.emod_nonneg _ (by decide), Int.emod_lt_of_pos _ (by decide), by decide, by decide⟩
/-! ### _law_folded -/
theorem scFolded : FnScope ["_law_script", "_law_size", "_law_cells", "_law_k", "_law_cell"] ["_law_script", "_law_size"] (defScope sFolded) := ⟨rfl, rfl, rfl, by decide +kernel, rfl, by decide +kernel, by decide +kernel⟩
def spFolded (K : PySem.W.Frag) : Sp := fun vs H Q _ => ∃ (a : Addr) (ns : List Int) (m : Nat), vs = [.ref a, .int (m : Int)] ∧ SqL K H a (ns.map V.int) ∧ ns.length ≤ 63 ∧ 1 ≤ m ∧ m ≤ 63 ∧
  ∀ (p : Addr) (H' : Hp) (zs : List Int), H p = none → Same H H' → H' p = some (.lst (zs.map V.int)) → zs.length = min ns.length m → Q (.ref p) H'
theorem cut_lo (ns : List Int) (m : Nat) : cutV (ns.map V.int) none (some (m : Int)) = (ns.take m).map V.int := by
  unfold cutV
  rw [HT.sIx_none, HT.sIx_nat, List.drop_zero, Nat.sub_zero, List.length_map, ← List.map_take]
  congr 1
  rw [List.take_eq_take_iff]
  omega
theorem cut_mid (ns : List Int) (m j : Nat) : ∃ ws : List Int, cutV (ns.map V.int) (some (m : Int)) (some (j : Int)) = ws.map V.int ∧ ws.length ≤ ns.length - m := by
  unfold cutV
  rw [HT.sIx_nat, HT.sIx_nat, List.length_map, ← List.map_drop, ← List.map_take]
  refine ⟨_, rfl, ?_⟩
  rw [List.length_take, List.length_drop]
  omega
theorem int_at {ws : List Int} {i : Nat} {x : V} (h : (ws.map V.int)[i]? = some x) : ∃ z, ws[i]? = some z ∧ x = .int z := by
  rw [List.getElem?_map] at h
  cases e : ws[i]? with
  | none =>
    rw [e] at h
    cases h
  | some z =>
    rw [e] at h
    exact ⟨z, rfl, (Option.some.inj h).symm⟩
theorem map_set (zs : List Int) (j : Nat) (v : Int) : (zs.map V.int).set j (.int v) = (zs.set j v).map V.int := List.map_set.symm
theorem ixN_nat {n j : Nat} (h : j < n) : ixN n (j : Int) = some j := by
  unfold ixN
  rw [if_pos (Int.natCast_nonneg j), if_pos (by omega), Int.toNat_natCast]
theorem ok_folded {f : Addr} {fd : FuncData} {k : Nat} (F : Fun K "_law_folded" "_law_folded" sFolded f fd) (B : Bl mg) : FnOk P w K mg base CX0 (k + 1) f fd ["_law_script", "_law_size"] (spFolded K) := by
  refine F.ok scFolded (fun vs H Q E h => ?_) (fun cdv A outer s H vs Q E hr h => ?_)
  · obtain ⟨a, ns, m, rfl, _⟩ := h
    rfl
  obtain ⟨a, ns, m, rfl, hS, h63, hm1, hm2, q⟩ := h
  refine ⟨_, pss_cons (ps_set (i := 2) scFolded.nd rfl (.inl rfl) (pe_callTy call_list_of (by rfl) B.list PyProof.Rows.boot_list (pa_cons (pe_slice sl_list (pv 0) po_none (po_some (pv 1))) pa_nil)))
    (pss_cons (ps_for PassesOwn.never rfl (pi_enum (by rfl) B.enumerate (pa_cons (pe_slice sl_list (pv 0) (po_some (pv 1)) (po_some pe_int)) pa_nil))
        (pg_tup rfl (pgs_cons (pg_name (i := 3) scFolded.nd rfl (.inl rfl)) (pgs_cons (pg_name (i := 4) scFolded.nd rfl (.inl rfl)) pgs_nil)))
      (pss_one (ps_asg (pe_op op_add (pe_ix ix_list (pv 2) (pe_op op_mod (pv 3) (pv 1)) (fun _ _ => rfl)) (pe_op op_mul (pv 4) (pe_op op_add (pv 3) pe_int))) (pg_sub (pv 2) (pe_op op_mod (pv 3) (pv 1)) set_list))))
    (pss_one (ps_ret (pv 2)))), ?_⟩
  refine ⟨_, rfl, _, rfl, _, rfl, a, _, rfl, hS, fun c0 nc0 => ?_⟩
  rw [cut_lo]
  have s0 : Same H (upd H c0 (.lst ((ns.take m).map V.int))) := same_upd nc0
  refine ⟨c0, _, rfl, .inl (.inl (.inl upd_same)), fun p np => ?_⟩
  have npH : H p = none := s0.free np
  have ne0 : c0 ≠ p := fun e => by
    subst e
    rw [upd_same] at np
    cases np
  have s1 := s0.trans (same_upd (o := .lst ((ns.take m).map V.int)) np)
  refine ⟨_, rfl, _, rfl, _, rfl, _, rfl, a, _, rfl, s1.seq hS, fun c nc => ?_⟩
  obtain ⟨ws, ew, lw⟩ := cut_mid ns m 63
  rw [show ((63 : Nat) : Int) = (63 : Int) from rfl] at ew
  rw [ew]
  have s2 := s1.trans (same_upd (o := .lst (ws.map V.int)) nc)
  have nec : c ≠ p := fun e => by
    subst e
    rw [upd_same] at nc
    cases nc
  refine ⟨c, _, rfl, .inl (.inl upd_same), ?_⟩
  refine for_it (walk_enum (K := K) (a := c) (xs := ws.map V.int)) (fun i σ H3 => ∃ (y3 y4 : Option V) (zs : List Int), σ = [some (.ref a), some (.int (m : Int)), some (.ref p), y3, y4] ∧ Same H H3 ∧ H3 c = some (.lst (ws.map V.int)) ∧ H3 p = some (.lst (zs.map V.int)) ∧ zs.length = min ns.length m)
    ⟨none, none, ns.take m, rfl, s2, upd_same, ?_, ?_⟩ (fun i σ H3 _ ⟨_, _, _, _, _, e, _⟩ => .inl (.inl e)) ?_ ?_
  · rw [upd_ne nec.symm]
    exact upd_same
  · rw [List.length_take, Nat.min_comm]
  · rintro i v σ H3 H4 hi ⟨y3, y4, zs, rfl, s3, ec, ep, el⟩ ⟨T, x, y, rfl, nT, rfl, e1, e2⟩
    cases e1
    obtain ⟨z, _, rfl⟩ := int_at e2
    rw [List.length_map] at hi
    have npT : p ≠ T := ne_of_none ep nT
    have ncT : c ≠ T := ne_of_none ec nT
    have sT : Same H3 (upd H3 T (.tup [.int (i : Nat), .int z])) := same_upd nT
    refine ⟨T, _, rfl, .inl (.inl upd_same), rfl, _, _, rfl, _, _, rfl, rfl, ?_⟩
    have lm : (i : Int) % (m : Int) = ((i % m : Nat) : Int) := rfl
    have hl : i % m < zs.length := by
      have := Nat.mod_lt i (show 0 < m by omega)
      omega
    have ev : (zs.map V.int)[i % m]? = some (.int zs[i % m]) := by
      rw [List.getElem?_map, List.getElem?_eq_getElem hl]
      rfl
    refine ⟨_, rfl, _, rfl, _, rfl, _, _, rfl, rfl, (by show (0 : Int) < (m : Int); omega), p, _, _, _, rfl, rfl, SqL.of (sT _ _ ep), (by rw [lm]; exact atI_nat ev), _, rfl, _, rfl, _, _, rfl, rfl, _, _, rfl, rfl, .inr ⟨by omega, by omega⟩, _, _, rfl, rfl, ?_⟩
    refine ⟨_, rfl, _, rfl, _, rfl, _, _, rfl, rfl, (by show (0 : Int) < (m : Int); omega), p, _, _, i % m, rfl, rfl, sT _ _ ep, (by rw [lm, List.length_map]; exact ixN_nat hl), ?_⟩
    refine ⟨_, _, zs.set (i % m) (zs[i % m] + z * ((i : Int) + 2)), rfl, fun b o e => ?_, ?_, ?_, ?_⟩
    · rw [upd_ne (ne_of_none e npH)]
      exact sT _ _ (s3 _ _ e)
    · rw [upd_ne nec]
      exact sT _ _ ec
    · rw [upd_same, map_set]
    · rw [List.length_set]
      exact el
  · rintro σ H3 ⟨y3, y4, zs, rfl, s3, ec, ep, el⟩
    exact ⟨_, rfl, q p H3 zs npH s3 ep el⟩
/-! ### _law_same: of two things of one kind and worth -/
theorem scSame : FnScope ["_law_found", "_law_due", "_law_one", "_law_other"] ["_law_found", "_law_due"] (defScope sSame) := ⟨rfl, rfl, rfl, by decide +kernel, rfl, by decide +kernel, by decide +kernel⟩
def Lv : Nat → PyData → Prop
  | _, .none => True
  | _, .bool _ => True
  | _, .int _ => True
  | _, .str _ => True
  | n + 1, .list ds => ds.length ≤ 1000000 ∧ ∀ d ∈ ds, Lv n d
  | n + 1, .tuple ds => ds.length ≤ 1000000 ∧ ∀ d ∈ ds, Lv n d
  | _, _ => False
mutual
theorem Dp.same {H H' : Hp} (s : Same H H') : ∀ (d : PyData) (v : V), Dp K H v d → Dp K H' v d
  | .none, _, h => by
    cases h
    exact .non
  | .bool b, _, h => by
    cases h
    exact .bl b
  | .int i, _, h => by
    cases h
    exact .int i
  | .str x, _, h => by
    cases h
    exact .str x
  | .list ds, _, h => by
    cases h with
    | lst hs ha => exact .lst (s.seq hs) (Dp.sameAll s ds _ ha)
  | .tuple ds, _, h => by
    cases h with
    | tup hs ha => exact .tup (Same.seqT s hs) (Dp.sameAll s ds _ ha)
  | .dict _, _, h => by cases h
theorem Dp.sameAll {H H' : Hp} (s : Same H H') : ∀ (ds : List PyData) (vs : List V), DpAll K H vs ds → DpAll K H' vs ds
  | [], _, h => by
    cases h
    exact .nil
  | d :: ds, _, h => by
    cases h with
    | cons h1 h2 => exact .cons (Dp.same s d _ h1) (Dp.sameAll s ds _ h2)
end
theorem DpAll.len {H : Hp} : ∀ {ds : List PyData} {vs : List V}, DpAll K H vs ds → vs.length = ds.length
  | [], _, h => by
    cases h
    rfl
  | d :: ds, _, h => by
    cases h with
    | cons h1 h2 => rw [List.length_cons, List.length_cons, DpAll.len h2]
theorem DpAll.get {H : Hp} : ∀ {ds : List PyData} {vs : List V} {i : Nat} {x : V}, DpAll K H vs ds → vs[i]? = some x → ∃ d, ds[i]? = some d ∧ Dp K H x d
  | [], _, i, x, h, e => by
    cases h
    cases e
  | d :: ds, _, 0, x, h, e => by
    cases h with
    | cons h1 h2 =>
      cases e
      exact ⟨d, rfl, h1⟩
  | d :: ds, _, i + 1, x, h, e => by
    cases h with
    | @cons _ vs _ _ h1 h2 => exact DpAll.get (ds := ds) (vs := vs) h2 (show vs[i]? = some x from e)
theorem walk_zipT {a b : Addr} {xs ys : List V} {n : Nat} (hn : n = min xs.length ys.length) : Walk (RZ.ItzT K a b) n (fun H => SqT K H a xs ∧ SqT K H b ys) (YPair (fun i => xs[i]?) (fun i => ys[i]?)) := by
  subst hn
  refine ⟨fun i _ hi q => ?_, fun _ q => ⟨xs, ys, q.1, q.2, by omega⟩, fun i H v H' _ q y => ?_⟩
  · have h1 : i < xs.length := by omega
    have h2 : i < ys.length := by omega
    exact ⟨xs, ys, xs[i], ys[i], q.1, q.2, by simp [h1], by simp [h2]⟩
  · obtain ⟨T, x, z, h1, h2, h3, h4, h5⟩ := y
    exact ⟨T, x, z, h1, h2, h3, h4 xs q.1, h5 ys q.2⟩
theorem ty_lst {H : Hp} {a : Addr} {xs : List V} (h : SqL K H a xs) : TyX K H (.ref a) (.type "list") := by
  rcases h with (h | ⟨o, h⟩) | ⟨o, its, n, h1, h2, _⟩
  · exact .base (.lst h)
  · exact .base (.frz h)
  · exact .kList h1 h2
theorem ty_tup {H : Hp} {a : Addr} {xs : List V} (h : SqT K H a xs) : TyX K H (.ref a) (.type "tuple") := by
  rcases h with (h | ⟨o, h⟩) | ⟨o, its, n, h1, h2, _⟩
  · exact .base (.tup h)
  · exact .fTuple h
  · exact .kTuple h1 h2
def spSame (K : PySem.W.Frag) (k : Nat) : Sp := fun vs H Q _ => ∃ (x y : V) (d : PyData) (j : Nat), vs = [x, y] ∧ k = j + 1 ∧ Lv j d ∧ Dp K H x d ∧ Dp K H y d ∧ ∀ H', Same H H' → Q (.bl true) H'
theorem same_none {f : Addr} {fd : FuncData} : FnOk P w K mg base CX0 0 f fd ["_law_found", "_law_due"] (spSame K 0) := by
  have no : ∀ vs H Q E, ¬ spSame K 0 vs H Q E := fun vs H Q E h => by
    obtain ⟨x, y, d, j, _, h0, _⟩ := h
    omega
  exact ⟨fun vs H Q E h => absurd h (no vs H Q E), fun A outer s H args us vs Q E _ _ _ _ h => absurd h (no vs H Q E)⟩
theorem yesT {σ : L2.St} {H : Hp} {R S : Hp → Prop} (h : R H) : tYes σ H fun b H3 => if b = true then R H3 else S H3 := h
theorem repl_snoc {α : Type} (i : Nat) (x : α) : List.replicate i x ++ [x] = List.replicate (i + 1) x := List.replicate_succ'.symm
theorem all_repl (n : Nat) : (List.replicate n true).all id = true := by
  rw [List.all_eq_true]
  intro x hx
  rw [List.eq_of_mem_replicate hx]
  rfl
theorem kitLT {t : String} {r1 r2 : Bool} (h1 : kitB t "list" = some r1) (h2 : kitB t "tuple" = some r2) : PySem.W.kitAny K (.type t) [.type "list", .type "tuple"] = some (r1 || r2) := by
  refine kitAny_cons (kit_ty h1) (fun e => ?_) (fun e => by rw [e]; rfl)
  rw [e, Bool.false_or]
  refine kitAny_cons (kit_ty h2) (fun e => ?_) (fun e => e)
  rw [e]
  rfl
theorem ok_same1 {f : Addr} {fd : FuncData} {k : Nat} (F : Fun K "_law_same" "_law_same" sSame f fd) (G : FnOk P w K mg base CX0 k f fd ["_law_found", "_law_due"] (spSame K k)) (bf : Binds K fd ["_law_found", "_law_due"] []) (mf : mg "_law_same" = some (.ref f)) (B : Bl mg) :
    FnOk P w K mg base CX0 (k + 1) f fd ["_law_found", "_law_due"] (spSame K (k + 1)) := by
  refine F.ok scSame (fun vs H Q E h => ?_) (fun cdv A outer s H vs Q E hr h => ?_)
  · obtain ⟨x, y, d, j, rfl, _⟩ := h
    rfl
  obtain ⟨x, y, d, j, rfl, ej, lv, dx, dy, q⟩ := h
  obtain rfl : k = j := by omega
  refine ⟨_, pss_cons (ps_if (pt_val (pe_callB call_isiT (by rfl) B.isinstance boot_isinstance (pa_cons (pv 1) (pa_cons (pe_tup (pa_cons (pe_bltn (v := .ty "list") (by rfl) B.list PyProof.Rows.boot_list rfl) (pa_cons (pe_bltn (v := .ty "tuple") (by rfl) B.tuple PyProof.Rows.boot_tuple rfl) pa_nil))) pa_nil))))
      (pss_cons (ps_if (PW.pt (pw_or (pt_cmpR op_ne (pe_callB call_isi (by rfl) B.isinstance boot_isinstance (pa_cons (pv 0) (pa_cons (pe_bltn (v := .ty "list") (by rfl) B.list PyProof.Rows.boot_list rfl) pa_nil))) (pe_callB call_isi (by rfl) B.isinstance boot_isinstance (pa_cons (pv 1) (pa_cons (pe_bltn (v := .ty "list") (by rfl) B.list PyProof.Rows.boot_list rfl) pa_nil))) (nomark _))
          (pw_or1 (pt_cmpR op_ne (pe_callB call_isi (by rfl) B.isinstance boot_isinstance (pa_cons (pv 0) (pa_cons (pe_bltn (v := .ty "tuple") (by rfl) B.tuple PyProof.Rows.boot_tuple rfl) pa_nil))) (pe_callB call_isi (by rfl) B.isinstance boot_isinstance (pa_cons (pv 1) (pa_cons (pe_bltn (v := .ty "tuple") (by rfl) B.tuple PyProof.Rows.boot_tuple rfl) pa_nil))) (nomark _)))))
          (pss_one (ps_ret pe_bl)) pss_nil)
        (pss_one (ps_ret (pe_and (pe_cmpR op_eq (pe_callB call_len_seq (by rfl) B.len PySem.boot_len (pa_cons (pv 0) pa_nil)) (pe_callB call_len_seq (by rfl) B.len PySem.boot_len (pa_cons (pv 1) pa_nil)) (nomark _))
          (pe_one (pe_callB (cr_all rfl) (by rfl) B.all boot_all (pa_cons (pe_lc (own := [("_law_one", 2), ("_law_other", 3)]) (g := gTup K 2 (gCons (gName 2) (gCons (gName 3) gNil))) (by rfl) scSame.nd (RZ.pi_zipA (by rfl) B.zip (pa_cons (pv 0) (pa_cons (pv 1) pa_nil)))
            (blkOk_by (own := [("_law_one", 2), ("_law_other", 3)]) (N := ["_law_found", "_law_due", "_law_one", "_law_other"]) (sc := defScope sSame) (by decide +kernel))
            (fun _ _ _ _ _ => pg_tup rfl (pgs_cons (pg_name (i := 2) scSame.nd rfl (Or.inl rfl) (.inr rfl)) (pgs_cons (pg_name (i := 3) scSame.nd rfl (Or.inl rfl) (.inr rfl)) pgs_nil))) (fun _ _ _ _ _ => pts_nil)
            (fun _ _ _ _ _ => pe_call G hr (by rfl) mf F.kp bf .nil pass0 (pa_cons (pv 2) (pa_cons (pv 3) pa_nil)))) pa_nil))))))) pss_nil)
    (pss_cons (ps_if (PW.pt (pw_or (pt_cmpR op_isN (pv 1) pe_non (nomark _)) (pw_or1 (pt_val (pe_callB call_isi (by rfl) B.isinstance boot_isinstance (pa_cons (pv 1) (pa_cons (pe_bltn (v := .ty "str") (by rfl) B.str PyProof.Rows.boot_str rfl) pa_nil)))))))
      (pss_one (ps_ret (pe_and (pe_cmpR op_eq (pv 0) (pv 1) (nomark _)) (pe_one (pe_cmpR op_eq (pe_callB call_isi (by rfl) B.isinstance boot_isinstance (pa_cons (pv 0) (pa_cons (pe_bltn (v := .ty "str") (by rfl) B.str PyProof.Rows.boot_str rfl) pa_nil))) (pe_callB call_isi (by rfl) B.isinstance boot_isinstance (pa_cons (pv 1) (pa_cons (pe_bltn (v := .ty "str") (by rfl) B.str PyProof.Rows.boot_str rfl) pa_nil))) (nomark _)))))) pss_nil)
    (pss_one (ps_ret (pe_and (pe_callB call_isi (by rfl) B.isinstance boot_isinstance (pa_cons (pv 0) (pa_cons (pe_bltn (v := .ty "int") (by rfl) B.int PyProof.Rows.boot_int rfl) pa_nil))) (pe_and (pe_cmpR op_eq (pe_callB call_isi (by rfl) B.isinstance boot_isinstance (pa_cons (pv 0) (pa_cons (pe_bltn (v := .ty "bool") (by rfl) B.bool PyProof.Rows.boot_bool rfl) pa_nil))) (pe_callB call_isi (by rfl) B.isinstance boot_isinstance (pa_cons (pv 1) (pa_cons (pe_bltn (v := .ty "bool") (by rfl) B.bool PyProof.Rows.boot_bool rfl) pa_nil))) (nomark _))
      (pe_one (pe_cmpR op_eq (pv 0) (pv 1) (nomark _)))))))), ?_⟩
  have pr : Paired ClsV [.ty "list", .ty "tuple"] [.type "list", .type "tuple"] := .cons (.ty _) (.cons (.ty _) .nil)
  refine ⟨_, rfl, (by show 2 ≤ sizeLine; decide), fun tp ntp => ?_⟩
  have s0 : Same H (upd H tp (.tup [.ty "list", .ty "tuple"])) := same_upd ntp
  cases d with
  | none =>
    cases dx
    cases dy
    refine ⟨_, tp, _, _, _, _, rfl, upd_same, pr, .base .non, kitLT (t := "NoneType") (r1 := false) (r2 := false) (by decide +kernel) (by decide +kernel), _, rfl, iteF ?_⟩
    refine ⟨_, rfl, rfl, _, rfl, iteT (iteT ?_)⟩
    refine ⟨_, rfl, _, rfl, rfl, _, rfl, iteT ?_⟩
    refine ⟨_, rfl, _, _, _, _, _, rfl, .ty _, .base .non, kit_ty (by decide +kernel : kitB "NoneType" "str" = some false), _, rfl, _, _, _, _, _, rfl, .ty _, .base .non, kit_ty (by decide +kernel : kitB "NoneType" "str" = some false), rfl, q _ s0⟩
  | bool b =>
    cases dx
    cases dy
    refine ⟨_, tp, _, _, _, _, rfl, upd_same, pr, .base (.bl _), kitLT (t := "bool") (r1 := false) (r2 := false) (by decide +kernel) (by decide +kernel), _, rfl, iteF ?_⟩
    refine ⟨_, rfl, rfl, _, rfl, iteF ?_⟩
    refine ⟨_, rfl, _, _, _, _, _, rfl, .ty _, .base (.bl _), kit_ty (by decide +kernel : kitB "bool" "str" = some false), _, rfl, iteF ?_⟩
    refine ⟨_, rfl, _, _, _, _, _, rfl, .ty _, .base (.bl _), kit_ty (by decide +kernel : kitB "bool" "int" = some true), _, rfl, iteT ?_⟩
    refine ⟨_, rfl, _, _, _, _, _, rfl, .ty _, .base (.bl _), kit_ty (by decide +kernel : kitB "bool" "bool" = some true), _, rfl, _, _, _, _, _, rfl, .ty _, .base (.bl _), kit_ty (by decide +kernel : kitB "bool" "bool" = some true), rfl, _, rfl, iteT ?_⟩
    refine ⟨_, rfl, _, rfl, rfl, ?_⟩
    rw [decide_eq_true rfl]
    exact q _ s0
  | int i =>
    cases dx
    cases dy
    refine ⟨_, tp, _, _, _, _, rfl, upd_same, pr, .base (.int _), kitLT (t := "int") (r1 := false) (r2 := false) (by decide +kernel) (by decide +kernel), _, rfl, iteF ?_⟩
    refine ⟨_, rfl, rfl, _, rfl, iteF ?_⟩
    refine ⟨_, rfl, _, _, _, _, _, rfl, .ty _, .base (.int _), kit_ty (by decide +kernel : kitB "int" "str" = some false), _, rfl, iteF ?_⟩
    refine ⟨_, rfl, _, _, _, _, _, rfl, .ty _, .base (.int _), kit_ty (by decide +kernel : kitB "int" "int" = some true), _, rfl, iteT ?_⟩
    refine ⟨_, rfl, _, _, _, _, _, rfl, .ty _, .base (.int _), kit_ty (by decide +kernel : kitB "int" "bool" = some false), _, rfl, _, _, _, _, _, rfl, .ty _, .base (.int _), kit_ty (by decide +kernel : kitB "int" "bool" = some false), rfl, _, rfl, iteT ?_⟩
    refine ⟨_, rfl, _, rfl, rfl, ?_⟩
    rw [decide_eq_true rfl]
    exact q _ s0
  | str z =>
    cases dx
    cases dy
    refine ⟨_, tp, _, _, _, _, rfl, upd_same, pr, .base (.str _), kitLT (t := "str") (r1 := false) (r2 := false) (by decide +kernel) (by decide +kernel), _, rfl, iteF ?_⟩
    refine ⟨_, rfl, rfl, _, rfl, iteF ?_⟩
    refine ⟨_, rfl, _, _, _, _, _, rfl, .ty _, .base (.str _), kit_ty (by decide +kernel : kitB "str" "str" = some true), _, rfl, iteT ?_⟩
    refine ⟨_, rfl, _, rfl, rfl, ?_⟩
    rw [decide_eq_true rfl]
    refine ⟨_, rfl, iteT ?_⟩
    exact ⟨_, rfl, _, _, _, _, _, rfl, .ty _, .base (.str _), kit_ty (by decide +kernel : kitB "str" "str" = some true), _, rfl, _, _, _, _, _, rfl, .ty _, .base (.str _), kit_ty (by decide +kernel : kitB "str" "str" = some true), rfl, q _ s0⟩
  | list ds =>
    cases dx with
    | @lst a xs _ hx ax =>
    cases dy with
    | @lst b ys _ hy ay =>
    obtain ⟨i, rfl⟩ : ∃ i, k = i + 1 := by
      cases k with
      | zero => exact absurd lv id
      | succ i => exact ⟨i, rfl⟩
    have lx := DpAll.len ax
    have ly := DpAll.len ay
    have hx1 := s0.seq hx
    have hy1 := s0.seq hy
    refine ⟨_, tp, _, _, _, _, rfl, upd_same, pr, ty_lst hy1, kitLT (t := "list") (r1 := true) (r2 := false) (by decide +kernel) (by decide +kernel), _, rfl, iteT ?_⟩
    refine ⟨_, rfl, _, _, _, _, _, rfl, .ty _, ty_lst hx1, kit_ty (by decide +kernel : kitB "list" "list" = some true), _, rfl, _, _, _, _, _, rfl, .ty _, ty_lst hy1, kit_ty (by decide +kernel : kitB "list" "list" = some true), rfl, _, rfl, iteF ?_⟩
    refine ⟨_, rfl, _, _, _, _, _, rfl, .ty _, ty_lst hx1, kit_ty (by decide +kernel : kitB "list" "tuple" = some false), _, rfl, _, _, _, _, _, rfl, .ty _, ty_lst hy1, kit_ty (by decide +kernel : kitB "list" "tuple" = some false), rfl, _, rfl, iteF ?_⟩
    refine ⟨_, rfl, a, _, rfl, .inl hx1, _, rfl, b, _, rfl, .inl hy1, rfl, ?_⟩
    rw [decide_eq_true (by rw [lx, ly])]
    refine ⟨_, rfl, iteT ?_⟩
    refine ⟨_, rfl, _, rfl, a, b, xs, ys, rfl, .inl ⟨hx1, hy1, fun D nD => ?_⟩⟩
    have sD := s0.trans (same_upd (o := .lst []) nD)
    refine lc_it (walk_zip (K := K) (a := a) (b := b) (xs := xs) (ys := ys) rfl) (fun i H3 => Same H H3 ∧ H3 D = some (.lst (List.replicate i (.bl true)))) ⟨sD, upd_same⟩ (fun i H3 _ ⟨s3, _⟩ => ⟨s3.seq hx, s3.seq hy⟩) ?_ ?_
    · rintro i v H3 H4 hi ⟨s3, eD⟩ ⟨T, x, y, rfl, nT, rfl, e1, e2⟩
      obtain ⟨d1, g1, p1⟩ := DpAll.get ax e1
      obtain ⟨d2, g2, p2⟩ := DpAll.get ay e2
      obtain rfl : d1 = d2 := Option.some.inj (g1.symm.trans g2)
      have s4 := s3.trans (same_upd (o := .tup [x, y]) nT)
      refine ⟨T, _, rfl, .inl (.inl upd_same), rfl, _, _, rfl, _, _, rfl, rfl, rfl, ?_⟩
      refine yesT ?_
      refine ⟨_, rfl, _, rfl, x, y, d1, _, rfl, rfl, lv.2 d1 (List.mem_of_getElem? g1), Dp.same s4 _ _ p1, Dp.same s4 _ _ p2, fun H5 s5 => ?_⟩
      refine ⟨_, s5 _ _ (by rw [upd_ne (ne_of_none eD nT)]; exact eD), ?_, fun p o e => ?_, ?_⟩
      · rw [List.length_replicate]
        have := lv.1
        refine Nat.lt_of_lt_of_le (show i < 1000000 by omega) (by decide)
      · rw [upd_ne (ne_of_none e (s0.free nD))]
        exact s5 _ _ (s4 _ _ e)
      · rw [upd_same, repl_snoc]
    · rintro H3 ⟨s3, eD⟩
      refine ⟨D, List.replicate (min xs.length ys.length) true, rfl, .inl (.inl (by rw [List.map_replicate]; exact eD)), ?_⟩
      rw [all_repl]
      exact q _ s3
  | tuple ds =>
    cases dx with
    | @tup a xs _ hx ax =>
    cases dy with
    | @tup b ys _ hy ay =>
    obtain ⟨i, rfl⟩ : ∃ i, k = i + 1 := by
      cases k with
      | zero => exact absurd lv id
      | succ i => exact ⟨i, rfl⟩
    have lx := DpAll.len ax
    have ly := DpAll.len ay
    have hx1 := Same.seqT s0 hx
    have hy1 := Same.seqT s0 hy
    refine ⟨_, tp, _, _, _, _, rfl, upd_same, pr, ty_tup hy1, kitLT (t := "tuple") (r1 := false) (r2 := true) (by decide +kernel) (by decide +kernel), _, rfl, iteT ?_⟩
    refine ⟨_, rfl, _, _, _, _, _, rfl, .ty _, ty_tup hx1, kit_ty (by decide +kernel : kitB "tuple" "list" = some false), _, rfl, _, _, _, _, _, rfl, .ty _, ty_tup hy1, kit_ty (by decide +kernel : kitB "tuple" "list" = some false), rfl, _, rfl, iteF ?_⟩
    refine ⟨_, rfl, _, _, _, _, _, rfl, .ty _, ty_tup hx1, kit_ty (by decide +kernel : kitB "tuple" "tuple" = some true), _, rfl, _, _, _, _, _, rfl, .ty _, ty_tup hy1, kit_ty (by decide +kernel : kitB "tuple" "tuple" = some true), rfl, _, rfl, iteF ?_⟩
    refine ⟨_, rfl, a, _, rfl, .inr hx1, _, rfl, b, _, rfl, .inr hy1, rfl, ?_⟩
    rw [decide_eq_true (by rw [lx, ly])]
    refine ⟨_, rfl, iteT ?_⟩
    refine ⟨_, rfl, _, rfl, a, b, xs, ys, rfl, .inr ⟨hx1, hy1, fun D nD => ?_⟩⟩
    have sD := s0.trans (same_upd (o := .lst []) nD)
    refine lc_it (walk_zipT (K := K) (a := a) (b := b) (xs := xs) (ys := ys) rfl) (fun i H3 => Same H H3 ∧ H3 D = some (.lst (List.replicate i (.bl true)))) ⟨sD, upd_same⟩ (fun i H3 _ ⟨s3, _⟩ => ⟨Same.seqT s3 hx, Same.seqT s3 hy⟩) ?_ ?_
    · rintro i v H3 H4 hi ⟨s3, eD⟩ ⟨T, x, y, rfl, nT, rfl, e1, e2⟩
      obtain ⟨d1, g1, p1⟩ := DpAll.get ax e1
      obtain ⟨d2, g2, p2⟩ := DpAll.get ay e2
      obtain rfl : d1 = d2 := Option.some.inj (g1.symm.trans g2)
      have s4 := s3.trans (same_upd (o := .tup [x, y]) nT)
      refine ⟨T, _, rfl, .inl (.inl upd_same), rfl, _, _, rfl, _, _, rfl, rfl, rfl, ?_⟩
      refine yesT ?_
      refine ⟨_, rfl, _, rfl, x, y, d1, _, rfl, rfl, lv.2 d1 (List.mem_of_getElem? g1), Dp.same s4 _ _ p1, Dp.same s4 _ _ p2, fun H5 s5 => ?_⟩
      refine ⟨_, s5 _ _ (by rw [upd_ne (ne_of_none eD nT)]; exact eD), ?_, fun p o e => ?_, ?_⟩
      · rw [List.length_replicate]
        have := lv.1
        refine Nat.lt_of_lt_of_le (show i < 1000000 by omega) (by decide)
      · rw [upd_ne (ne_of_none e (s0.free nD))]
        exact s5 _ _ (s4 _ _ e)
      · rw [upd_same, repl_snoc]
    · rintro H3 ⟨s3, eD⟩
      refine ⟨D, List.replicate (min xs.length ys.length) true, rfl, .inl (.inl (by rw [List.map_replicate]; exact eD)), ?_⟩
      rw [all_repl]
      exact q _ s3
  | dict _ => cases dx
theorem ok_same {f : Addr} {fd : FuncData} (F : Fun K "_law_same" "_law_same" sSame f fd) (bf : Binds K fd ["_law_found", "_law_due"] []) (mf : mg "_law_same" = some (.ref f)) (B : Bl mg) : ∀ k : Nat, FnOk P w K mg base CX0 k f fd ["_law_found", "_law_due"] (spSame K k)
  | 0 => same_none
  | k + 1 => ok_same1 F (ok_same F bf mf B k) bf mf B
end
end GZ
namespace GM
theorem pow_pos' (n : Nat) : (0 : Int) < 2 ^ n := Int.pow_pos (by decide)
theorem pow_s (n : Nat) : (2 : Int) ^ (n + 1) = 2 ^ n * 2 := Int.pow_succ 2 n
theorem pow_le' {m n : Nat} (h : m ≤ n) : (2 : Int) ^ m ≤ 2 ^ n := by
  induction n with
  | zero =>
    have : m = 0 := by omega
    rw [this]
    exact Int.le_refl _
  | succ n ih =>
    by_cases e : m = n + 1
    · rw [e]
      exact Int.le_refl _
    · have := ih (by omega)
      have := pow_s n
      have := pow_pos' n
      omega
theorem pow_add' (m n : Nat) : (2 : Int) ^ (m + n) = 2 ^ m * 2 ^ n := Int.pow_add 2 m n
theorem bits_pow {x : Nat} {e : Nat} (h : x < 2 ^ e) : PySem.Builtin.Int.intBits (x : Int) ≤ e := PyProof.Rows.intBits_le (by rw [Int.natAbs_natCast]; exact h)
theorem bits_le_pow {x : Nat} {e : Nat} (h : 2 ^ e ≤ x) : e + 1 ≤ PySem.Builtin.Int.intBits (x : Int) := by
  have hx : x ≠ 0 := by
    have := Nat.two_pow_pos e
    omega
  unfold PySem.Builtin.Int.intBits
  rw [if_neg (by simpa using hx), Int.natAbs_natCast]
  have := (Nat.le_log2 hx).mpr h
  omega
theorem bits_unique {x e : Nat} (h1 : 2 ^ e ≤ x) (h2 : x < 2 ^ (e + 1)) : PySem.Builtin.Int.intBits (x : Int) = e + 1 := by
  have := bits_pow h2
  have := bits_le_pow h1
  omega
theorem bits_ex {x : Nat} (h : 0 < x) : ∃ e, 2 ^ e ≤ x ∧ x < 2 ^ (e + 1) := ⟨x.log2, Nat.log2_self_le (by omega), Nat.lt_log2_self⟩
theorem bits_half {x : Nat} (h : 0 < x) : PySem.Builtin.Int.intBits (x : Int) = PySem.Builtin.Int.intBits ((x / 2 : Nat) : Int) + 1 := by
  obtain ⟨e, h1, h2⟩ := bits_ex h
  rw [bits_unique h1 h2]
  cases e with
  | zero =>
    have : x = 1 := by
      simp at h1 h2
      omega
    rw [this]
    rfl
  | succ e =>
    rw [bits_unique (x := x / 2) (e := e)]
    · rw [Nat.pow_succ] at h1
      omega
    · rw [Nat.pow_succ] at h2
      omega
theorem bits_double {x m : Nat} (h : 0 < x) (hm : m ≤ 1) : PySem.Builtin.Int.intBits ((2 * x + m : Nat) : Int) = PySem.Builtin.Int.intBits (x : Int) + 1 := by
  rw [bits_half (x := 2 * x + m) (by omega), show (2 * x + m) / 2 = x by omega]
theorem shr_lt {x : Int} {a b : Nat} (h0 : 0 ≤ x) (h : x < 2 ^ (a + b)) : 0 ≤ x / 2 ^ b ∧ x / 2 ^ b < 2 ^ a := by
  have hb := pow_pos' b
  refine ⟨Int.ediv_nonneg h0 (by omega), ?_⟩
  rw [pow_add'] at h
  exact Int.ediv_lt_of_lt_mul hb h
end GM
namespace GM
/-! ### words: a sign, a scale of m bits, a tail of t bits -/
def bit (a : Int) (n : Nat) : Int := a / 2 ^ n % 2
def blr (a : Int) : Nat → List Int
  | 0 => []
  | n + 1 => bit a n :: blr a n
def wv : List Int → Int
  | [] => 0
  | d :: r => d * 2 ^ r.length + wv r
theorem blr_len (a : Int) : ∀ n, (blr a n).length = n
  | 0 => rfl
  | n + 1 => by
    show (blr a n).length + 1 = n + 1
    rw [blr_len a n]
theorem div_div (w : Int) (t m : Nat) : w / 2 ^ t / 2 ^ m = w / 2 ^ (t + m) := by
  rw [pow_add', Int.ediv_ediv_of_nonneg (Int.le_of_lt (pow_pos' t))]
theorem bit_div (w : Int) (t m : Nat) : bit (w / 2 ^ t) m = bit w (m + t) := by
  unfold bit
  rw [div_div, Nat.add_comm t m]
theorem blr_take (w : Int) (t : Nat) : ∀ m, (blr w (m + t)).take m = blr (w / 2 ^ t) m
  | 0 => rfl
  | m + 1 => by
    show (blr w ((m + 1) + t)).take (m + 1) = bit (w / 2 ^ t) m :: blr (w / 2 ^ t) m
    rw [show m + 1 + t = (m + t) + 1 by omega]
    show bit w (m + t) :: (blr w (m + t)).take m = _
    rw [blr_take w t m, bit_div]
theorem blr_drop (w : Int) (t : Nat) : ∀ m, (blr w (m + t)).drop m = blr w t
  | 0 => by rw [Nat.zero_add]; rfl
  | m + 1 => by
    rw [show m + 1 + t = (m + t) + 1 by omega]
    show (blr w (m + t)).drop m = _
    exact blr_drop w t m
theorem mod_step (a : Int) (n : Nat) : bit a n * 2 ^ n + a % 2 ^ n = a % 2 ^ (n + 1) := by
  unfold bit
  have hp := pow_pos' n
  have e1 := Int.emod_add_mul_ediv a (2 ^ n)
  have e2 := Int.emod_add_mul_ediv (a / 2 ^ n) 2
  have h1 := Int.emod_nonneg a (show (2 : Int) ^ n ≠ 0 by omega)
  have h2 := Int.emod_lt_of_pos a hp
  have e3 : 2 ^ n * (a / 2 ^ n) = a / 2 ^ n % 2 * 2 ^ n + a / 2 ^ n / 2 * (2 ^ n * 2) := by
    conv => lhs; rw [← e2]
    rw [Int.mul_add, Int.mul_comm (2 ^ n) (a / 2 ^ n % 2), ← Int.mul_assoc, Int.mul_comm (2 ^ n * 2) _]
  have key : (a / 2 ^ n % 2 * 2 ^ n + a % 2 ^ n) + a / 2 ^ n / 2 * 2 ^ (n + 1) = a := by
    rw [pow_s]
    omega
  have hb : 0 ≤ a / 2 ^ n % 2 * 2 ^ n + a % 2 ^ n ∧ a / 2 ^ n % 2 * 2 ^ n + a % 2 ^ n < 2 ^ (n + 1) := by
    rw [pow_s]
    have : a / 2 ^ n % 2 = 0 ∨ a / 2 ^ n % 2 = 1 := by omega
    rcases this with z | z <;> rw [z] <;> omega
  have em := Int.add_mul_emod_self_right (a / 2 ^ n % 2 * 2 ^ n + a % 2 ^ n) (a / 2 ^ n / 2) (2 ^ (n + 1))
  rw [key, Int.emod_eq_of_lt hb.1 hb.2] at em
  exact em.symm
theorem wv_blr (a : Int) : ∀ n, wv (blr a n) = a % 2 ^ n
  | 0 => by
    show (0 : Int) = a % 1
    omega
  | n + 1 => by
    show bit a n * 2 ^ (blr a n).length + wv (blr a n) = _
    rw [blr_len, wv_blr a n, ← mod_step a n]
theorem fold2 : ∀ (ds : List Int) (w : Int), ds.foldl (fun a b => a * 2 + b) w = w * 2 ^ ds.length + wv ds
  | [], w => by
    show w = w * 2 ^ 0 + 0
    rw [Int.pow_zero]
    omega
  | d :: r, w => by
    show r.foldl (fun a b => a * 2 + b) (w * 2 + d) = w * 2 ^ (r.length + 1) + (d * 2 ^ r.length + wv r)
    rw [fold2 r, pow_s, Int.add_mul, Int.mul_assoc, Int.mul_comm 2 (2 ^ r.length)]
    omega
theorem wv_ones : ∀ k, wv (List.replicate k 1) = 2 ^ k - 1
  | 0 => rfl
  | k + 1 => by
    rw [List.replicate_succ]
    show 1 * 2 ^ (List.replicate k (1 : Int)).length + wv (List.replicate k 1) = _
    rw [List.length_replicate, wv_ones k, pow_s]
    omega
/-- sign, scale, tail of a word -/
def sgn (m t : Nat) (w : Int) : Int := w / 2 ^ (m + t) % 2
def scl (m t : Nat) (w : Int) : Int := w / 2 ^ t % 2 ^ m
def tlp (t : Nat) (w : Int) : Int := w % 2 ^ t
theorem scl_tlp (m t : Nat) (w : Int) : scl m t w * 2 ^ t + tlp t w = w % 2 ^ (m + t) := by
  induction m with
  | zero =>
    unfold scl tlp
    rw [Int.pow_zero, Int.emod_one, Int.zero_mul, Int.zero_add, Nat.zero_add]
  | succ m ih =>
    have e := mod_step (w / 2 ^ t) m
    have e2 := mod_step w (m + t)
    rw [bit_div] at e
    unfold scl at ih ⊢
    rw [← e, Int.add_mul, show m + 1 + t = (m + t) + 1 by omega, ← e2, ← ih, Int.mul_assoc, ← pow_add']
    omega
theorem sgn_01 {m t : Nat} {w : Int} : sgn m t w = 0 ∨ sgn m t w = 1 := by
  unfold sgn
  omega
theorem word_eq {m t : Nat} {w : Int} (h0 : 0 ≤ w) (h1 : w < 2 ^ (1 + m + t)) : sgn m t w * 2 ^ (m + t) + w % 2 ^ (m + t) = w := by
  have e := mod_step w (m + t)
  rw [show m + t + 1 = 1 + m + t by omega, Int.emod_eq_of_lt h0 h1] at e
  exact e
theorem scl_nn (m t : Nat) (w : Int) : 0 ≤ scl m t w ∧ scl m t w < 2 ^ m := ⟨Int.emod_nonneg _ (by have := pow_pos' m; omega), Int.emod_lt_of_pos _ (pow_pos' m)⟩
theorem tlp_nn (t : Nat) (w : Int) : 0 ≤ tlp t w ∧ tlp t w < 2 ^ t := ⟨Int.emod_nonneg _ (by have := pow_pos' t; omega), Int.emod_lt_of_pos _ (pow_pos' t)⟩
/-- with the other sign -/
def trn (m t : Nat) (w : Int) : Int := (1 - sgn m t w) * 2 ^ (m + t) + w % 2 ^ (m + t)
theorem mk_parts {m t : Nat} {s r : Int} (hs : s = 0 ∨ s = 1) (h0 : 0 ≤ r) (h1 : r < 2 ^ (m + t)) : 0 ≤ s * 2 ^ (m + t) + r ∧ s * 2 ^ (m + t) + r < 2 ^ (1 + m + t) ∧ sgn m t (s * 2 ^ (m + t) + r) = s ∧ (s * 2 ^ (m + t) + r) % 2 ^ (m + t) = r := by
  have hp := pow_pos' (m + t)
  have e : (2 : Int) ^ (1 + m + t) = 2 ^ (m + t) * 2 := by rw [← pow_s]; congr 1; omega
  have em : (s * 2 ^ (m + t) + r) % 2 ^ (m + t) = r := by
    rw [Int.add_comm, Int.add_mul_emod_self_right, Int.emod_eq_of_lt h0 h1]
  have ed : (s * 2 ^ (m + t) + r) / 2 ^ (m + t) = s := by
    rw [Int.add_comm, Int.add_mul_ediv_right _ _ (by omega), Int.ediv_eq_zero_of_lt h0 h1, Int.zero_add]
  refine ⟨?_, ?_, ?_, em⟩
  · rcases hs with z | z <;> subst z <;> omega
  · rw [e]
    rcases hs with z | z <;> subst z <;> omega
  · unfold sgn
    rw [ed]
    omega
theorem trn_trn {m t : Nat} {w : Int} (h0 : 0 ≤ w) (h1 : w < 2 ^ (1 + m + t)) : trn m t (trn m t w) = w ∧ 0 ≤ trn m t w ∧ trn m t w < 2 ^ (1 + m + t) := by
  have hp := pow_pos' (m + t)
  have hs : 1 - sgn m t w = 0 ∨ 1 - sgn m t w = 1 := by
    have := sgn_01 (m := m) (t := t) (w := w)
    omega
  obtain ⟨a, b, c, d⟩ := mk_parts (m := m) (t := t) hs (Int.emod_nonneg w (show (2 : Int) ^ (m + t) ≠ 0 by omega)) (Int.emod_lt_of_pos w hp)
  refine ⟨?_, a, b⟩
  show (1 - sgn m t (trn m t w)) * 2 ^ (m + t) + trn m t w % 2 ^ (m + t) = w
  rw [show sgn m t (trn m t w) = 1 - sgn m t w from c, show trn m t w % 2 ^ (m + t) = w % 2 ^ (m + t) from d, show 1 - (1 - sgn m t w) = sgn m t w by omega]
  exact word_eq h0 h1
end GM
namespace GZ
open PySem PySem.Spec PyProof.Rows L2
end GZ
/-! ### list(text) -/
namespace L2
open PySem PySem.Spec PyProof.Rows
theorem vals_at : ∀ {xs : List V} {us : List Value}, xs.length = us.length → (∀ (j : Nat) (x : V) (u : Value), xs[j]? = some x → us[j]? = some u → RelV x u) → Vals xs us
  | [], [], _, _ => .nil
  | [], _ :: _, h, _ => nomatch h
  | _ :: _, [], h, _ => nomatch h
  | x :: xs, u :: us, h, f => .cons (f 0 x u rfl rfl) (vals_at (Nat.succ.inj h) fun j a b => f (j + 1) a b)
theorem call_listTx {X : Cx} (calm : X.calm = true) : CallR X (.type "list") (fun xs H Q => ∃ z : Str, xs = [.str z] ∧ z.length ≤ sizeLine ∧ ∀ l, H l = none → Q (.ref l) (upd H l (.lst (z.cps.toList.map fun c => V.str ⟨#[c]⟩)))) := by
  intro pz u0 τ H xs us Q I r h
  obtain ⟨z, rfl, hz, q⟩ := h
  obtain ⟨u, rfl, t, rfl⟩ := vals1 r
  refine call_list_str (I.ok.hd calm) z t (fun h' tk acc c' kp e it => ?_) hz
  have ln : acc.size = z.cps.size := it.1
  have va : Vals (z.cps.toList.map fun c => V.str ⟨#[c]⟩) acc.toList := vals_at (by rw [List.length_map, Array.length_toList, Array.length_toList, ln]) fun j x v hx hv => by
    obtain ⟨c, u, hc, rfl⟩ := it.2 j v (by simpa using hv)
    rw [List.getElem?_map, Array.getElem?_toList, hc] at hx
    cases hx
    exact ⟨u, rfl⟩
  refine ⟨.ref u0.heap.objs.size, _, I.laid (t' := tk) kp (Nat.le_refl _) (show ObjOk X.prog X.w _ h' _ (.lst _) from ⟨?_, acc.toList, c', va, e⟩), rfl, q _ (I.hok.fresh (Nat.le_refl _))⟩
  rw [List.length_map, Array.length_toList]
  exact hz
end L2
/-! ### a built-in method in a comprehension's block -/
namespace L2
open PySem PySem.Spec PyProof.Rows
theorem pe_bmKX {X : Cx} {K : PySem.W.Frag} {o e : Expr} {es : List Expr} {to : TE} {t : TA} {name : Str} {apos cpos : Pos} {T id : String} {r : V → List V → Hp → VK → Prop}
    (pa : PlainAttrs T) (slot : Slot T name id) (hty : typeOf (.builtin id) = pure (.type "method_descriptor")) (hm : MtR X id r) (ho : PE X o to) (ha : PA X (e :: es) t)
    (h : X.K = K := by rfl) (hbase : attributeBase o name X.env (eval o X.env) = eval o X.env := by rfl)
    (hfew : ((backTo cpos (starEach (e :: es) X.env)).all (fun x => !x.1) && (backToKw cpos (keywordEach [] X.env)).all (fun x => x.1.isSome)
      && decide ((e :: es).length + ([] : List Keyword).length + (if ([] : List Keyword).isEmpty then 0 else 1) < 30)) = true := by rfl)
    (hline : (apos.endLine == cpos.line) = true := by rfl) (hs : starEach (e :: es) X.env = (false, eval e X.env) :: starEach es X.env := by rfl) (hplain : (backTo cpos (starEach es X.env)).any (·.1) = false := by rfl) :
    PE X (.Call (.Attribute o name apos) (e :: es) [] cpos) (tBM K T r to t) := by
  subst h
  exact pe_bm pa slot hty hm ho ha hbase hfew hline hs hplain
def rJoin (K : PySem.W.Frag) : V → List V → Hp → VK → Prop := fun x xs H Q => ∃ a p, ∃ ys : List Str, x = .str a ∧ xs = [.ref p] ∧ (SqL K H p (ys.map V.str) ∨ SqT K H p (ys.map V.str)) ∧
    (ys.map (·.length)).sum + ys.length * a.length ≤ 16777216 ∧ Q (.str (Txt.join a ys)) H
theorem mt_joinKX {X : Cx} {K : PySem.W.Frag} (h : X.K = K := by rfl) : MtR X "str.join" (rJoin K) := by
  subst h
  exact mt_join
end L2
/-! ### a display of a dict with tuples as keys -/
namespace L2
open PySem PySem.Spec PyProof.Rows
theorem d_dictSetT {X : Cx} {pins : List (Addr × Obj)} {σ : St} {H : Hp} {s : Shared} {E : Value → Shared → Prop} {A : Around} {D b : Addr} {kvs : List (List Key × V)} {k : List Key} {v : V} {r : Value} {Q : Unit → Shared → Prop}
    (hu : A.units < cLine) (I : Inv X pins σ H s) (hD : H D = some (.dT kvs)) (eb : H b = some (.tup (k.map kV))) (hz : kvs.length < sizeLine) (rv : RelV v r)
    (h : ∀ s', Inv X pins σ (upd H D (.dT (putK kvs k v))) s' → Q () s') : wpAny (model X.prog X.w) A (dictSet D (.ref b) r) Q E s := by
  obtain ⟨z, hd, xs, rel, dd⟩ := dt_of I.hok hD
  have hz2 : xs.length ≤ sizeLine := by rw [← Paired.length rel]; exact z
  have hl : (putK kvs k v).length ≤ sizeLine := by have := length_putK kvs k v; omega
  refine wpAny_dictSet_heap (hsz := hz2) hu (key_of I.hok eb) dd fun h' dd' hs => h _ ?_
  obtain ⟨q, es, ep, hq, h2, h3, h4, _, h5⟩ := dd'
  refine d_write I (by rw [hD]; exact True.intro) hs ⟨q, hq⟩ ⟨hl, hd, _, (rel.put k eb rv).keeps fun c ys ec => ?_, q, es, ep, hq, h2, h3, h4, h5⟩
  rw [upd_ne (ne_of ec hD (fun z => nomatch z))]
  exact ec
def mergeT (kvs more : List (List Key × V)) : List (List Key × V) := more.foldl (fun acc kv => putK acc kv.1 kv.2) kvs
def PsT (H : Hp) : List (V × V) → List (List Key × V) → Prop
  | [], [] => True
  | p :: ps, kv :: kvs => (∃ b, p.1 = .ref b ∧ H b = some (.tup (kv.1.map kV)) ∧ p.2 = kv.2) ∧ PsT H ps kvs
  | _, _ => False
theorem PsT.mono {H H' : Hp} (f : ∀ b xs, H b = some (.tup xs) → H' b = some (.tup xs)) : ∀ {ps : List (V × V)} {kvs : List (List Key × V)}, PsT H ps kvs → PsT H' ps kvs
  | [], [], _ => True.intro
  | _ :: _, _ :: _, ⟨⟨b, e1, e2, e3⟩, r⟩ => ⟨⟨b, e1, f _ _ e2, e3⟩, PsT.mono f r⟩
  | [], _ :: _, h => h.elim
  | _ :: _, [], h => h.elim
theorem upd_self {H : Hp} {D : Addr} {o : HO} (e : H D = some o) : upd H D o = H := by
  funext y
  by_cases c : y = D
  · rw [c, upd_same, e]
  · rw [upd_ne c]
theorem upd_two {H : Hp} {D : Addr} {o u : HO} : upd (upd H D o) D u = upd H D u := by
  funext y
  by_cases c : y = D
  · rw [c, upd_same, upd_same]
  · rw [upd_ne c, upd_ne c, upd_ne c]
theorem d_storeAllT {X : Cx} {pins : List (Addr × Obj)} {σ : St} {E : Value → Shared → Prop} {A : Around} {D : Addr} {Q : PUnit → Shared → Prop} (hu : A.units < cLine) :
    ∀ (vs : List (Value × Value)) (ps : List (V × V)) (more acc : List (List Key × V)) (H : Hp) (s : Shared), VV ps vs → PsT H ps more → H D = some (.dT acc) → acc.length + more.length ≤ 100 → Inv X pins σ H s →
    (∀ s', Inv X pins σ (upd H D (.dT (mergeT acc more))) s' → Q PUnit.unit s') →
    wpAny (model X.prog X.w) A (forIn vs PUnit.unit fun (x : Value × Value) (_ : PUnit) => (do dictSet D x.1 x.2; pure (ForInStep.yield PUnit.unit) : Sem (ForInStep PUnit))) Q E s
  | [], [], [], acc, H, s, _, _, hD, _, I, h => by
    rw [List.forIn_nil]
    have h := h s
    rw [show mergeT acc [] = acc from rfl, upd_self hD] at h
    exact wpAny_pure (h I)
  | (u, w) :: vs, (x, y) :: ps, (k, v) :: more, acc, H, s, r, pt, hD, hl, I, h => by
    cases r with
    | @cons _ _ _ _ r0 r1 =>
      obtain ⟨⟨b, e1, e2, e3⟩, pt⟩ := pt
      dsimp only at e1 e2 e3
      subst e1 e3
      obtain rfl : u = Value.ref b := r0.1
      rw [List.length_cons] at hl
      rw [List.forIn_cons]
      refine wpAny_bind (wpAny_bind (d_dictSetT hu I hD e2 (Nat.lt_of_le_of_lt (show acc.length ≤ 100 by omega) (by decide)) r0.2 fun s1 I1 => wpAny_pure ?_))
      have lp := length_putK acc k y
      refine d_storeAllT hu vs ps more (putK acc k y) _ s1 r1 (pt.mono fun c xs ec => ?_) upd_same (by omega) I1 fun s' I' => h s' ?_
      · rw [upd_ne (fun z => by rw [z, hD] at ec; cases ec)]
        exact ec
      · rw [upd_two] at I'
        exact I'
  | [], _ :: _, _, _, _, _, r, _, _, _, _, _ => nomatch r
  | _ :: _, [], _, _, _, _, r, _, _, _, _, _ => nomatch r
  | [], [], _ :: _, _, _, _, _, pt, _, _, _, _ => pt.elim
  | _ :: _, _ :: _, [], _, _, _, _, pt, _, _, _, _ => pt.elim
/-- {(a, ..): v, ..}; the new dict stands empty while the pairs are made -/
def tDispT (trs : List (TE × TE)) : TE := fun σ H Q => ∀ p, H p = none → tPairs trs σ (upd H p (.dT [])) fun ps H2 => H2 p = some (.dT []) ∧ ∃ kvs : List (List Key × V), PsT H2 ps kvs ∧ kvs.length ≤ 15 ∧ Q (.ref p) (upd H2 p (.dT (mergeT [] kvs)))
theorem pe_dispT {X : Cx} {pos : Pos} {keys : List (Option Expr)} {values : List Expr} {trs : List (TE × TE)} (hu : X.A.units + 1 < cLine) (h : PPs X pos keys values trs) (hall : keys.all (·.isSome) = true) (hl : keys.length = values.length) (h0 : keys ≠ [])
    (h15 : keys.length ≤ 15) : PE X (.Dict keys values pos) (tDispT trs) := by
  refine ⟨fun pins s σ H Q I q => ?_⟩
  have hf := I.hok.fresh (Nat.le_refl s.heap.objs.size)
  have I1 := I.laid (a := s.heap.objs.size) (o := .dT []) (h' := s.heap.push { cls := .type "dict", data := .dict #[] }) (t' := s.toks) (fun _ _ q => Heap.get?_push_of_some _ q) (Nat.le_refl _) (dt_empty s.heap I.big)
  have hn := pairTrees_length keys values X.env pos hall hl
  have hne : pairTrees keys values X.env pos ≠ [] := fun he => by
    rw [he] at hn
    exact h0 (List.length_eq_zero_iff.mp hn.symm)
  rw [arm_eval_Dict, zip_pairTrees keys values X.env pos hall hl, dictDisplay_pairs _ hne (by omega)]
  refine wpAny_bind (wpAny_standAt (wpAny_bind ?_))
  unfold subDict
  refine wpAny_bind (wpAny_alloc ?_)
  refine wpAny_bind (wpAny_holding ?_)
  rw [if_pos (by omega)]
  refine wpAny_bind (wpAny_mono (h.run pins _ σ _ _ I1 (q _ hf)) (fun vs s1 h1 => ?_) fun _ _ e => e)
  obtain ⟨ps, H2, I2, rel, e, kvs, pt, lk, q2⟩ := h1
  refine wpAny_holding ?_
  exact wpAny_bind (d_storeAllT (by omega) vs ps kvs [] H2 s1 rel pt e (by show 0 + kvs.length ≤ 100; omega) I2 fun s' I' => wpAny_pure (wpAny_pure (wpAny_pure ⟨.ref s.heap.objs.size, _, I', rfl, q2⟩)))
end L2
/-! ### sorted of pairs of an unlike text and one thing more -/
namespace PySem.SortNm
open PySem SrtO PySem.W PySem.Calls PyProof.Rows Srt
def nmB (x y : Str) : Bool := decide (x.cps.toList < y.cps.toList)
def IsNm (h : Heap) (v : Value) (n : Str) : Prop := ∃ (a : Addr) (o : Obj) (t : Tok) (r : Value) (m : Nat), v = .ref a ∧ h.get? a = some o ∧ o.cls = .type "tuple" ∧ o.data = .seq #[.str n t, r] m
theorem IsNm.to {h h' : Heap} {v : Value} {n : Str} (z : IsNm h v n) (k : ∀ b o, h.get? b = some o → o.cls = .type "tuple" → h'.get? b = some o) : IsNm h' v n := by
  obtain ⟨a, o, t, r, m, e, ho, hc, hd⟩ := z
  exact ⟨a, o, t, r, m, e, k a o ho hc, hc, hd⟩
theorem nmB_swo {α : Type} (k : α → Str) : Swo fun v u => nmB (k v) (k u) := by
  refine ⟨fun x y h => ?_, fun x y z h1 h2 => ?_⟩
  · exact decide_eq_false fun g => List.lt_asymm (of_decide_eq_true h) g
  · have a := of_decide_eq_false h1
    have b := of_decide_eq_false h2
    exact decide_eq_false fun g => by
      rw [List.not_lt] at a b
      exact List.not_lt.mpr (List.le_trans a b) g
section
variable {prog : Program} {w : World} {A : Around} {E : Value → Shared → Prop} {s : Shared}
theorem nm_cmp {vs : List Value} {k : Value → Str} (hp : ∀ v ∈ vs, IsNm s.heap v (k v)) (inj : ∀ v ∈ vs, ∀ u ∈ vs, k v = k u → v = u) : Cmp prog w A s (tuples' true) (fun p => p.1 ∈ vs) (lt2 fun v u => nmB (k v) (k u)) := by
  intro p q hm hm'
  have same : k p.1 = k q.1 → p.1 = q.1 := inj _ hm _ hm'
  have one := hp _ hm
  have two := hp _ hm'
  show wpAny (model prog w) A (keyLt' (tuples' true) p.1 q.1) (fun r s' => s' = s ∧ r = nmB (k p.1) (k q.1)) (fun _ _ => False) s
  generalize k p.1 = x at same one ⊢
  generalize k q.1 = y at same two ⊢
  generalize p.1 = v at same one ⊢
  generalize q.1 = u at same two ⊢
  obtain ⟨a, o, t, r, n, rfl, ho, hc, hd⟩ := one
  obtain ⟨a', o', t', r', n', rfl, ho', hc', hd'⟩ := two
  refine kat_lt ho hd ho' hd' ?_
  show KatLex prog w A true (decide (2 < 2)) _ [(.str x t, .str y t'), (r, r')] 0 s
  refine kat_cons (SeqAt.EqAt.str_str x t y t' prog w _ _ ?_)
  refine kat_go (fun e1 => ?_) (fun e1 => ?_)
  · have ex : x = y := by simpa using e1
    have ea : Value.ref a = Value.ref a' := same ex
    cases ea
    rw [ho] at ho'
    cases ho'
    rw [hd] at hd'
    have er : r = r' := by
      injection hd' with h1 _
      injection h1 with h1
      injection h1 with _ h1
      injection h1 with h1 _
    subst er
    refine kat_yes (kat_cons (SeqAt.EqAt.same r prog w _ _ ?_))
    refine kat_go (fun _ => kat_yes (kat_nil ⟨rfl, ?_⟩)) (fun e2 => by cases e2)
    rw [ex]
    exact (decide_eq_false (List.lt_irrefl _)).symm
  · exact kat_no (PyProof.Rows.oneLt_str ⟨rfl, rfl⟩)
theorem nm_firsts {h : Heap} {k : Value → Str} : ∀ {vs : List Value}, (∀ v ∈ vs, IsNm h v (k v)) → ∃ fs : List Value, KatTups h vs fs ∧ fs.length = vs.length ∧ ∀ f ∈ fs, ∃ x t, f = Value.str x t
  | [], _ => ⟨[], KatTups.nil, rfl, fun _ hm => nomatch hm⟩
  | v :: vs, hp => by
    obtain ⟨fs, h1, h2, h3⟩ := nm_firsts (vs := vs) fun u hu => hp u (List.mem_cons_of_mem _ hu)
    obtain ⟨a, o, t, r, n, e, ho, hc, hd⟩ := hp v (List.mem_cons_self ..)
    rw [e]
    refine ⟨.str (k v) t :: fs, KatTups.cons ho hc hd rfl h1, congrArg (· + 1) h2, fun f hm => ?_⟩
    rcases List.mem_cons.mp hm with z | z
    · exact ⟨_, _, z⟩
    · exact h3 f z
theorem nm_sortable {a : Addr} {vs : List Value} {k : Value → Str} (h0 : 0 < vs.length) (hp : ∀ v ∈ vs, IsNm s.heap v (k v)) (inj : ∀ v ∈ vs, ∀ u ∈ vs, k v = k u → v = u) (ha : ∀ o, s.heap.get? a = some o → o.cls ≠ .type "tuple") : SortableO prog w A s a vs fun v u => nmB (k v) (k u) := by
  intro h' keep
  have there : ∀ v ∈ vs, IsNm h' v (k v) := fun v hm => (hp v hm).to fun b o e c => keep b o (fun z => by rw [z] at e; exact ha o e c) e
  obtain ⟨fs, h1, h2, h3⟩ := nm_firsts there
  refine ⟨tuples' true, fun Q E hq => ?_, nm_cmp there inj⟩
  refine kat_kind (T := .type "str") h1 (by omega) (fun f hm => ?_) (by rfl) ?_
  · obtain ⟨x, t, rfl⟩ := h3 f hm
    exact Looks.now
  · have e : (Value.type "str" != Value.type "tuple") = true := by decide +kernel
    rw [e]
    exact hq
theorem nm_sorted {l : Addr} {vs : List Value} {k : Value → Str} {Q : Value → Shared → Prop} (hl : s.heap.IsList l vs.toArray) (hz : vs.length ≤ sizeLine) (hp : ∀ v ∈ vs, IsNm s.heap v (k v)) (inj : ∀ v ∈ vs, ∀ u ∈ vs, k v = k u → v = u)
    (h : ∀ (h' : Heap) (d : Addr) (out : List Value), Srtd (fun v u => nmB (k v) (k u)) out → Stb (fun v u => nmB (k v) (k u)) out vs → (∀ b o, s.heap.get? b = some o → h'.get? b = some o) → s.heap.objs.size ≤ d → (∃ n, h'.get? d = some (seqObj "list" out.toArray n)) → Q (.ref d) { s with heap := h' }) :
    wpAny (model prog w) A (call (.builtin "sorted") [.ref l]) Q E s := by
  refine sorted_ord (nmB_swo k) hl hz (fun h2 h₁ a ha kk => ?_) fun out hs hb => h _ _ out hs hb (fun b o e => sortedAll_old e) (Nat.le_succ _) (sortedAll_at s.heap vs out.toArray)
  refine nm_sortable (s := { s with heap := h₁ }) (by omega) (fun v hm => (hp v hm).to fun b o e _ => (kk b o e).2) inj fun o e c => ?_
  have e' : some o = some (seqObj "list" vs.toArray 0) := e.symm.trans ha
  cases e'
  exact absurd (Value.type.inj c) (by decide)
end
end PySem.SortNm
namespace L2
open PySem PySem.Spec PyProof.Rows
def rSortedNm (K : PySem.W.Frag) : List V → Hp → VK → Prop := fun vs H Q => ∃ (a : Addr) (xs : List V) (k : V → Str), vs = [V.ref a] ∧ SqL K H a xs ∧ (∀ x ∈ xs, ∃ t y, x = V.ref t ∧ H t = some (.tup [.str (k x), y])) ∧ (∀ x ∈ xs, ∀ y ∈ xs, k x = k y → x = y) ∧
  ∀ ys p, ys.Perm xs → ys.Pairwise (fun x y => (k x).cps.toList ≤ (k y).cps.toList) → H p = none → Q (.ref p) (upd H p (.lst ys))
theorem cr_sortedNm {X : Cx} : CallR X (.builtin "sorted") (rSortedNm X.K) := by
  intro pz u0 τ H vs us Q I r h
  obtain ⟨a, xs, k, rfl, hs, hx, inj, q⟩ := h
  obtain ⟨its, rv, hl, hz⟩ := I.list hs
  obtain ⟨u, rfl, ru⟩ := vals1 r
  obtain rfl : u = Value.ref a := ru
  obtain ⟨e1, e2⟩ := refs_back rv fun x m => by
    obtain ⟨t, _, e, _⟩ := hx x m
    exact ⟨t, e⟩
  have inX : ∀ v ∈ its, backV v ∈ xs := fun v hv => by rw [e1]; exact List.mem_map.mpr ⟨_, hv, rfl⟩
  refine PySem.SortNm.nm_sorted (k := fun u => k (backV u)) hl.isList (by rw [← rv.length]; exact hz) (fun v hv => ?_) (fun v hv u hu e => ?_) fun h' d out h1 h2 kp hd hn => ?_
  · obtain ⟨t, rfl⟩ := e2 v hv
    obtain ⟨t', y, e, ht⟩ := hx _ (inX _ hv)
    cases e
    obtain ⟨_, its2, r2, o, ho, hc, n, hd⟩ := I.hok _ _ ht
    obtain ⟨u1, u2, rfl, ri, rj⟩ := vals2 r2
    obtain ⟨t1, rfl⟩ := ri
    exact ⟨t, o, t1, u2, n, rfl, ho, hc, hd⟩
  · have := inj _ (inX v hv) _ (inX u hu) e
    obtain ⟨t, rfl⟩ := e2 v hv
    obtain ⟨t', rfl⟩ := e2 u hu
    cases this
    rfl
  · have h3 : ∀ u ∈ out, ∃ a, u = Value.ref a := fun u hu => e2 u (h2.perm.mem_iff.mp hu)
    obtain ⟨n, hn⟩ := hn
    have hp : (out.map backV).Perm xs := by
      rw [e1]
      exact h2.perm.map _
    refine ⟨.ref d, upd H d (.lst (out.map backV)), I.laid (t' := u0.toks) kp hd ⟨by rw [hp.length_eq]; exact hz, out, n, vals_back h3, hn⟩, rfl, q _ d hp ?_ (I.hok.fresh hd)⟩
    refine List.pairwise_map.mpr (h1.imp fun {x y} e => ?_)
    exact List.not_lt.mp (of_decide_eq_false e)
end L2
namespace GZ
open PySem PySem.Spec PyProof.Rows L2
def pkz {α : Type} : α → List α → Nat → α
  | a, _, 0 => a
  | a, _, 1 => a
  | a, [], _ => a
  | _, b :: xs, n + 2 => pkz b xs (n + 1)
theorem val0 (t : Tok) : Vals [V.int 0] [Value.int 0 t] := .cons ⟨_, rfl⟩ .nil
/-! ### keyword-only parameters -/
theorem kbn_of {K : PySem.W.Frag} {x qual : Str} {st : Stmt} {D : Addr} {an : Option Addr} {doc pm cdv ct : Value} {ps ks : List Str} {n : Nat} {ml : List (Str × Value)} {g : List Value → List Value → List Value} {gV : List V → List V → List V} (hml : ∀ q ∈ ml, PySem.W.nsIn K D q.1 = some (some q.2))
    (h : ∀ us ws : List Value, us.length = n → ws.length = ks.length → KwChain D ml (bindArgs (PySem.W.fnOf x qual (defArgs st) (defBody st) (defScope st) .none (.ref D) doc pm an cdv ct) ⟨us, ks.zip ws⟩) (ps.zip (g us ws)))
    (rel : ∀ {vs : List V} {us : List Value} {zs : List V} {ws : List Value}, vs.length = n → zs.length = ks.length → Vals vs us → Vals zs ws → Vals (gV vs zs) (g us ws)) :
    ∀ (s : Shared) (us ws : List Value), K.In s.heap → us.length = n → ws.length = ks.length → BindsTo s (PySem.W.fnOf x qual (defArgs st) (defBody st) (defScope st) .none (.ref D) doc pm an cdv ct) ⟨us, ks.zip ws⟩ (ps.zip (g us ws)) :=
  fun s us ws X l1 l2 => BindsTo.of_looks fun M => KwChain.looks X hml (h us ws l1 l2)
theorem bnd_of {K : PySem.W.Frag} {x qual : Str} {st : Stmt} {D : Addr} {an : Option Addr} {doc pm cdv ct : Value} {ps : List Str} {ml : List (Str × Value)} {ds : List Value} (hml : ∀ q ∈ ml, PySem.W.nsIn K D q.1 = some (some q.2))
    (h : ∀ us : List Value, us.length + ds.length = ps.length → KwChain D ml (bindArgs (PySem.W.fnOf x qual (defArgs st) (defBody st) (defScope st) .none (.ref D) doc pm an cdv ct) ⟨us, []⟩) (ps.zip (us ++ ds))) :
    Binds K (PySem.W.fnOf x qual (defArgs st) (defBody st) (defScope st) .none (.ref D) doc pm an cdv ct) ps ds := fun s us X hl => by
  rw [List.length_append] at hl
  exact BindsTo.of_looks fun M => KwChain.looks X hml (h us hl)
/-! ### a def whose defaults aren't asked for -/
structure FunA (K : PySem.W.Frag) (x qual : Str) (st : Stmt) (f : Addr) (fd : FuncData) : Prop where
  ex : ∃ (oc : Value) (od : Option Addr) (dV kV doc pm : Value) (an : Option Addr) (cdv ct : Value) (osl : Array (Option Value)),
    fd = PySem.W.fnOf x qual (defArgs st) (defBody st) (defScope st) dV kV doc pm an cdv ct ∧ K.lookup f = some ⟨oc, od, .func fd, osl⟩ ∧ PySem.W.codeIn K cdv qual = true
  kp : PySem.W.keepIn K (.ref f) = true
theorem FunA.ok {P : Program} {w : World} {K : PySem.W.Frag} {mg : Str → Option Value} {base : Heap} {x qual : Str} {st : Stmt} {f : Addr} {fd : FuncData} {N ps : List Str} {k : Nat} {sp : Sp} (F : FunA K x qual st f fd) (S : FnScope N ps (defScope st)) (len : ∀ vs H Q E, sp vs H Q E → vs.length = ps.length)
    (hbody : ∀ (cdv : Value) (A : Around) (outer : List Env) (s : Shared) (H : Hp) (vs : List V) (Q : VK) (E : XK), Room k (A.deeper (envOfC qual (defScope st) s.heap.objs.size f cdv)) → sp vs H Q E →
      ∃ t, PSs (cxOf CX0 P w K mg base N qual (defScope st) f cdv A outer s H E).nox (defBody st) t ∧ t { nx := fun _ H' => Q .non H', rt := Q } (start N vs) H) : FnOk P w K mg base CX0 (k + 1) f fd ps sp := by
  obtain ⟨oc, od, dV, kV, doc, pm, an, cdv, ct, osl, rfl, lk, hcd⟩ := F.ex
  refine fn_of lk hcd S len fun A outer s H vs Q E hr hsp => ?_
  obtain ⟨t, h, q⟩ := hbody cdv A outer s H vs Q E hr hsp
  exact ⟨t, h.nox, q⟩
theorem bindsA {K : PySem.W.Frag} {x qual : Str} {st : Stmt} {f T : Addr} {oc oT vT : Value} {od an dT : Option Addr} {osl sT : Array (Option Value)} {kV doc pm cdv ct : Value} {nT : Nat} {ps : List Str} (l : K.lookup f = some ⟨oc, od, .func (PySem.W.fnOf x qual (defArgs st) (defBody st) (defScope st) (.ref T) kV doc pm an cdv ct), osl⟩)
    (lT : K.lookup T = some ⟨oT, dT, .seq #[vT] nT, sT⟩)
    (h : ∀ (kV doc pm : Value) (an : Option Addr) (cdv ct : Value) (us : List Value), us.length = ps.length → ∃ k, bindArgs (PySem.W.fnOf x qual (defArgs st) (defBody st) (defScope st) (.ref T) kV doc pm an cdv ct) ⟨us, []⟩ = seqItems? (.ref T) >>= k ∧ k (some #[vT]) = pure (ps.zip us)) : Binds K (PySem.W.fnOf x qual (defArgs st) (defBody st) (defScope st) (.ref T) kV doc pm an cdv ct) ps [] := by
  intro s us X hl
  rw [List.append_nil] at hl ⊢
  obtain ⟨k, e1, e2⟩ := h kV doc pm an cdv ct us hl
  refine BindsTo.of_looks fun M => ?_
  rw [e1]
  exact looks_items X lT rfl (.of_pure e2)
theorem bindsAD {K : PySem.W.Frag} {x qual : Str} {st : Stmt} {f T : Addr} {oc oT vT : Value} {od an dT : Option Addr} {osl sT : Array (Option Value)} {kV doc pm cdv ct : Value} {nT : Nat} {ps : List Str} (l : K.lookup f = some ⟨oc, od, .func (PySem.W.fnOf x qual (defArgs st) (defBody st) (defScope st) (.ref T) kV doc pm an cdv ct), osl⟩)
    (lT : K.lookup T = some ⟨oT, dT, .seq #[vT] nT, sT⟩)
    (h : ∀ (kV doc pm : Value) (an : Option Addr) (cdv ct : Value) (us : List Value), us.length + 1 = ps.length → ∃ k, bindArgs (PySem.W.fnOf x qual (defArgs st) (defBody st) (defScope st) (.ref T) kV doc pm an cdv ct) ⟨us, []⟩ = seqItems? (.ref T) >>= k ∧ k (some #[vT]) = pure (ps.zip (us ++ [vT]))) : Binds K (PySem.W.fnOf x qual (defArgs st) (defBody st) (defScope st) (.ref T) kV doc pm an cdv ct) ps [vT] := by
  intro s us X hl
  rw [List.length_append] at hl
  obtain ⟨k, e1, e2⟩ := h kV doc pm an cdv ct us hl
  refine BindsTo.of_looks fun M => ?_
  rw [e1]
  exact looks_items X lT rfl (.of_pure e2)
theorem kbindsA {x1 : Str} {K : PySem.W.Frag} {x qual : Str} {st : Stmt} {f T : Addr} {oc oT vT : Value} {od an dT : Option Addr} {osl sT : Array (Option Value)} {kV doc pm cdv ct : Value} {nT : Nat} {ps : List Str} (l : K.lookup f = some ⟨oc, od, .func (PySem.W.fnOf x qual (defArgs st) (defBody st) (defScope st) (.ref T) kV doc pm an cdv ct), osl⟩)
    (lT : K.lookup T = some ⟨oT, dT, .seq #[vT] nT, sT⟩)
    (h : ∀ (kV doc pm : Value) (an : Option Addr) (cdv ct u w : Value), ∃ k, bindArgs (PySem.W.fnOf x qual (defArgs st) (defBody st) (defScope st) (.ref T) kV doc pm an cdv ct) ⟨[u], [(x1, w)]⟩ = seqItems? (.ref T) >>= k ∧ k (some #[vT]) = pure (ps.zip [u, w])) : KBn K (PySem.W.fnOf x qual (defArgs st) (defBody st) (defScope st) (.ref T) kV doc pm an cdv ct) ps 1 [x1] (fun us ws => us ++ ws) (fun us ws => us ++ ws) := by
  refine ⟨fun s us ws X l1 l2 => ?_, fun r1 r2 => r1.append r2⟩
  match us, ws, l1, l2 with
  | [u], [w], _, _ =>
    obtain ⟨k, e1, e2⟩ := h kV doc pm an cdv ct u w
    refine BindsTo.of_looks fun M => ?_
    show PySem.W.Looks M s.heap (bindArgs (PySem.W.fnOf x qual (defArgs st) (defBody st) (defScope st) (.ref T) kV doc pm an cdv ct) ⟨[u], [(x1, w)]⟩) (ps.zip [u, w])
    rw [e1]
    exact looks_items X lT rfl (.of_pure e2)
theorem funA_mk {K : PySem.W.Frag} {x qual : Str} {st : Stmt} {f : Addr} {oc : Value} {od an : Option Addr} {osl : Array (Option Value)} {dV kV doc pm cdv ct : Value} (l : K.lookup f = some ⟨oc, od, .func (PySem.W.fnOf x qual (defArgs st) (defBody st) (defScope st) dV kV doc pm an cdv ct), osl⟩)
    (c : PySem.W.codeIn K cdv qual = true) (k : PySem.W.keepIn K (.ref f) = true) : FunA K x qual st f (PySem.W.fnOf x qual (defArgs st) (defBody st) (defScope st) dV kV doc pm an cdv ct) := ⟨⟨oc, od, dV, kV, doc, pm, an, cdv, ct, osl, rfl, l, c⟩, k⟩
section
variable {P : Program} {w : World} {K : PySem.W.Frag} {mg : Str → Option Value} {base : Heap}
theorem cutG {Cd A : Int → Int → Hp → Prop} {B : Prop} (h1 : ∀ n p H, Cd n p H → A n p H) (h2 : (∀ n p H, Cd n p H → A n p H) → B) : B := h2 h1
theorem cutA {Cd A : Addr → Hp → Prop} {B : Prop} (h1 : ∀ a H, Cd a H → A a H) (h2 : (∀ a H, Cd a H → A a H) → B) : B := h2 h1
theorem cutH {H : Hp} {A : Hp → Prop} {B : Prop} (h1 : ∀ H', Same H H' → A H') (h2 : (∀ H', Same H H' → A H') → B) : B := h2 h1
theorem cutP {A B : Prop} (h1 : A) (h2 : A → B) : B := h2 h1
theorem gB {i : Nat} {v u : Bool} {σ : L2.St} {H : Hp} {D : L2.St → Hp → Prop} (e : v = u) (h : gName i (V.bl u) σ H D) : gName i (V.bl v) σ H D := e ▸ h
theorem gI {i : Nat} {v u : Int} {σ : L2.St} {H : Hp} {D : L2.St → Hp → Prop} (e : v = u) (h : gName i (V.int u) σ H D) : gName i (V.int v) σ H D := e ▸ h
theorem dvi (a b : Int) : decide (V.int a = V.int b) = decide (a = b) := by
  by_cases c : a = b
  · rw [decide_eq_true c, decide_eq_true (congrArg V.int c)]
  · rw [decide_eq_false c, decide_eq_false (fun z => c (V.int.inj z))]
theorem dvs (a b : Str) : decide (V.str a = V.str b) = decide (a = b) := by
  by_cases c : a = b
  · rw [decide_eq_true c, decide_eq_true (congrArg V.str c)]
  · rw [decide_eq_false c, decide_eq_false (fun z => c (V.str.inj z))]
theorem bx1 {c : Int} {H : Hp} {b : Addr} (h : BoxAt (c + 2 ^ (1 - 1)) H b) : BoxAt (c + 1) H b := h
theorem Keep.none {b p : Addr} {H H' : Hp} (k : Keep b H H') (n : p ≠ b) (h : H' p = none) : H p = none := by
  cases q : H p with
  | none => rfl
  | some o =>
    rw [k p o q n] at h
    cases h
theorem dp_ints {H : Hp} : ∀ ds : List Int, DpAll K H (ds.map V.int) (ds.map PyData.int)
  | [] => .nil
  | d :: ds => .cons (.int d) (dp_ints ds)
theorem lv_ints {n : Nat} (ds : List Int) (h : ds.length ≤ 1000) : Lv (n + 1) (.list (ds.map PyData.int)) := by
  refine ⟨by rw [List.length_map]; omega, fun d hd => ?_⟩
  obtain ⟨x, _, rfl⟩ := List.mem_map.mp hd
  cases n <;> trivial
theorem eqv_ints (ds : List Int) : PyData.eqv (.list (ds.map PyData.int)) (.list (ds.map PyData.int)) = true := PySem.SeqAt.eqv_refl _ (PySem.SeqAt.canLay_of_shaped (PySem.W.shaped_ints ds))
/-! ### nets -/
def KeepS (S : List Addr) (H H' : Hp) : Prop := (∀ y o, H y = some o → y ∉ S → H' y = some o) ∧ ∀ y, H y ≠ none → H' y ≠ none
theorem KeepS.refl (S : List Addr) (H : Hp) : KeepS S H H := ⟨fun _ _ e _ => e, fun _ e => e⟩
theorem KeepS.trans {S : List Addr} {H H1 H2 : Hp} (a : KeepS S H H1) (b : KeepS S H1 H2) : KeepS S H H2 := ⟨fun y o e n => b.1 y o (a.1 y o e n) n, fun y e => b.2 y (a.2 y e)⟩
theorem some_ne {H : Hp} {y : Addr} {o : HO} (e : H y = some o) : H y ≠ none := fun z => by rw [z] at e; cases e
theorem KeepS.ofSame {S : List Addr} {H H1 : Hp} (s : Same H H1) : KeepS S H H1 := ⟨fun y o e _ => s y o e, fun y e => by
  cases q : H y with
  | none => exact absurd q e
  | some o => exact some_ne (s y o q)⟩
theorem KeepS.mono {S T : List Addr} {H H1 : Hp} (h : ∀ y ∈ S, y ∈ T) (a : KeepS S H H1) : KeepS T H H1 := ⟨fun y o e n => a.1 y o e (fun m => n (h y m)), a.2⟩
theorem KeepS.ofKeep {b : Addr} {S : List Addr} {H H1 : Hp} (k : Keep b H H1) (m : b ∈ S) (hb : H1 b ≠ none) : KeepS S H H1 := ⟨fun y o e n => k y o e (fun z => n (by rw [z]; exact m)), fun y e => by
  by_cases c : y = b
  · rw [c]
    exact hb
  · cases q : H y with
    | none => exact absurd q e
    | some o => exact some_ne (k y o q c)⟩
theorem KeepS.upd {S : List Addr} {H : Hp} {a : Addr} {o : HO} (m : a ∈ S) : KeepS S H (upd H a o) := ⟨fun y u e n => by rw [upd_ne (fun z => n (by rw [z]; exact m))]; exact e, fun y e => by
  by_cases c : y = a
  · rw [c, upd_same]
    exact fun z => by cases z
  · rw [upd_ne c]
    exact e⟩
theorem KeepS.new {S : List Addr} {H : Hp} {a : Addr} {o : HO} (n : H a = none) : KeepS S H (L2.upd H a o) := .ofSame (same_upd n)
theorem KeepS.keep {b : Addr} {H H1 : Hp} (k : KeepS [b] H H1) : Keep b H H1 := fun y o e n => k.1 y o e (by simp only [List.mem_singleton]; exact n)
theorem KeepS.same {H H1 : Hp} (k : KeepS [] H H1) : Same H H1 := fun y o e => k.1 y o e (fun z => nomatch z)
theorem KeepS.seq {K : PySem.W.Frag} {S : List Addr} {a : Addr} {H H' : Hp} {xs : List V} (e : KeepS S H H') (n : a ∉ S) (h : SqL K H a xs) : SqL K H' a xs := by
  rcases h with (h | ⟨o, h⟩) | h
  · exact .inl (.inl (e.1 _ _ h n))
  · exact .inl (.inr ⟨o, e.1 _ _ h n⟩)
  · exact .inr h
theorem KeepS.seqT {K : PySem.W.Frag} {S : List Addr} {a : Addr} {H H' : Hp} {xs : List V} (e : KeepS S H H') (n : a ∉ S) (h : SqT K H a xs) : SqT K H' a xs := by
  rcases h with (h | ⟨o, h⟩) | h
  · exact .inl (.inl (e.1 _ _ h n))
  · exact .inl (.inr ⟨o, e.1 _ _ h n⟩)
  · exact .inr h
theorem BoxAt.keepS {c : Int} {S : List Addr} {H H' : Hp} {b : Addr} (h : BoxAt c H b) (k : KeepS S H H') (n : b ∉ S) : BoxAt c H' b := by
  obtain ⟨x, y, z, e, r⟩ := h
  exact ⟨x, y, z, k.1 _ _ e n, r⟩
inductive Gt where
  | w (k : Str) (ws : List Nat)
  | fi (b : Nat)
def nts (ws : List Nat) : List V := ws.map fun (a : Nat) => V.int (a : Int)
theorem nts_at {ws : List Nat} {i : Nat} {x : V} (h : (nts ws)[i]? = some x) : ∃ v, ws[i]? = some v ∧ x = .int (v : Int) := by
  unfold nts at h
  rw [List.getElem?_map] at h
  cases q : ws[i]? with
  | none => rw [q] at h; cases h
  | some v => rw [q] at h; exact ⟨v, rfl, (Option.some.inj h).symm⟩
theorem nts_len (ws : List Nat) : (nts ws).length = ws.length := by
  unfold nts
  rw [List.length_map]
def Gt.row : Gt → List V
  | .w k ws => .str k :: nts ws
  | .fi b => [.str "fixed", .int (b : Int)]
def Gt.ok (n : Nat) : Gt → Prop
  | .w k ws => (((k = "both" ∨ k = "either" ∨ k = "unlike") ∧ ws.length = 2) ∨ (k = "other" ∧ ws.length = 1)) ∧ ∀ a ∈ ws, a < n
  | .fi b => b ≤ 1
def mx (l : List Int) : Int := l.foldl (fun m x => if x > m then x else m) 0
theorem mx_fold : ∀ (l : List Int) (a : Int), a ≤ l.foldl (fun m x => if x > m then x else m) a ∧ (∀ y ∈ l, y ≤ l.foldl (fun m x => if x > m then x else m) a) ∧ (l.foldl (fun m x => if x > m then x else m) a = a ∨ l.foldl (fun m x => if x > m then x else m) a ∈ l)
  | [], a => ⟨Int.le_refl _, (fun _ z => nomatch z), .inl rfl⟩
  | x :: l, a => by
    obtain ⟨h1, h2, h3⟩ := mx_fold l (if x > a then x else a)
    have e : a ≤ (if x > a then x else a) ∧ x ≤ (if x > a then x else a) ∧ ((if x > a then x else a) = a ∨ (if x > a then x else a) = x) := by split <;> omega
    rw [List.foldl_cons]
    refine ⟨by omega, fun y hy => ?_, ?_⟩
    · rcases List.mem_cons.mp hy with z | z
      · rw [z]
        omega
      · exact h2 y z
    · rcases h3 with z | z
      · rcases e.2.2 with u | u
        · exact .inl (z.trans u)
        · exact .inr (List.mem_cons.mpr (.inl (z.trans u)))
      · exact .inr (List.mem_cons.mpr (.inr z))
theorem mx_is {l : List Int} {m : Int} (h : m ∈ l) (hm : ∀ y ∈ l, y ≤ m) (h0 : ∀ y ∈ l, 0 ≤ y) : mx l = m := by
  obtain ⟨h1, h2, h3⟩ := mx_fold l 0
  have a := h2 m h
  have b := h0 m h
  unfold mx
  rcases h3 with z | z
  · omega
  · have := hm _ z
    omega
theorem mx_nn (l : List Int) : 0 ≤ mx l := (mx_fold l 0).1
def dep (ds : List Int) : Gt → Int
  | .w _ ws => 1 + mx (ws.map fun a => ds.getD a 0)
  | .fi _ => 0
theorem dep_nn (ds : List Int) (g : Gt) : 0 ≤ dep ds g := by
  cases g with
  | w k ws =>
    have := mx_nn (ws.map fun a => ds.getD a 0)
    show 0 ≤ 1 + mx (ws.map fun a => ds.getD a 0)
    omega
  | fi b => exact Int.le_refl _
def dps (m : Nat) (gs : List Gt) : List Int := gs.foldl (fun ds g => ds ++ [dep ds g]) (List.replicate m 0)
theorem dps_snoc (m : Nat) (gs : List Gt) (g : Gt) : dps m (gs ++ [g]) = dps m gs ++ [dep (dps m gs) g] := by
  unfold dps
  rw [List.foldl_append]
  rfl
theorem dps_fold : ∀ (gs : List Gt) (ds : List Int), (∀ d ∈ ds, 0 ≤ d) → (gs.foldl (fun ds g => ds ++ [dep ds g]) ds).length = ds.length + gs.length ∧ ∀ d ∈ gs.foldl (fun ds g => ds ++ [dep ds g]) ds, 0 ≤ d
  | [], ds, h => ⟨rfl, h⟩
  | g :: gs, ds, h => by
    have a := dps_fold gs (ds ++ [dep ds g]) (fun d hd => by
      rcases List.mem_append.mp hd with z | z
      · exact h d z
      · rw [List.mem_singleton.mp z]
        exact dep_nn ds g)
    rw [List.foldl_cons]
    refine ⟨?_, a.2⟩
    rw [a.1, List.length_append, List.length_cons, List.length_cons, List.length_nil]
    omega
theorem dps_len (m : Nat) (gs : List Gt) : (dps m gs).length = m + gs.length := by
  have a := (dps_fold gs (List.replicate m 0) (fun d hd => by rw [List.eq_of_mem_replicate hd]; exact Int.le_refl _)).1
  rw [List.length_replicate] at a
  exact a
theorem dps_nn (m : Nat) (gs : List Gt) : ∀ d ∈ dps m gs, 0 ≤ d := (dps_fold gs (List.replicate m 0) (fun d hd => by rw [List.eq_of_mem_replicate hd]; exact Int.le_refl _)).2
structure NetP where
  x : Addr
  lm : Addr
  ld : Addr
  dn : Addr
def GsAt (Z : List Addr) (H : Hp) (ps : List Addr) (gs : List Gt) : Prop := ps.length = gs.length ∧ ∀ (i : Nat) (q : Addr) (g : Gt), ps[i]? = some q → gs[i]? = some g → q ∉ Z ∧ H q = some (.tup g.row)
def NmAt (Z : List Addr) (H : Hp) (p : NetP) (kvs : List (Key × V)) (nm : List (Str × List Nat)) : Prop :=
  kvs.length = nm.length ∧ (nm.map (·.1)).Nodup ∧ ∀ (i : Nat) (k : Key) (v : V) (n : Str) (ws : List Nat), kvs[i]? = some (k, v) → nm[i]? = some (n, ws) → k = .inr n ∧ ∃ l, v = .ref l ∧ l ∉ Z ∧ l ≠ p.lm ∧ l ≠ p.ld ∧ H l = some (.lst (nts ws))
def NetAt (C : Addr) (Z : List Addr) (H : Hp) (p : NetP) (m : Nat) (gs : List Gt) (nm : List (Str × List Nat)) : Prop :=
  (∀ z ∈ Z, H z ≠ none) ∧ p.lm ≠ p.ld ∧ (p.x ∉ Z ∧ p.lm ∉ Z ∧ p.ld ∉ Z ∧ p.dn ∉ Z) ∧ ∃ dx ps kvs, H p.x = some (.ins C dx [("input_count", .int (m : Int)), ("made", .ref p.lm), ("depths", .ref p.ld), ("by_name", .ref p.dn)]) ∧
    H p.lm = some (.lst (ps.map V.ref)) ∧ H p.ld = some (.lst ((dps m gs).map V.int)) ∧ H p.dn = some (.dK kvs) ∧ GsAt Z H ps gs ∧ NmAt Z H p kvs nm
theorem NetAt.keep {C : Addr} {S Z : List Addr} {H H' : Hp} {p : NetP} {m : Nat} {gs : List Gt} {nm : List (Str × List Nat)} (h : NetAt C Z H p m gs nm) (k : KeepS S H H') (hs : ∀ y ∈ S, y ∈ Z) : NetAt C Z H' p m gs nm := by
  obtain ⟨a, b, ⟨c1, c2, c3, c4⟩, dx, ps, kvs, e1, e2, e3, e4, ⟨g1, g2⟩, n1, n2, n3⟩ := h
  have f : ∀ {y : Addr} {o : HO}, y ∉ Z → H y = some o → H' y = some o := fun n e => k.1 _ _ e (fun z => n (hs _ z))
  refine ⟨fun z hz => k.2 z (a z hz), b, ⟨c1, c2, c3, c4⟩, dx, ps, kvs, f c1 e1, f c2 e2, f c3 e3, f c4 e4, ⟨g1, fun i q g hi hg => ?_⟩, n1, n2, fun i k v n ws hi hn => ?_⟩
  · have := g2 i q g hi hg
    exact ⟨this.1, f this.1 this.2⟩
  · obtain ⟨ek, l, ev, l1, l2, l3, l4⟩ := n3 i k v n ws hi hn
    exact ⟨ek, l, ev, l1, l2, l3, f l1 l4⟩
theorem NetAt.same {C : Addr} {Z : List Addr} {H H' : Hp} {p : NetP} {m : Nat} {gs : List Gt} {nm : List (Str × List Nat)} (h : NetAt C Z H p m gs nm) (s : Same H H') : NetAt C Z H' p m gs nm := h.keep (S := []) (.ofSame s) (fun _ z => nomatch z)
theorem NetAt.keepB {C b : Addr} {Z : List Addr} {H H' : Hp} {p : NetP} {m : Nat} {gs : List Gt} {nm : List (Str × List Nat)} (h : NetAt C Z H p m gs nm) (k : Keep b H H') (hb : H' b ≠ none) (m' : b ∈ Z) : NetAt C Z H' p m gs nm := h.keep (S := [b]) (.ofKeep k (List.mem_singleton.mpr rfl) hb) (fun y hy => by rw [List.mem_singleton.mp hy]; exact m')
theorem BoxAt.some {c : Int} {H : Hp} {b : Addr} (h : BoxAt c H b) : H b ≠ none := by
  obtain ⟨_, _, _, e, _⟩ := h
  exact some_ne e
theorem made {C : Addr} {H : Hp} {x dx : Addr} (nx : H x = none) (nd : H dx = none) (ne : dx ≠ x) {H' : Hp} (k : ∀ p o, (upd (upd H dx (.own x)) x (.ins C dx [])) p = some o → p ≠ x → H' p = some o) : Same H H' := fun p o e =>
  k p o (by rw [upd_ne (ne_of_none e nx), upd_ne (ne_of_none e nd)]; exact e) (ne_of_none e nx)
theorem units1 {k : Nat} {A : Around} (r : Room k A) : A.units + 1 < cLine := by have := r.un; omega
theorem pi_or {X : Cx} {tg e : Expr} {i j : TI} (h1 : PI X tg e i) (h2 : PI X tg e j) : PI X tg e (fun σ H R => i σ H R ∨ j σ H R) := ⟨fun pins s σ H R I h => h.elim (fun a => h1.run pins s σ H R I a) (fun b => h2.run pins s σ H R I b)⟩
structure FT (K : PySem.W.Frag) (mg : Str → Option Value) (C : Addr) : Prop where
  cl : Cls K C
  n_input_count : NoAttr K C "input_count"
  n_made : NoAttr K C "made"
  n_depths : NoAttr K C "depths"
  n_by_name : NoAttr K C "by_name"
  mgC : mg "Net" = some (.ref C)
structure LL (K : PySem.W.Frag) (mg : Str → Option Value) (C : Addr) (za : Nat → Addr) (zl : Nat → FuncData) : Prop where
  F_settled : Fun K "settled" "settled" s_settled (za 1) (zl 1)
  m_settled : mg "settled" = some (.ref (za 1))
  b_settled : Binds K (zl 1) ["net", "cube"] []
  F_gate_sign : Fun K "gate_sign" "gate_sign" s_gate_sign (za 2) (zl 2)
  m_gate_sign : mg "gate_sign" = some (.ref (za 2))
  b_gate_sign : Binds K (zl 2) ["gate", "signs"] []
  F_turned_sign : Fun K "turned_sign" "turned_sign" s_turned_sign (za 3) (zl 3)
  m_turned_sign : mg "turned_sign" = some (.ref (za 3))
  b_turned_sign : Binds K (zl 3) ["sign"] []
  F_ruled_sign : Fun K "ruled_sign" "ruled_sign" s_ruled_sign (za 4) (zl 4)
  m_ruled_sign : mg "ruled_sign" = some (.ref (za 4))
  b_ruled_sign : Binds K (zl 4) ["one", "other", "ruling"] []
  F__law_box : Fun K "_law_box" "_law_box" sBox (za 5) (zl 5)
  m__law_box : mg "_law_box" = some (.ref (za 5))
  b__law_box : Binds K (zl 5) ["_law_script", "_law_k"] []
  F__law_take : Fun K "_law_take" "_law_take" sTake (za 6) (zl 6)
  m__law_take : mg "_law_take" = some (.ref (za 6))
  b__law_take : Binds K (zl 6) ["_law_box_here", "_law_size"] []
  F__law_folded : Fun K "_law_folded" "_law_folded" sFolded (za 7) (zl 7)
  m__law_folded : mg "_law_folded" = some (.ref (za 7))
  b__law_folded : Binds K (zl 7) ["_law_script", "_law_size"] []
  F__law_same : Fun K "_law_same" "_law_same" sSame (za 8) (zl 8)
  m__law_same : mg "_law_same" = some (.ref (za 8))
  b__law_same : Binds K (zl 8) ["_law_found", "_law_due"] []
  F__law_gate_rows : Fun K "_law_gate_rows" "_law_gate_rows" s__law_gate_rows (za 9) (zl 9)
  m__law_gate_rows : mg "_law_gate_rows" = some (.ref (za 9))
  b__law_gate_rows : Binds K (zl 9) ["_law_box_here", "_law_first", "_law_many"] []
  F__law_net : Fun K "_law_net" "_law_net" s__law_net (za 10) (zl 10)
  m__law_net : mg "_law_net" = some (.ref (za 10))
  b__law_net : Binds K (zl 10) ["_law_first", "_law_rows", "_law_given_here"] []
  F__law_settled : Fun K "_law_settled" "_law_settled" s__law_settled (za 11) (zl 11)
  m__law_settled : mg "_law_settled" = some (.ref (za 11))
  b__law_settled : Binds K (zl 11) ["_law_rows", "_law_given_here", "_law_cube_here"] []
  F__law_is_open : Fun K "_law_is_open" "_law_is_open" s__law_is_open (za 12) (zl 12)
  m__law_is_open : mg "_law_is_open" = some (.ref (za 12))
  b__law_is_open : Binds K (zl 12) ["_law_told"] []
  F__law_word_of : Fun K "_law_word_of" "_law_word_of" s__law_word_of (za 13) (zl 13)
  m__law_word_of : mg "_law_word_of" = some (.ref (za 13))
  b__law_word_of : Binds K (zl 13) ["_law_box_here", "_law_some"] []
  F__law_given : Fun K "_law_given" "_law_given" s__law_given (za 14) (zl 14)
  m__law_given : mg "_law_given" = some (.ref (za 14))
  b__law_given : Binds K (zl 14) ["_law_box_here", "_law_far"] []
  F__law_cube : Fun K "_law_cube" "_law_cube" s__law_cube (za 15) (zl 15)
  m__law_cube : mg "_law_cube" = some (.ref (za 15))
  b__law_cube : Binds K (zl 15) ["_law_box_here", "_law_many"] []
  F__law_shut : Fun K "_law_shut" "_law_shut" s__law_shut (za 16) (zl 16)
  m__law_shut : mg "_law_shut" = some (.ref (za 16))
  b__law_shut : Binds K (zl 16) ["_law_box_here", "_law_cube_here"] []
  F__law_kept : Fun K "_law_kept" "_law_kept" s__law_kept (za 17) (zl 17)
  m__law_kept : mg "_law_kept" = some (.ref (za 17))
  b__law_kept : Binds K (zl 17) ["_law_one", "_law_other"] []
  F__law_grown_right : Fun K "_law_grown_right" "_law_grown_right" s__law_grown_right (za 18) (zl 18)
  m__law_grown_right : mg "_law_grown_right" = some (.ref (za 18))
  b__law_grown_right : Binds K (zl 18) ["_law_box_here", "_law_net_here", "_law_first", "_law_rows", "_law_given_here", "_law_cubes"] []
  F__law_right : Fun K "_law_right" "_law_right" s__law_right (za 19) (zl 19)
  m__law_right : mg "_law_right" = some (.ref (za 19))
  b__law_right : Binds K (zl 19) ["_law_box_here"] []
  T : FT K mg C
  M : Mk K C (za 20)
  F_Net___init__ : Fun K "__init__" "Net.__init__" s_Net___init__ (za 20) (zl 20)
  b_Net___init__ : Binds K (zl 20) ["self", "many"] []
  F_Net_both : Fun K "both" "Net.both" s_Net_both (za 21) (zl 21)
  b_Net_both : Binds K (zl 21) ["self", "a", "b"] []
  M_Net_both : Meth K C "both" (za 21)
  F_Net_either : Fun K "either" "Net.either" s_Net_either (za 22) (zl 22)
  b_Net_either : Binds K (zl 22) ["self", "a", "b"] []
  M_Net_either : Meth K C "either" (za 22)
  F_Net_unlike : Fun K "unlike" "Net.unlike" s_Net_unlike (za 23) (zl 23)
  b_Net_unlike : Binds K (zl 23) ["self", "a", "b"] []
  M_Net_unlike : Meth K C "unlike" (za 23)
  F_Net_other : Fun K "other" "Net.other" s_Net_other (za 24) (zl 24)
  b_Net_other : Binds K (zl 24) ["self", "a"] []
  M_Net_other : Meth K C "other" (za 24)
  F_Net_fixed : Fun K "fixed" "Net.fixed" s_Net_fixed (za 25) (zl 25)
  b_Net_fixed : Binds K (zl 25) ["self", "bit"] []
  M_Net_fixed : Meth K C "fixed" (za 25)
  F_Net_put : Fun K "put" "Net.put" s_Net_put (za 26) (zl 26)
  b_Net_put : Binds K (zl 26) ["self", "kind", "wires"] []
  M_Net_put : Meth K C "put" (za 26)
  F_Net_put_gate : Fun K "put_gate" "Net.put_gate" s_Net_put_gate (za 27) (zl 27)
  b_Net_put_gate : Binds K (zl 27) ["self", "gate", "depth"] []
  M_Net_put_gate : Meth K C "put_gate" (za 27)
  F_Net_need : Fun K "need" "Net.need" s_Net_need (za 28) (zl 28)
  b_Net_need : Binds K (zl 28) ["self", "wires"] []
  M_Net_need : Meth K C "need" (za 28)
  F_Net_give : Fun K "give" "Net.give" s_Net_give (za 29) (zl 29)
  b_Net_give : Binds K (zl 29) ["self", "name", "wires"] []
  M_Net_give : Meth K C "give" (za 29)
  F_Net_given : Fun K "given" "Net.given" s_Net_given (za 30) (zl 30)
  b_Net_given : Binds K (zl 30) ["self", "name"] []
  M_Net_given : Meth K C "given" (za 30)
  F_Net_names : Fun K "names" "Net.names" s_Net_names (za 31) (zl 31)
  b_Net_names : Binds K (zl 31) ["self"] []
  M_Net_names : Meth K C "names" (za 31)
  F_Net_gates : Fun K "gates" "Net.gates" s_Net_gates (za 32) (zl 32)
  b_Net_gates : Binds K (zl 32) ["self"] []
  M_Net_gates : Meth K C "gates" (za 32)
  F_Net___len__ : Fun K "__len__" "Net.__len__" s_Net___len__ (za 33) (zl 33)
  b_Net___len__ : Binds K (zl 33) ["self"] []
  M_Net___len__ : Meth K C "__len__" (za 33)
  z_sorted : mg "sorted" = none
variable {C : Addr} {za : Nat → Addr} {zl : Nat → FuncData}

end
theorem gset_if2 {i : Nat} {v : V} {σ : L2.St} {H : Hp} {c : TT} {t u r : TS} {D : Ends} (h : tIfS c t u { D with nx := r D } (σ.set i (some v)) H) : gName i v σ H ({ D with nx := tSeq (tIfS c t u) r D } : Ends).nx := h
theorem gset_if {σ : L2.St} {H : Hp} {c : TT} {t u r : TS} {D : Ends} (h : tIfS c t u { D with nx := r D } σ H) : tSeq (tIfS c t u) r D σ H := h
theorem ifS_cut {c : TT} {t u : TS} {D : Ends} {σ : L2.St} {H : Hp} (R : L2.St → Hp → Prop) (h : ∀ D' : Ends, (∀ σ' H', R σ' H' → D'.nx σ' H') → tIfS c t u D' σ H) (q : ∀ σ' H', R σ' H' → D.nx σ' H') : tIfS c t u D σ H := h D q
theorem ifS_ev {c : TT} {t u : TS} {D : Ends} {σ : L2.St} {H : Hp} (R : Bool → Hp → Prop) (h : ∀ Q : Bool → Hp → Prop, (∀ z H', R z H' → Q z H') → c σ H Q) (q1 : ∀ H', R true H' → t D σ H') (q2 : ∀ H', R false H' → u D σ H') : tIfS c t u D σ H := h _ fun z H' r => by
  cases z with
  | true => exact q1 H' r
  | false => exact q2 H' r
theorem if_ev {t : TT} {ta tb : TE} {σ : L2.St} {H : Hp} {Q : VK} (R : V → Hp → Prop) (h : ∀ Q : VK, (∀ z H', R z H' → Q z H') → tIf t ta tb σ H Q) (q : ∀ z H', R z H' → Q z H') : tIf t ta tb σ H Q := h Q q
theorem and_ev {ta tb : TE} {σ : L2.St} {H : Hp} {Q : VK} (R : V → Hp → Prop) (h : ∀ Q : VK, (∀ z H', R z H' → Q z H') → tAndV ta tb σ H Q) (q : ∀ z H', R z H' → Q z H') : tAndV ta tb σ H Q := h Q q
theorem or_ev {ta tb : TE} {σ : L2.St} {H : Hp} {Q : VK} (R : V → Hp → Prop) (h : ∀ Q : VK, (∀ z H', R z H' → Q z H') → tOrV ta tb σ H Q) (q : ∀ z H', R z H' → Q z H') : tOrV ta tb σ H Q := h Q q
theorem ifset_ev {c : TT} {e : TE} {k : Nat} {D : Ends} {σ : L2.St} {H : Hp} {old : V} (hσ : σ.set k (some old) = σ) (R : V → Hp → Prop) (h : ∀ Q : VK, (∀ z H', R z H' → Q z H') → c σ H (fun b H1 => if b = true then e σ H1 Q else Q old H1)) (q : ∀ z H', R z H' → D.nx (σ.set k (some z)) H') : tIfS c (tAsg e (gName k)) tNext D σ H := by
  have t := h (fun z H' => D.nx (σ.set k (some z)) H') q
  rw [hσ] at t
  exact t
theorem two_cut {t : TE} {g : TG} {c : TT} {a b r : TS} {D : Ends} {σ : L2.St} {H : Hp} (R : L2.St → Hp → Prop) (h : ∀ D' : Ends, (∀ σ' H', R σ' H' → D'.nx σ' H') → tSeq (tAsg t g) (tIfS c a b) D' σ H) (q : ∀ σ' H', R σ' H' → r D σ' H') : tSeq (tAsg t g) (tSeq (tIfS c a b) r) D σ H := h { D with nx := r D } q
theorem org80 {ta tb : TE} {σ : L2.St} {H : Hp} {Q : VK} {c d : Bool} (ha : ∀ Q : VK, Q (.bl c) H → ta σ H Q) (hb : ∀ Q : VK, Q (.bl d) H → tb σ H Q) (h : Q (.bl (c || d)) H) : tOrV ta tb σ H Q := by
  refine ha _ ⟨c, rfl, ?_⟩
  cases c
  · exact hb _ h
  · exact h
theorem gnext_if18 {σ : L2.St} {H : Hp} {c : TT} {t u : TS} {r : TS} {D : Ends} (h : tIfS c t u { D with nx := r D } σ H) : tNext ({ D with nx := tSeq (tIfS c t u) r D } : Ends) σ H := h
theorem ret_if18 {c : TT} {ta tb : TE} {D : Ends} {σ : L2.St} {H : Hp} (R : Bool → Hp → Prop) (h : ∀ Q : Bool → Hp → Prop, (∀ z H', R z H' → Q z H') → c σ H Q) (q1 : ∀ H', R true H' → ta σ H' D.rt) (q2 : ∀ H', R false H' → tb σ H' D.rt) : tRet (tIf c ta tb) D σ H := h _ fun z H' r => by
  cases z with
  | true => exact q1 H' r
  | false => exact q2 H' r
theorem gset_if3 {i : Nat} {v : V} {σ : L2.St} {H : Hp} {c : TT} {t u r : TS} {D : Ends} (h : tIfS c t u { D with nx := r D } (σ.set i (some v)) H) : gName i v σ H (tSeq (tIfS c t u) r D) := h
theorem asg_ev {t : TE} {i : Nat} {r : TS} {D : Ends} {σ : L2.St} {H : Hp} (R : V → Hp → Prop) (h : ∀ Q : VK, (∀ z H', R z H' → Q z H') → t σ H Q) (q : ∀ z H', R z H' → r D (σ.set i (some z)) H') : tSeq (tAsg t (gName i)) r D σ H := h _ q
section
variable {P : Program} {w : World} {K : PySem.W.Frag} {mg : Str → Option Value} {base : Heap}
variable {C : Addr} {za : Nat → Addr} {zl : Nat → FuncData}
theorem walk_S {x : List Nat} : Walk (Its (SX.S x)) x.length (fun _ => True) (fun i H v H' => H' = H ∧ ∃ c, x[i]? = some c ∧ v = .str (SX.S [c])) := by
  have w := walk_str (z := SX.S x)
  rw [show (SX.S x).cps.size = x.length from List.size_toArray] at w
  refine ⟨w.goes, w.stops, fun i H v H' hi g z => ?_⟩
  obtain ⟨e, c, h1, h2⟩ := w.yields i H v H' hi g z
  refine ⟨e, c, ?_, h2⟩
  rw [← h1]
  show _ = x.toArray[i]?
  rw [List.getElem?_toArray]
theorem in_strs (x : Str) (ys : List Str) : inV (.str x) (ys.map V.str) = true ↔ x ∈ ys := by
  induction ys with
  | nil => exact ⟨fun z => Bool.noConfusion z, fun z => nomatch z⟩
  | cons y ys ih =>
    show ((y == x) || inV (.str x) (ys.map V.str)) = true ↔ _
    rw [Bool.or_eq_true, beq_iff_eq, ih, List.mem_cons]
    exact ⟨fun z => z.imp Eq.symm id, fun z => z.imp Eq.symm id⟩
theorem flat_strs (ys : List Str) : (ys.map V.str).all flatV = true := by
  induction ys with
  | nil => rfl
  | cons y ys ih => exact ih
theorem S1_inj {a b : Nat} (h : SX.S [a] = SX.S [b]) : a = b := by
  have e := SX.S_inj h
  cases e
  rfl
theorem dS1 (a b : Nat) : decide (V.str (SX.S [a]) = V.str (SX.S [b])) = decide (a = b) := by
  by_cases c : a = b
  · subst c
    rw [decide_eq_true rfl, decide_eq_true rfl]
  · rw [decide_eq_false c, decide_eq_false (fun z => c (S1_inj (V.str.inj z)))]
theorem joinL_1 : ∀ l : List Nat, TL.joinL [] (l.map fun c => [c]) = l
  | [] => rfl
  | [_] => rfl
  | a :: b :: l => by
    show [a] ++ ([] ++ TL.joinL [] ((b :: l).map fun c => [c])) = _
    rw [joinL_1 (b :: l)]
    rfl
theorem join_1 (l : List Nat) : Txt.join "" (l.map fun c => SX.S [c]) = SX.S l := by
  have e := SX.join_S [] (l.map fun c => [c])
  rw [List.map_map, joinL_1] at e
  exact e
theorem join_z (l : List Nat) (h : l.length ≤ 1000) : ((l.map fun c => SX.S [c]).map (·.length)).sum + (l.map fun c => SX.S [c]).length * ("" : Str).length ≤ 16777216 := by
  have : ((l.map fun c => SX.S [c]).map (·.length)).sum = l.length := by
    induction l with
    | nil => rfl
    | cons a l ih =>
      have h2 : l.length ≤ 1000 := by
        rw [List.length_cons] at h
        omega
      rw [List.map_cons, List.map_cons, List.sum_cons, ih h2, List.length_cons]
      show 1 + l.length = l.length + 1
      omega
  rw [this, List.length_map, show ("" : Str).length = 0 from rfl]
  omega
theorem mns : Str.ofString "-" = SX.S [45] := by decide +kernel
theorem dM (a : Nat) : decide (V.str (SX.S [a]) = V.str (Str.ofString "-")) = decide (a = 45) := by
  rw [mns]
  exact dS1 a 45
end
/-! ### enumerate of a text: new pairs of place and sign -/
def Itex (x : Str) : It :=
  ⟨fun i _ => i < x.cps.size,
   fun i H v H' => ∃ T c, v = .ref T ∧ H T = none ∧ H' = upd H T (.tup [.int (i : Nat), .str ⟨#[c]⟩]) ∧ x.cps[i]? = some c,
   fun i _ => i = x.cps.size⟩
def StEx (x : Str) (tx : Tok) (e it : Addr) (i : Nat) (h : Heap) : Prop := (∃ old, IsEnum h e it ((i : Nat) : Int) old) ∧ h.IsStrIter it (strIterType x) x tx i
theorem turn_ex {P : Program} {w : World} {K : PySem.W.Frag} {elts : List Expr} {kk : Nat} {tpos : Pos} {x : Str} {tx : Tok} {e it : Addr} (ne : e ≠ it) :
    Turn P w K (.Tuple elts kk tpos) (Itex x) [e, it] e (StEx x tx e it) where
  mem := List.mem_cons_self
  obj := by
    rintro i h ⟨⟨old, a1⟩, ⟨o1, e1, _, d1⟩⟩ c hm
    simp only [List.mem_cons, List.not_mem_nil, or_false] at hm
    rcases hm with z | z <;> subst z
    · exact ⟨_, a1, (fun _ q => nomatch q)⟩
    · exact ⟨o1, e1, (fun _ q => by rw [d1] at q; cases q)⟩
  keep := by
    rintro i h h' ⟨⟨old, a1⟩, s1⟩ k
    obtain ⟨o1, e1, r1⟩ := s1
    exact ⟨⟨old, k e (by simp) _ a1⟩, ⟨o1, k it (by simp) _ e1, r1⟩⟩
  item := by
    intro X hP hw hK hc i pins s σ H E I hf st hg
    subst hP hw hK
    have W := WalksT.enumerateD (prog := X.prog) (w := X.w) (A := X.A) (Draws.text (A := X.A.in1) (I.ok.hd hc) it x tx) e ne (by simpa using ne) (by simp)
    refine W.item i s _ E hg st fun T vals h1 tk pt hT isT mid k1 => ?_
    obtain ⟨t0, u, ⟨c, t1, hc1, rfl⟩, rfl⟩ := pt
    refine ⟨.ref T, rfl, W.go elts kk tpos i T { s with heap := h1, toks := tk } _ E mid fun h2 st2 k2 => ?_⟩
    have nT : T ∉ [e, it] := W.apart i T h1 mid
    have isT2 : h2.IsTuple T #[.int ((i : Nat) : Int) t0, .str ⟨#[c]⟩ t1] := isT.at fun o z => k2 T o nT z
    have new : ObjOk X.prog X.w (upd H T (.tup [.int (i : Nat), .str ⟨#[c]⟩])) h2 T (.tup [.int (i : Nat), .str ⟨#[c]⟩]) :=
      ⟨by show 2 ≤ sizeLine; decide, [.int ((i : Nat) : Int) t0, .str ⟨#[c]⟩ t1], .cons ⟨t0, rfl⟩ (.cons ⟨t1, rfl⟩ .nil), isT2⟩
    have I2 : Inv X pins σ (upd H T (.tup [.int (i : Nat), .str ⟨#[c]⟩])) { s with heap := h2, toks := tk } :=
      I.turnedNew (t' := tk) (ch := [e, it]) (fun b o nb z => k2 b o nb (k1 b o nb z)) hf hT new
    refine ⟨.ref T, _, I2, rfl, ⟨T, c, rfl, I.hok.fresh hT, rfl, hc1⟩, st2, fun b hb => ?_⟩
    have nb : b ≠ T := by
      obtain ⟨⟨old, a1⟩, ⟨o1, e1, _⟩⟩ := st
      have lt : b < s.heap.objs.size := by
        simp only [List.mem_cons, List.not_mem_nil, or_false] at hb
        rcases hb with q | q <;> subst q
        · exact Heap.lt_size a1
        · exact Heap.lt_size e1
      exact Nat.ne_of_lt (Nat.lt_of_lt_of_le lt hT)
    rw [upd_ne nb]
    exact (hf b hb).1
  done := by
    intro X hP hw hK hc i pins s σ H E I hf st hg
    subst hP hw hK
    have W := WalksT.enumerateD (prog := X.prog) (w := X.w) (A := X.A) (Draws.text (A := X.A.in1) (I.ok.hd hc) it x tx) e ne (by simpa using ne) (by simp)
    have hg' : i = x.cps.size := hg
    subst hg'
    exact W.done s _ E st fun h1 tk k1 => ⟨rfl, I.turnedL (t' := tk) (ch := [e, it]) (fun b o nb z => k1 b o nb z) hf⟩
  self := fun A i s Q E st h => by
    obtain ⟨⟨old, a1⟩, _⟩ := st
    exact wpAny_pyIter_enum a1 h
def iEx (ta : TA) : TI := fun σ H R => ta σ H fun vs H1 => ∃ x, vs = [.str x] ∧ R (Itex x) H1
theorem pi_ex {X : Cx} {e : Expr} {ta : TA} {p pos tpos : Pos} {elts : List Expr} {kk : Nat} (hg : Gl X "enumerate") (hm : X.mg "enumerate" = none) (ha : PA X [e] ta) (hs : starEach [e] X.env = [(false, eval e X.env)] := by rfl) :
    PI X (.Tuple elts kk tpos) (.Call (.Name "enumerate" p) [e] [] pos) (iEx ta) := by
  constructor
  intro pins s σ H R I h
  refine Call_ (ld_blt I hg hm boot_enumerate (PyProof.Rows.callWith_type1 (thn (ha.run pos pins s σ H _ I h) fun us s1 hh => ?_) hs rfl))
  obtain ⟨vs, H1, I1, r1, x, rfl, q⟩ := hh
  match us, r1 with
  | [v1], .cons ⟨tx, hx⟩ .nil =>
    subst hx
    refine call_enumerate_str fun h' a1 a2 _ k => wpAny_pyIter_enum a1 ?_
    have I2 : Inv X pins σ H1 { s1 with heap := h' } := I1.kept (t' := s1.toks) k
    have fr : ∀ b ∈ [s1.heap.objs.size + 1, s1.heap.objs.size], FpOk X pins H1 b := fun b hb => by
      have le : s1.heap.objs.size ≤ b := by
        simp only [List.mem_cons, List.not_mem_nil, or_false] at hb
        rcases hb with z | z <;> rw [z]
        · exact Nat.le_add_right _ _
        · exact Nat.le_refl _
      exact I1.fpOk le (I1.hok.fresh le)
    exact ⟨s1.heap.objs.size + 1, [s1.heap.objs.size + 1, s1.heap.objs.size], _, _, H1, rfl, I2, turn_ex (Nat.succ_ne_self _), ⟨⟨_, a1⟩, a2⟩, fr, q⟩
theorem walk_ex {x : List Nat} : Walk (Itex (SX.S x)) x.length (fun _ => True) (YPair (fun i => some (.int (i : Nat))) (fun i => (x[i]?).map fun c => .str (SX.S [c]))) := by
  refine ⟨fun i _ hi _ => by show i < x.toArray.size; rw [List.size_toArray]; exact hi, fun _ _ => by show _ = x.toArray.size; rw [List.size_toArray], fun i H v H' _ _ z => ?_⟩
  obtain ⟨T, c, h1, h2, h3, h4⟩ := z
  refine ⟨T, _, _, h1, h2, h3, rfl, ?_⟩
  have h5 : x[i]? = some c := by
    rw [← h4]
    show _ = x.toArray[i]?
    rw [List.getElem?_toArray]
  simp only [h5]
  rfl
/-! ### zip of two texts: new pairs of their signs -/
def Itzx (x y : Str) : It :=
  ⟨fun i _ => i < min x.cps.size y.cps.size,
   fun i H v H' => ∃ T c d, v = .ref T ∧ H T = none ∧ H' = upd H T (.tup [.str ⟨#[c]⟩, .str ⟨#[d]⟩]) ∧ x.cps[i]? = some c ∧ y.cps[i]? = some d,
   fun i _ => i = min x.cps.size y.cps.size⟩
def StZx (x y : Str) (tx ty : Tok) (z TI TO i1 i2 : Addr) (i : Nat) (h : Heap) : Prop :=
  IsZip h z TI TO .none ∧ IsTupOf2 h TI (.ref i1) (.ref i2) ∧ (∃ u v, IsTupOf2 h TO u v) ∧ h.IsStrIter i1 (strIterType x) x tx i ∧ h.IsStrIter i2 (strIterType y) y ty i
theorem turn_zx {P : Program} {w : World} {K : PySem.W.Frag} {elts : List Expr} {kk : Nat} {tpos : Pos} {x y : Str} {tx ty : Tok} {z TI TO i1 i2 : Addr} (S : ZipSep2 z TI TO i1 i2 [i1] [i2]) :
    Turn P w K (.Tuple elts kk tpos) (Itzx x y) [z, TI, TO, i1, i2] z (StZx x y tx ty z TI TO i1 i2) where
  mem := List.mem_cons_self
  obj := by
    rintro i h ⟨a1, a2, ⟨u, v, a3⟩, ⟨o1, e1, _, d1⟩, ⟨o2, e2, _, d2⟩⟩ c hm
    simp only [List.mem_cons, List.not_mem_nil, or_false] at hm
    rcases hm with e | e | e | e | e <;> subst e
    · exact ⟨_, a1, (fun _ q => nomatch q)⟩
    · exact ⟨_, a2, (fun _ q => nomatch q)⟩
    · exact ⟨_, a3, (fun _ q => nomatch q)⟩
    · exact ⟨o1, e1, (fun _ q => by rw [d1] at q; cases q)⟩
    · exact ⟨o2, e2, (fun _ q => by rw [d2] at q; cases q)⟩
  keep := by
    rintro i h h' ⟨a1, a2, ⟨u, v, a3⟩, s1, s2⟩ k
    obtain ⟨o1, e1, r1⟩ := s1
    obtain ⟨o2, e2, r2⟩ := s2
    exact ⟨k z (by simp) _ a1, k TI (by simp) _ a2, ⟨u, v, k TO (by simp) _ a3⟩, ⟨o1, k i1 (by simp) _ e1, r1⟩, ⟨o2, k i2 (by simp) _ e2, r2⟩⟩
  item := by
    intro X hP hw hK hc i pins s σ H E I hf st hg
    subst hP hw hK
    have W := WalksT.zipD2 (prog := X.prog) (w := X.w) (A := X.A) S (Draws.text (A := X.A.in1) (I.ok.hd hc) i1 x tx) (Draws.text (A := X.A.in1) (I.ok.hd hc) i2 y ty)
    have hin : ∀ b ∈ [z, TO, i1, i2], b ∈ [z, TI, TO, i1, i2] := fun b hb => by
      simp only [List.mem_cons, List.not_mem_nil, or_false] at hb ⊢
      rcases hb with q | q | q | q <;> simp [q]
    refine W.item i s _ E hg st fun T vals h1 tk pt hT isT mid k1 => ?_
    obtain ⟨u1, u2, ⟨c, t1, hc1, rfl⟩, ⟨d, t2, hd1, rfl⟩, rfl⟩ := pt
    refine ⟨.ref T, rfl, W.go elts kk tpos i T { s with heap := h1, toks := tk } _ E mid fun h2 st2 k2 => ?_⟩
    have nT : T ∉ [z, TO, i1, i2] := W.apart i T h1 mid
    have isT2 : h2.IsTuple T #[.str ⟨#[c]⟩ t1, .str ⟨#[d]⟩ t2] := isT.at fun o e => k2 T o nT e
    have new : ObjOk X.prog X.w (upd H T (.tup [.str ⟨#[c]⟩, .str ⟨#[d]⟩])) h2 T (.tup [.str ⟨#[c]⟩, .str ⟨#[d]⟩]) :=
      ⟨by show 2 ≤ sizeLine; decide, [.str ⟨#[c]⟩ t1, .str ⟨#[d]⟩ t2], .cons ⟨t1, rfl⟩ (.cons ⟨t2, rfl⟩ .nil), isT2⟩
    have I2 : Inv X pins σ (upd H T (.tup [.str ⟨#[c]⟩, .str ⟨#[d]⟩])) { s with heap := h2, toks := tk } :=
      I.turnedNew (t' := tk) (ch := [z, TI, TO, i1, i2]) (fun b o nb e => k2 b o (fun q => nb (hin b q)) (k1 b o (fun q => nb (hin b q)) e)) hf hT new
    refine ⟨.ref T, _, I2, rfl, ⟨T, c, d, rfl, I.hok.fresh hT, rfl, hc1, hd1⟩, st2, fun b hb => ?_⟩
    have nb : b ≠ T := by
      obtain ⟨a1, a2, ⟨u, v, a3⟩, ⟨o1, e1, _⟩, ⟨o2, e2, _⟩⟩ := st
      have lt : b < s.heap.objs.size := by
        simp only [List.mem_cons, List.not_mem_nil, or_false] at hb
        rcases hb with q | q | q | q | q <;> subst q
        · exact Heap.lt_size a1
        · exact Heap.lt_size a2
        · exact Heap.lt_size a3
        · exact Heap.lt_size e1
        · exact Heap.lt_size e2
      exact Nat.ne_of_lt (Nat.lt_of_lt_of_le lt hT)
    rw [upd_ne nb]
    exact (hf b hb).1
  done := by
    intro X hP hw hK hc i pins s σ H E I hf st hg
    subst hP hw hK
    have W := WalksT.zipD2 (prog := X.prog) (w := X.w) (A := X.A) S (Draws.text (A := X.A.in1) (I.ok.hd hc) i1 x tx) (Draws.text (A := X.A.in1) (I.ok.hd hc) i2 y ty)
    have hg' : i = min x.cps.size y.cps.size := hg
    subst hg'
    refine W.done s _ E st fun h1 tk k1 => ⟨rfl, I.turnedL (t' := tk) (ch := [z, TI, TO, i1, i2]) (fun b o nb e => k1 b o (fun q => nb ?_) e) hf⟩
    simp only [List.mem_cons, List.not_mem_nil, or_false] at q ⊢
    rcases q with q | q | q | q <;> simp [q]
  self := fun A i s Q E st h => wpAny_pyIter_zip st.1 h
def iZx (ta : TA) : TI := fun σ H R => ta σ H fun vs H1 => ∃ x y, vs = [.str x, .str y] ∧ R (Itzx x y) H1
theorem pi_zx {X : Cx} {e e2 : Expr} {ta : TA} {p pos tpos : Pos} {elts : List Expr} {kk : Nat} (hg : Gl X "zip") (hm : X.mg "zip" = none) (ha : PA X [e, e2] ta)
    (hs : starEach [e, e2] X.env = (false, eval e X.env) :: starEach [e2] X.env := by rfl) (hp : (backTo pos (starEach [e2] X.env)).any (·.1) = false := by rfl) :
    PI X (.Tuple elts kk tpos) (.Call (.Name "zip" p) [e, e2] [] pos) (iZx ta) := by
  constructor
  intro pins s σ H R I h
  refine Call_ (ld_blt I hg hm PyProof.Rows.boot_zip (PyProof.Rows.callWith_type1 (thn (ha.run pos pins s σ H _ I h) fun us s1 hh => ?_) hs hp))
  obtain ⟨vs, H1, I1, r1, x, y, rfl, q⟩ := hh
  match us, r1 with
  | [v1, v2], .cons ⟨tx, hx⟩ (.cons ⟨ty, hy⟩ .nil) =>
    subst hx hy
    refine zip_begins2 (begins_text x tx) (begins_text y ty) trivial trivial fun h' a1 a2 a3 g1 g2 _ k => wpAny_pyIter_zip a1 ?_
    have I2 : Inv X pins σ H1 { s1 with heap := h' } := I1.kept (t' := s1.toks) k
    have S : ZipSep2 (s1.heap.objs.size + 4) (s1.heap.objs.size + 2) (s1.heap.objs.size + 3) s1.heap.objs.size (s1.heap.objs.size + 1) [s1.heap.objs.size] [s1.heap.objs.size + 1] := zip_sep2 (fp1 := []) (fp2 := []) (fun _ q => nomatch q) (fun _ q => nomatch q)
    have fr : ∀ b ∈ [s1.heap.objs.size + 4, s1.heap.objs.size + 2, s1.heap.objs.size + 3, s1.heap.objs.size, s1.heap.objs.size + 1], FpOk X pins H1 b := fun b hb => by
      have le : s1.heap.objs.size ≤ b := by
        simp only [List.mem_cons, List.not_mem_nil, or_false] at hb
        rcases hb with z | z | z | z | z <;> rw [z]
        · exact Nat.le_add_right _ _
        · exact Nat.le_add_right _ _
        · exact Nat.le_add_right _ _
        · exact Nat.le_refl _
        · exact Nat.le_add_right _ _
      exact I1.fpOk le (I1.hok.fresh le)
    exact ⟨s1.heap.objs.size + 4, [s1.heap.objs.size + 4, s1.heap.objs.size + 2, s1.heap.objs.size + 3, s1.heap.objs.size, s1.heap.objs.size + 1], _, _, H1, rfl, I2, turn_zx S, ⟨a1, a2, ⟨_, _, a3⟩, ⟨_, g1, rfl, rfl⟩, ⟨_, g2, rfl, rfl⟩⟩, fr, q⟩
/-! ### len(x) of an own __len__ -/
theorem call_lenOwn {X : Cx} {C f : Addr} {fd : FuncData} {ps : List Str} {sp : Sp} {CI : CXT} {n : Nat} {E : XK} (hm : Meth X.K C "__len__" f) (FN : FnOk X.prog X.w X.K X.mg X.base CI n f fd ps sp) (bN : Binds X.K fd ps []) (hr : Room (n + 1) X.A) (hx : Passes CI X E) :
    CallR X (.builtin "len") (fun xs H Q => ∃ (x dx : Addr) (fs : List (Str × V)), xs = [.ref x] ∧ H x = some (.ins C dx fs) ∧ sp [.ref x] H (fun v H' => ∃ k : Int, v = .int k ∧ 0 ≤ k ∧ k < 2 ^ 63 ∧ Q (.int k) H') E) := by
  intro pins s σ H xs us Q I r h
  obtain ⟨a, dx, fs, rfl, ha, hsp⟩ := h
  obtain ⟨u, rfl, ru⟩ := vals1 r
  obtain rfl : u = Value.ref a := ru
  obtain ⟨mA, J, _⟩ := ins_get I.hok ha
  obtain ⟨od, J, _⟩ := J.look
  obtain ⟨m, hF⟩ := I.fr
  have sb : Sub X n X.A.in1 := Sub.in1 ⟨hr, rfl⟩
  refine PySem.W.len_K hF I.ok.mod.kin J hm.at_ hm.fn ?_
  have e0 : Env0 X.prog X.w X.K X.mg X.base X.A.in1 X.stack s H := by
    have e := I.env0
    exact ⟨by rw [sb.fr]; exact e.frames, e.mod, e.bs, e.bsz, e.funs, e.frf, e.hok, e.bare⟩
  have hl := FN.len _ _ _ _ hsp
  have r2 : Vals [V.ref a] [Value.ref a] := .cons rfl .nil
  refine wpAny_call (codeAny_mono (FN.run X.A.in1 X.stack s H ⟨[.ref a], []⟩ [.ref a] [.ref a] _ E sb.room e0 (by
    have := bN s [.ref a] I.kIn (by simpa using hl)
    simpa using this) r2 hsp) fun r s' hq => ?_)
  cases r with
  | error e => exact hx pins σ H s e s' I hq
  | ok fl =>
    cases fl with
    | ret u =>
      obtain ⟨v, H', I', rv, k, rfl, k0, k1, q⟩ := I.after hq
      obtain ⟨t, rfl⟩ := rv
      exact ⟨⟨k0, k1⟩, .int k, H', I'.tok _, ⟨_, rfl⟩, q⟩
    | next => exact False.elim hq
    | brk => exact False.elim hq
    | cont => exact False.elim hq
/-! ### a text so many times -/
def strRep (x : Str) (n : Nat) : Str := ⟨(List.replicate n x.cps).foldl (· ++ ·) #[]⟩
theorem strRep_len (x : Str) (n : Nat) : (strRep x n).length = n * x.length := by
  have key : ∀ (n : Nat) (a : Array Nat), ((List.replicate n x.cps).foldl (· ++ ·) a).size = a.size + n * x.cps.size := by
    intro n
    induction n with
    | zero => intro a; simp
    | succ k ih =>
      intro a
      rw [List.replicate_succ, List.foldl_cons, ih, Array.size_append, Nat.add_mul, Nat.one_mul]
      omega
  have := key n #[]
  show ((List.replicate n x.cps).foldl (· ++ ·) #[]).size = n * x.cps.size
  rw [this]
  simp
theorem op_mul_str {X : Cx} : OpR X (binaryOp .Mult) (fun x y H Q => ∃ (i : Str) (n : Nat), x = .str i ∧ y = .int (n : Int) ∧ i.length ≤ 1000 ∧ n ≤ 1000 ∧ Q (.str (strRep i n)) H) := by
  intro pins s σ H x y v u Q I rx ry h
  obtain ⟨i, n, rfl, rfl, h1, h2, q⟩ := h
  obtain ⟨t, rfl⟩ := rx
  obtain ⟨t', rfl⟩ := ry
  have hm : i.length * n ≤ 1000 * 1000 := Nat.mul_le_mul h1 h2
  refine P.mul_str (by rw [decide_eq_false (by omega), decide_eq_false (by omega)]; rfl) (fun c _ => ?_) (fun c _ => ?_) ?_
  · have : (1 : Int) ≤ n := by omega
    have hd : ((2 ^ 63 - 1 : Int)) / 1000 ≤ (2 ^ 63 - 1) / (n : Int) := by
      refine Int.le_ediv_of_mul_le (by omega) ?_
      have : ((2 ^ 63 - 1 : Int) / 1000) * n ≤ (2 ^ 63 - 1) / 1000 * 1000 := Int.mul_le_mul_of_nonneg_left (by omega) (by decide)
      have e : ((2 ^ 63 - 1 : Int) / 1000) * 1000 ≤ 2 ^ 63 - 1 := by decide
      omega
    have e2 : (1000 : Int) ≤ (2 ^ 63 - 1) / 1000 := by decide
    omega
  · rw [Int.toNat_natCast]
    unfold Builtin.Str.tooLong
    have : (1000 * 1000 : Nat) ≤ sizeLine := by decide
    simp only [decide_eq_false_iff_not]
    omega
  · have fin : ∀ (tk : Nat), EP X pins σ Q (.str (strRep i n) tk) s := fun tk => ⟨.str (strRep i n), H, I, ⟨_, rfl⟩, q⟩
    by_cases c : (n : Int) < 1
    · rw [if_pos c]
      have n0 : n = 0 := by omega
      subst n0
      exact ⟨by decide, ⟨.str (strRep i 0), H, I.tok _, ⟨_, rfl⟩, q⟩⟩
    · rw [if_neg c]
      by_cases c2 : ((n : Int) == 1 || i.length == 0) = true
      · rw [if_pos c2]
        have e : strRep i n = i := by
          rcases Bool.or_eq_true_iff.mp c2 with z | z
          · have n1 : n = 1 := by
              have := beq_iff_eq.mp z
              omega
            subst n1
            show (⟨#[] ++ i.cps⟩ : Str) = i
            rw [Array.empty_append]
          · have l0 : (strRep i n).length = 0 := by rw [strRep_len, beq_iff_eq.mp z, Nat.mul_zero]
            have a : (strRep i n).cps = #[] := Array.eq_empty_of_size_eq_zero l0
            have b : i.cps = #[] := Array.eq_empty_of_size_eq_zero (beq_iff_eq.mp z)
            show strRep i n = i
            cases h5 : strRep i n
            cases i
            rw [h5] at a
            dsimp only at a b
            rw [a, b]
        rw [e] at q
        exact ⟨.str i, H, I, ⟨_, rfl⟩, q⟩
      · rw [if_neg c2]
        refine ⟨?_, ⟨.str (strRep i n), H, I.tok _, ⟨_, rfl⟩, q⟩⟩
        have := strRep_len i n
        have : (1000 * 1000 : Nat) ≤ sizeLine := by decide
        show (strRep i n).length ≤ sizeLine
        rw [strRep_len, Nat.mul_comm]
        omega
/-! ### == and != of things that read as data, whatever their texts -/
theorem op_nePl {X : Cx} (hu : X.A.units + 64 < cLine) : OpR X (compareOp .NotEq) (fun x y H Q => ∃ d e, Dp X.K H x d ∧ Dp X.K H y e ∧ d.plain = true ∧ e.plain = true ∧ d.depth ≤ 64 ∧ Q (.bl (!PyData.eqv d e)) H) := by
  intro pins s σ H x y v u Q I rx ry h
  obtain ⟨d, e, hd, he, sd, se, dd, q⟩ := h
  obtain ⟨as, r1⟩ := Dp.reads I d x v hd rx
  obtain ⟨bs, r2⟩ := Dp.reads I e y u he ry
  refine SeqAt.ne_plain r1 r2 sd se ?_ ⟨.bl _, H, I, rfl, q⟩
  have := Nat.min_le_left d.depth e.depth
  omega
theorem op_eqPl {X : Cx} (hu : X.A.units + 64 < cLine) : OpR X (compareOp .Eq) (fun x y H Q => ∃ d e, Dp X.K H x d ∧ Dp X.K H y e ∧ d.plain = true ∧ e.plain = true ∧ d.depth ≤ 64 ∧ Q (.bl (PyData.eqv d e)) H) := by
  intro pins s σ H x y v u Q I rx ry h
  obtain ⟨d, e, hd, he, sd, se, dd, q⟩ := h
  obtain ⟨as, r1⟩ := Dp.reads I d x v hd rx
  obtain ⟨bs, r2⟩ := Dp.reads I e y u he ry
  refine SeqAt.eq_plain r1 r2 sd se ?_ ⟨.bl _, H, I, rfl, q⟩
  have := Nat.min_le_left d.depth e.depth
  omega
theorem pl_all : ∀ ds : List PyData, (∀ d ∈ ds, d.plain = true ∧ d.depth ≤ 50) → PyData.plainAll ds = true ∧ PyData.depthAll ds ≤ 50
  | [], _ => ⟨rfl, by simp [PyData.depthAll]⟩
  | d :: ds, h => by
    obtain ⟨a, b⟩ := pl_all ds fun e he => h e (List.mem_cons_of_mem _ he)
    obtain ⟨a1, b1⟩ := h d (List.mem_cons_self ..)
    refine ⟨by rw [PyData.plainAll, a1, a]; rfl, ?_⟩
    simp only [PyData.depthAll]
    omega
theorem pl_list {ds : List PyData} (h : ∀ d ∈ ds, d.plain = true ∧ d.depth ≤ 50) : (PyData.list ds).plain = true ∧ (PyData.list ds).depth ≤ 64 := by
  obtain ⟨a, b⟩ := pl_all ds h
  refine ⟨a, ?_⟩
  simp only [PyData.depth]
  omega
section
variable {P : Program} {w : World} {K : PySem.W.Frag} {mg : Str → Option Value} {base : Heap}
variable {C : Addr} {za : Nat → Addr} {zl : Nat → FuncData}
/-! ### a net's gates -/
theorem flat_rep (m : Nat) (v : V) : (List.replicate m [v]).flatten = List.replicate m v := by
  induction m with
  | zero => rfl
  | succ k ih =>
    rw [List.replicate_succ, List.flatten_cons, ih, List.replicate_succ]
    rfl
def spNetI (C : Addr) : Sp := fun vs H Q _ => ∃ (x dx : Addr) (m : Nat), vs = [.ref x, .int (m : Int)] ∧ H x = some (.ins C dx []) ∧ m ≤ 100000 ∧
  ∀ (p : NetP) (H' : Hp), p.x = x → (∀ y o, H y = some o → y ≠ x → H' y = some o) → (H p.lm = none ∧ H p.ld = none ∧ H p.dn = none) → (∀ Z : List Addr, (∀ z ∈ Z, z ≠ x ∧ H z ≠ none) → NetAt C Z H' p m [] []) → Q .non H'
theorem ok_Net___init__ (B : Bl mg) (L : LL K mg C za zl) : FnOk P w K mg base CX0 1 (za 20) (zl 20) ["self", "many"] (spNetI C) := by
  refine L.F_Net___init__.ok sc_Net___init__ (fun vs H Q E h => ?_) (fun cdv A outer s H vs Q E hr h => ?_)
  · obtain ⟨x, dx, m, rfl, _⟩ := h
    rfl
  obtain ⟨x, dx, m, rfl, hx, hm, q⟩ := h
  refine ⟨_, (pss_cons (ps_fld (pv 0) (pv 1) rfl)
    (pss_cons (ps_fld (pv 0) (pe_lst pa_nil) rfl)
    (pss_cons (ps_fld (pv 0) (pe_op op_rep (pe_lst (pa_cons pe_int pa_nil)) (pv 1)) rfl)
    (pss_one (ps_fld (pv 0) pe_dnewK rfl))))), ?_⟩
  refine ⟨_, rfl, _, rfl, x, C, dx, _, rfl, hx, L.T.cl, L.T.n_input_count, (by show 0 < 1000; decide), ?_⟩
  have a1 : (upd H x (.ins C dx (putF "input_count" (.int (m : Int)) []))) x = some (.ins C dx [("input_count", .int (m : Int))]) := upd_same
  have f1 : ∀ y o, H y = some o → y ≠ x → (upd H x (.ins C dx (putF "input_count" (.int (m : Int)) []))) y = some o := fun y o e n => by rw [upd_ne n]; exact e
  generalize upd H x (.ins C dx (putF "input_count" (.int (m : Int)) [])) = H1 at *
  refine ⟨Nat.zero_le _, fun lm nlm => ?_⟩
  have n1 : x ≠ lm := ne_of_none a1 nlm
  refine ⟨_, rfl, x, C, dx, _, rfl, by rw [upd_ne n1]; exact a1, L.T.cl, L.T.n_made, (by show 1 < 1000; decide), ?_⟩
  have a2 : (upd (upd H1 lm (.lst [])) x (.ins C dx (putF "made" (.ref lm) [("input_count", .int (m : Int))]))) x = some (.ins C dx [("input_count", .int (m : Int)), ("made", .ref lm)]) := upd_same
  have b2 : (upd (upd H1 lm (.lst [])) x (.ins C dx (putF "made" (.ref lm) [("input_count", .int (m : Int))]))) lm = some (.lst []) := by rw [upd_ne n1.symm, upd_same]
  have f2 : ∀ y o, H1 y = some o → y ≠ x → (upd (upd H1 lm (.lst [])) x (.ins C dx (putF "made" (.ref lm) [("input_count", .int (m : Int))]))) y = some o := fun y o e n => by rw [upd_ne n, upd_ne (ne_of_none e nlm)]; exact e
  generalize upd (upd H1 lm (.lst [])) x (.ins C dx (putF "made" (.ref lm) [("input_count", .int (m : Int))])) = H2 at *
  refine ⟨(by show 1 ≤ sizeLine; decide), fun z nz => ?_⟩
  refine ⟨_, rfl, z, (m : Int), _, rfl, rfl, upd_same, by omega, by omega, (by show 1 * ((m : Int)).toNat ≤ _; rw [Int.toNat_natCast, Nat.one_mul]; exact Nat.le_trans hm (by decide)), fun ld nld => ?_⟩
  have e0 : (List.replicate ((m : Int)).toNat [V.int 0]).flatten = (dps m []).map V.int := by
    rw [Int.toNat_natCast]
    show _ = (List.replicate m 0).map V.int
    rw [List.map_replicate]
    exact flat_rep m _
  rw [e0]
  have z1 := ne_of_none a2 nz
  have z2 := ne_of_none b2 nz
  have sz := same_upd (o := .lst [V.int 0]) nz
  have sd := same_upd (o := .lst ((dps m []).map V.int)) nld
  have l1 := ne_of_none (sz _ _ a2) nld
  have l2 := ne_of_none (sz _ _ b2) nld
  refine ⟨_, rfl, x, C, dx, _, rfl, sd _ _ (sz _ _ a2), L.T.cl, L.T.n_depths, (by show 2 < 1000; decide), ?_⟩
  have sA := sz.trans sd
  have b3 := sd _ _ (sz _ _ b2)
  have d3 : (upd (upd H2 z (.lst [V.int 0])) ld (.lst ((dps m []).map V.int))) ld = some (.lst ((dps m []).map V.int)) := upd_same
  generalize upd (upd H2 z (.lst [V.int 0])) ld (.lst ((dps m []).map V.int)) = H3 at *
  have a4 : (upd H3 x (.ins C dx (putF "depths" (.ref ld) [("input_count", .int (m : Int)), ("made", .ref lm)]))) x = some (.ins C dx [("input_count", .int (m : Int)), ("made", .ref lm), ("depths", .ref ld)]) := upd_same
  have f4 : ∀ y o, H3 y = some o → y ≠ x → (upd H3 x (.ins C dx (putF "depths" (.ref ld) [("input_count", .int (m : Int)), ("made", .ref lm)]))) y = some o := fun y o e n => by rw [upd_ne n]; exact e
  have b4 := f4 _ _ b3 n1.symm
  have d4 := f4 _ _ d3 l1.symm
  generalize upd H3 x (.ins C dx (putF "depths" (.ref ld) [("input_count", .int (m : Int)), ("made", .ref lm)])) = H4 at *
  refine fun dn ndn => ?_
  have a5 := ne_of_none a4 ndn
  have b5 := ne_of_none b4 ndn
  have d5 := ne_of_none d4 ndn
  have s5 := same_upd (o := .dK []) ndn
  refine ⟨_, rfl, x, C, dx, _, rfl, s5 _ _ a4, L.T.cl, L.T.n_by_name, (by show 3 < 1000; decide), ?_⟩
  have nn : ∀ (y : Addr), (∀ o, H y = some o → y ≠ x → False) → y ≠ x → H y = none := fun y h n => by
    cases e : H y with
    | none => rfl
    | some o => exact (h o e n).elim
  refine q ⟨x, lm, ld, dn⟩ _ rfl (fun y o e n => ?_) ⟨nn lm (fun o e n => by have := f1 _ _ e n; rw [nlm] at this; cases this) n1.symm, nn ld (fun o e n => by have := sz _ _ (f2 _ _ (f1 _ _ e n) n); rw [nld] at this; cases this) l1.symm, nn dn (fun o e n => by have := f4 _ _ (sA _ _ (f2 _ _ (f1 _ _ e n) n)) n; rw [ndn] at this; cases this) a5.symm⟩ (fun Z hZ => ?_)
  · rw [upd_ne n]
    exact s5 _ _ (f4 _ _ (sA _ _ (f2 _ _ (f1 _ _ e n) n)) n)
  have zz : ∀ a ∈ Z, a ≠ x ∧ a ≠ lm ∧ a ≠ ld ∧ a ≠ dn ∧ H4 a ≠ none := fun a ha => by
    obtain ⟨nx, h0⟩ := hZ a ha
    cases e : H a with
    | none => exact absurd e h0
    | some o =>
      have e1 := f1 _ _ e nx
      have e2 := f2 _ _ e1 nx
      have e4 := f4 _ _ (sA _ _ e2) nx
      exact ⟨nx, ne_of_none e1 nlm, ne_of_none (sz _ _ e2) nld, ne_of_none e4 ndn, some_ne e4⟩
  refine ⟨fun a ha => ?_, l2, ⟨fun h => (zz _ h).1 rfl, fun h => (zz _ h).2.1 rfl, fun h => (zz _ h).2.2.1 rfl, fun h => (zz _ h).2.2.2.1 rfl⟩, dx, [], [], upd_same, ?_, ?_, ?_, ⟨rfl, fun i q g h => by simp at h⟩, rfl, List.nodup_nil, fun i k v n ws h => by simp at h⟩
  · rw [upd_ne (zz a ha).1, upd_ne (zz a ha).2.2.2.1]
    exact (zz a ha).2.2.2.2
  · show (upd (upd H4 dn (.dK [])) x _) lm = _
    rw [upd_ne n1.symm]
    exact s5 _ _ b4
  · show (upd (upd H4 dn (.dK [])) x _) ld = _
    rw [upd_ne l1.symm]
    exact s5 _ _ d4
  · show (upd (upd H4 dn (.dK [])) x _) dn = _
    rw [upd_ne a5.symm, upd_same]
/-! ### gates laid -/
def spNeed (K : PySem.W.Frag) (C : Addr) : Sp := fun vs H Q _ => ∃ (Z : List Addr) (p : NetP) (m : Nat) (gs : List Gt) (nm : List (Str × List Nat)) (t : Addr) (ws : List Nat), vs = [.ref p.x, .ref t] ∧ NetAt C Z H p m gs nm ∧ (SqL K H t (nts ws) ∨ SqT K H t (nts ws)) ∧ (∀ a ∈ ws, a < m + gs.length) ∧
  ∀ H', Same H H' → Q .non H'
theorem ok_Net_need (B : Bl mg) (L : LL K mg C za zl) : FnOk P w K mg base CX0 1 (za 28) (zl 28) ["self", "wires"] (spNeed K C) := by
  refine L.F_Net_need.ok sc_Net_need (fun vs H Q E h => ?_) (fun cdv A outer s H vs Q E hr h => ?_)
  · obtain ⟨Z, p, m, gs, nm, t, ws, rfl, _⟩ := h
    rfl
  obtain ⟨Z, p, m, gs, nm, t, ws, rfl, hN, hT, hw, q⟩ := h
  refine ⟨_, (pss_one (ps_for PassesOwn.never rfl (pi_or (pi_list (pv 1)) (pi_tup (pv 1))) (pg_name (i := 2) sc_Net_need.nd rfl (.inl rfl)) (pss_one (ps_if (pt_not (pt_chain op_le op_lt pe_int (pv 2) (pe_callB call_len_seq (by rfl) B.len PySem.boot_len (pa_cons (pe_fld (pv 0) rfl) pa_nil)))) (pss_one ps_never) pss_nil)))), ?_⟩
  have turn : ∀ (a : Nat), a ∈ ws → ∀ (H9 : Hp) (y : Option V) (T : TS) (D : Ends), Same H H9 → D.nx [some (.ref p.x), some (.ref t), some (.int (a : Int))] H9 → True := fun _ _ _ _ _ _ _ _ => trivial
  rcases hT with hT | hT
  · refine .inl ⟨_, rfl, t, rfl, ⟨_, hT⟩, ?_⟩
    refine for_it (walk_list (K := K) (a := t) (xs := nts ws)) (fun j σ H9 => ∃ y : Option V, σ = [some (.ref p.x), some (.ref t), y] ∧ Same H H9) ⟨_, rfl, Same.refl _⟩ (fun j σ H9 _ ⟨_, _, s9⟩ => s9.seq hT) ?_ ?_
    · rintro j v σ H9 H10 hj ⟨y, rfl, s9⟩ ⟨rfl, hz⟩
      obtain ⟨a, ha, rfl⟩ := nts_at hz
      have la := hw a (List.mem_of_getElem? ha)
      obtain ⟨_, _, _, dx, ps, kvs, e1, e2, e3, _⟩ := hN.same s9
      dsimp only [gName]
      try simp only [L2.start, List.map_cons, List.map_nil, List.length_cons, List.length_nil, List.replicate_succ, List.replicate_zero, List.cons_append, List.nil_append, List.set_cons_succ, List.set_cons_zero, Nat.reduceAdd, Nat.reduceSub, Nat.zero_add]
      refine ⟨_, rfl, _, _, rfl, rfl, _, rfl, ?_⟩
      rw [if_pos (decide_eq_true (by omega))]
      refine ⟨_, rfl, p.x, C, dx, _, _, rfl, e1, L.T.cl, L.T.n_depths, rfl, ?_⟩
      refine ⟨p.ld, _, rfl, .inl (SqL.of e3), _, _, rfl, rfl, _, rfl, ?_⟩
      have lt : decide ((a : Int) < ((((dps m gs).map V.int).length : Nat) : Int)) = true := decide_eq_true (by rw [List.length_map, dps_len]; omega)
      rw [lt]
      refine iteF ?_
      exact ⟨_, rfl, s9⟩
    · rintro σ H9 ⟨y, rfl, s9⟩
      exact q _ s9
  · refine .inr ⟨_, rfl, t, rfl, ⟨_, hT⟩, ?_⟩
    refine for_it (walk_tup (K := K) (a := t) (xs := nts ws)) (fun j σ H9 => ∃ y : Option V, σ = [some (.ref p.x), some (.ref t), y] ∧ Same H H9) ⟨_, rfl, Same.refl _⟩ (fun j σ H9 _ ⟨_, _, s9⟩ => Same.seqT s9 hT) ?_ ?_
    · rintro j v σ H9 H10 hj ⟨y, rfl, s9⟩ ⟨rfl, hz⟩
      obtain ⟨a, ha, rfl⟩ := nts_at hz
      have la := hw a (List.mem_of_getElem? ha)
      obtain ⟨_, _, _, dx, ps, kvs, e1, e2, e3, _⟩ := hN.same s9
      dsimp only [gName]
      try simp only [L2.start, List.map_cons, List.map_nil, List.length_cons, List.length_nil, List.replicate_succ, List.replicate_zero, List.cons_append, List.nil_append, List.set_cons_succ, List.set_cons_zero, Nat.reduceAdd, Nat.reduceSub, Nat.zero_add]
      refine ⟨_, rfl, _, _, rfl, rfl, _, rfl, ?_⟩
      rw [if_pos (decide_eq_true (by omega))]
      refine ⟨_, rfl, p.x, C, dx, _, _, rfl, e1, L.T.cl, L.T.n_depths, rfl, ?_⟩
      refine ⟨p.ld, _, rfl, .inl (SqL.of e3), _, _, rfl, rfl, _, rfl, ?_⟩
      have lt : decide ((a : Int) < ((((dps m gs).map V.int).length : Nat) : Int)) = true := decide_eq_true (by rw [List.length_map, dps_len]; omega)
      rw [lt]
      refine iteF ?_
      exact ⟨_, rfl, s9⟩
    · rintro σ H9 ⟨y, rfl, s9⟩
      exact q _ s9
theorem refs_inj : ∀ {as bs : List Addr}, as.map V.ref = bs.map V.ref → as = bs
  | [], [], _ => rfl
  | [], b :: bs, h => by simp at h
  | a :: as, [], h => by simp at h
  | a :: as, b :: bs, h => by
    rw [List.map_cons, List.map_cons] at h
    injection h with h1 h2
    rw [V.ref.inj h1, refs_inj h2]
theorem NetAt.laid {C : Addr} {Z : List Addr} {H : Hp} {p : NetP} {m : Nat} {gs : List Gt} {nm : List (Str × List Nat)} {q : Addr} {g : Gt} {ps : List Addr}
    (h : NetAt C Z H p m gs nm) (eq : H q = some (.tup g.row)) (nq : q ∉ Z) (em : H p.lm = some (.lst (ps.map V.ref))) :
    NetAt C Z (upd (upd H p.lm (.lst (ps.map V.ref ++ [.ref q]))) p.ld (.lst ((dps m gs).map V.int ++ [.int (dep (dps m gs) g)]))) p m (gs ++ [g]) nm := by
  obtain ⟨a, b, ⟨c1, c2, c3, c4⟩, dx, ps', kvs, e1, e2, e3, e4, ⟨g1, g2⟩, n1, n2, n3⟩ := h
  have hps : ps' = ps := by
    rw [e2] at em
    have := HO.lst.inj (Option.some.inj em)
    exact refs_inj this
  subst hps
  have f : ∀ {y : Addr} {o : HO}, H y = some o → y ≠ p.lm → y ≠ p.ld → (upd (upd H p.lm (.lst (ps'.map V.ref ++ [.ref q]))) p.ld (.lst ((dps m gs).map V.int ++ [.int (dep (dps m gs) g)]))) y = some o := fun e x1 x2 => by
    rw [upd_ne x2, upd_ne x1]
    exact e
  have tn : ∀ {y : Addr} {xs : List V}, H y = some (.tup xs) → y ≠ p.lm ∧ y ≠ p.ld := fun e => ⟨(fun z => by rw [z, e2] at e; cases e), (fun z => by rw [z, e3] at e; cases e)⟩
  refine ⟨fun z hz => ?_, b, ⟨c1, c2, c3, c4⟩, dx, ps' ++ [q], kvs, f e1 (fun z => by rw [z, e2] at e1; cases e1) (fun z => by rw [z, e3] at e1; cases e1), ?_, ?_, f e4 (fun z => by rw [z, e2] at e4; cases e4) (fun z => by rw [z, e3] at e4; cases e4), ⟨?_, fun i r g' hi hg => ?_⟩, n1, n2, fun i k v n ws hi hn => ?_⟩
  · have z1 : z ≠ p.lm := fun y => c2 (y ▸ hz)
    have z2 : z ≠ p.ld := fun y => c3 (y ▸ hz)
    rw [upd_ne z2, upd_ne z1]
    exact a z hz
  · rw [upd_ne b, upd_same, List.map_append]
    rfl
  · rw [upd_same, dps_snoc, List.map_append]
    rfl
  · rw [List.length_append, List.length_append, g1]
    rfl
  · by_cases c : i < ps'.length
    · rw [List.getElem?_append_left c] at hi
      rw [List.getElem?_append_left (by omega)] at hg
      have := g2 i r g' hi hg
      exact ⟨this.1, f this.2 (tn this.2).1 (tn this.2).2⟩
    · have i0 : i = ps'.length := by
        have := (List.getElem?_eq_some_iff.mp hi).1
        rw [List.length_append, List.length_cons, List.length_nil] at this
        omega
      rw [List.getElem?_append_right (by omega), i0, Nat.sub_self] at hi
      rw [List.getElem?_append_right (by omega), i0, g1, Nat.sub_self] at hg
      cases hi
      cases hg
      exact ⟨nq, f eq (tn eq).1 (tn eq).2⟩
  · obtain ⟨ek, l, ev, l1, l2, l3, l4⟩ := n3 i k v n ws hi hn
    exact ⟨ek, l, ev, l1, l2, l3, f l4 l2 l3⟩
def spPutG (C : Addr) : Sp := fun vs H Q _ => ∃ (Z : List Addr) (p : NetP) (m : Nat) (gs : List Gt) (nm : List (Str × List Nat)) (q : Addr) (g : Gt), vs = [.ref p.x, .ref q, .int (dep (dps m gs) g)] ∧ NetAt C Z H p m gs nm ∧ H q = some (.tup g.row) ∧ q ∉ Z ∧ m + gs.length ≤ 500000 ∧
  ∀ H', KeepS [p.lm, p.ld] H H' → NetAt C Z H' p m (gs ++ [g]) nm → Q (.int ((m + gs.length : Nat) : Int)) H'
theorem ok_Net_put_gate (B : Bl mg) (L : LL K mg C za zl) : FnOk P w K mg base CX0 1 (za 27) (zl 27) ["self", "gate", "depth"] (spPutG C) := by
  refine L.F_Net_put_gate.ok sc_Net_put_gate (fun vs H Q E h => ?_) (fun cdv A outer s H vs Q E hr h => ?_)
  · obtain ⟨Z, p, m, gs, nm, q, g, rfl, _⟩ := h
    rfl
  obtain ⟨Z, p, m, gs, nm, a, g, rfl, hN, ea, na, hl, q⟩ := h
  refine ⟨_, (pss_cons (ps_expr (pe_bm PySem.F.plainAttrs_list PySem.F.slot_list_append PySem.F.type_list_append mt_append (pe_fld (pv 0) rfl) (pa_cons (pv 1) pa_nil)))
    (pss_cons (ps_expr (pe_bm PySem.F.plainAttrs_list PySem.F.slot_list_append PySem.F.type_list_append mt_append (pe_fld (pv 0) rfl) (pa_cons (pv 2) pa_nil)))
    (pss_one (ps_ret (pe_op op_sub (pe_callB call_len_seq (by rfl) B.len PySem.boot_len (pa_cons (pe_fld (pv 0) rfl) pa_nil)) pe_int))))), ?_⟩
  obtain ⟨hz, b, _, dx, ps, kvs, e1, e2, e3, e4, g0⟩ := id hN
  have lps : ps.length = gs.length := g0.1.1
  have nx : p.x ≠ p.lm := fun z => by rw [z, e2] at e1; cases e1
  have nx' : p.x ≠ p.ld := fun z => by rw [z, e3] at e1; cases e1
  refine ⟨_, rfl, p.x, C, dx, _, _, rfl, e1, L.T.cl, L.T.n_made, rfl, .inl ⟨rfl, _, SqL.of e2⟩, _, rfl, p.lm, _, _, rfl, rfl, e2, by rw [List.length_map]; exact Nat.lt_of_le_of_lt (by omega) (show 500000 < sizeLine by decide), ?_⟩
  have f1 : (upd H p.lm (.lst (ps.map V.ref ++ [.ref a]))) p.x = _ := (upd_ne nx).trans e1
  have f3 : (upd H p.lm (.lst (ps.map V.ref ++ [.ref a]))) p.ld = _ := (upd_ne b.symm).trans e3
  refine ⟨_, rfl, p.x, C, dx, _, _, rfl, f1, L.T.cl, L.T.n_depths, rfl, .inl ⟨rfl, _, SqL.of f3⟩, _, rfl, p.ld, _, _, rfl, rfl, f3, by rw [List.length_map, dps_len]; exact Nat.lt_of_le_of_lt (by omega) (show 500000 < sizeLine by decide), ?_⟩
  have f1' : (upd (upd H p.lm (.lst (ps.map V.ref ++ [.ref a]))) p.ld (.lst ((dps m gs).map V.int ++ [.int (dep (dps m gs) g)]))) p.x = _ := (upd_ne nx').trans f1
  refine ⟨_, rfl, p.x, C, dx, _, _, rfl, f1', L.T.cl, L.T.n_depths, rfl, ?_⟩
  refine ⟨p.ld, _, rfl, .inl (SqL.of upd_same), _, _, rfl, rfl, ?_⟩
  have w := q _ ⟨fun y o e n => ?_, fun y e => ?_⟩ (hN.laid ea na e2)
  · have ev : (((((dps m gs).map V.int ++ [V.int (dep (dps m gs) g)]).length : Nat) : Int) - 1) = ((m + gs.length : Nat) : Int) := by
      rw [List.length_append, List.length_map, dps_len, List.length_cons, List.length_nil]
      omega
    rw [← ev] at w
    exact w
  · simp only [List.mem_cons, List.not_mem_nil, or_false, not_or] at n
    rw [upd_ne n.2, upd_ne n.1]
    exact e
  · exact ((KeepS.upd (S := [p.lm]) (by simp)).2 y e) |> fun h => (KeepS.upd (S := [p.ld]) (by simp)).2 y h
def spFixed (C : Addr) : Sp := fun vs H Q _ => ∃ (Z : List Addr) (p : NetP) (m : Nat) (gs : List Gt) (nm : List (Str × List Nat)) (b : Nat), vs = [.ref p.x, .int (b : Int)] ∧ NetAt C Z H p m gs nm ∧ m + gs.length ≤ 500000 ∧
  ∀ H', KeepS [p.lm, p.ld] H H' → NetAt C Z H' p m (gs ++ [.fi b]) nm → Q (.int ((m + gs.length : Nat) : Int)) H'
theorem ok_Net_fixed (B : Bl mg) (L : LL K mg C za zl) : FnOk P w K mg base CX0 2 (za 25) (zl 25) ["self", "bit"] (spFixed C) := by
  have G_Net_put_gate : FnOk P w K mg base CX0 1 (za 27) (zl 27) ["self", "gate", "depth"] (spPutG C) := (ok_Net_put_gate B L).mono (by decide)
  refine L.F_Net_fixed.ok sc_Net_fixed (fun vs H Q E h => ?_) (fun cdv A outer s H vs Q E hr h => ?_)
  · obtain ⟨Z, p, m, gs, nm, b, rfl, _⟩ := h
    rfl
  obtain ⟨Z, p, m, gs, nm, b, rfl, hN, hl, q⟩ := h
  refine ⟨_, (pss_one (ps_ret (pe_meth (pv 0) L.T.cl L.M_Net_put_gate G_Net_put_gate hr L.b_Net_put_gate .nil pass0 (pa_cons (pe_tup (pa_cons pe_str (pa_cons (pv 1) pa_nil))) (pa_cons pe_int pa_nil))))), ?_⟩
  obtain ⟨hz, _, _, dx, _, _, e1, _⟩ := id hN
  refine ⟨_, rfl, p.x, dx, _, rfl, e1, rfl, _, rfl, (by show 2 ≤ sizeLine; decide), fun a na => ?_⟩
  have sa := same_upd (o := .tup (Gt.fi b).row) na
  refine ⟨Z, p, m, gs, nm, a, .fi b, rfl, hN.same sa, upd_same, fun z => hz a z na, hl, fun H' k N' => q H' (.trans (.ofSame sa) k) N'⟩
def spPut (K : PySem.W.Frag) (C : Addr) : Sp := fun vs H Q _ => ∃ (Z : List Addr) (p : NetP) (m : Nat) (gs : List Gt) (nm : List (Str × List Nat)) (k : Str) (t : Addr) (ws : List Nat), vs = [.ref p.x, .str k, .ref t] ∧ NetAt C Z H p m gs nm ∧ SqT K H t (nts ws) ∧ ws ≠ [] ∧ ws.length ≤ 2 ∧ (∀ a ∈ ws, a < m + gs.length) ∧ m + gs.length ≤ 500000 ∧
  ∀ H', KeepS [p.lm, p.ld] H H' → NetAt C Z H' p m (gs ++ [.w k ws]) nm → Q (.int ((m + gs.length : Nat) : Int)) H'
theorem ok_Net_put (B : Bl mg) (L : LL K mg C za zl) : FnOk P w K mg base CX0 3 (za 26) (zl 26) ["self", "kind", "wires"] (spPut K C) := by
  have G_Net_put_gate : FnOk P w K mg base CX0 2 (za 27) (zl 27) ["self", "gate", "depth"] (spPutG C) := (ok_Net_put_gate B L).mono (by decide)
  have G_Net_need : FnOk P w K mg base CX0 2 (za 28) (zl 28) ["self", "wires"] (spNeed K C) := (ok_Net_need B L).mono (by decide)
  refine L.F_Net_put.ok sc_Net_put (fun vs H Q E h => ?_) (fun cdv A outer s H vs Q E hr h => ?_)
  · obtain ⟨Z, p, m, gs, nm, k, t, ws, rfl, _⟩ := h
    rfl
  obtain ⟨Z, p, m, gs, nm, k, t, ws, rfl, hN, hT, w0, w2, hw, hl, q⟩ := h
  refine ⟨_, (pss_cons (ps_expr (pe_meth (pv 0) L.T.cl L.M_Net_need G_Net_need hr L.b_Net_need .nil pass0 (pa_cons (pv 2) pa_nil)))
    (pss_cons (ps_set (i := 3) sc_Net_put.nd rfl (.inl rfl) (pe_op op_add pe_int (pe_callB (cr_max rfl) (by rfl) B.max boot_max (pa_cons (pe_lc (own := [("wire", 4)]) (by rfl) sc_Net_put.nd (pi_tup (pv 2)) (blkOk_by (own := [("wire", 4)]) (N := ["self", "kind", "wires", "depth", "wire"]) (sc := defScope s_Net_put) (by decide +kernel)) (fun _ _ _ _ _ => pg_name (i := 4) sc_Net_put.nd rfl (Or.inl rfl)) (fun _ _ _ _ _ => pts_nil) (fun _ _ _ _ _ => (pe_ix (ix_listK (K := K)) (pe_fldK (K := K) (pv 0) rfl) (pv 4) (fun _ _ => rfl)))) pa_nil))))
    (pss_one (ps_ret (pe_meth (pv 0) L.T.cl L.M_Net_put_gate G_Net_put_gate hr L.b_Net_put_gate .nil pass0 (pa_cons (pe_tup (pa_cons (pv 1) (StX.pa_star (pv 2) pa_nil))) (pa_cons (pv 3) pa_nil))))))), ?_⟩
  obtain ⟨hz, _, _, dx, _, _, e1, _⟩ := id hN
  refine ⟨_, rfl, p.x, dx, _, rfl, e1, rfl, _, rfl, Z, p, m, gs, nm, t, ws, rfl, hN, .inr hT, hw, fun H1 s1 => ?_⟩
  have N1 := hN.same s1
  obtain ⟨_, _, _, _, ps, kvs, f1, f2, f3, _⟩ := id N1
  have hT1 := Same.seqT s1 hT
  refine ⟨_, rfl, t, rfl, ⟨_, hT1⟩, fun D nD => ?_⟩
  refine lc_it (walk_tup (K := K) (a := t) (xs := nts ws)) (fun i H9 => Same H1 H9 ∧ H9 D = some (.lst ((ws.take i).map fun a => V.int ((dps m gs).getD a 0)))) ⟨same_upd nD, upd_same⟩ (fun i H9 _ ⟨s9, _⟩ => Same.seqT s9 hT1) ?_ ?_
  · rintro j z H9 H10 hj ⟨s9, eD⟩ ⟨rfl, hz⟩
    obtain ⟨a, ha, rfl⟩ := nts_at hz
    have la := hw a (List.mem_of_getElem? ha)
    refine ⟨rfl, yesT ?_⟩
    have e1' := s9 _ _ f1
    have e3' := s9 _ _ f3
    have hat : atI ((dps m gs).map V.int) (a : Int) = some (.int ((dps m gs).getD a 0)) := atI_nat (by
      rw [List.getElem?_map, List.getElem?_eq_getElem (by rw [dps_len]; exact la)]
      simp [List.getD, List.getElem?_eq_getElem (show a < (dps m gs).length by rw [dps_len]; exact la)])
    refine ⟨_, rfl, p.x, C, _, _, _, rfl, e1', L.T.cl, L.T.n_depths, rfl, _, rfl, p.ld, _, _, _, rfl, rfl, SqL.of e3', hat, ?_⟩
    refine ⟨_, eD, ?_, fun y u e => ?_, ?_⟩
    · rw [List.length_map, List.length_take]
      exact Nat.lt_of_le_of_lt (Nat.min_le_right _ _) (small1000 (by omega))
    · rw [upd_ne (ne_of_none e nD)]
      exact s9 _ _ e
    · rw [upd_same, List.take_add_one, ha, List.map_append]
      rfl
  rintro H2 ⟨s2, eD⟩
  rw [nts_len, List.take_length] at eD
  have mx1 : ∀ y ∈ ws.map (fun a => (dps m gs).getD a 0), 0 ≤ y := fun y hy => by
    obtain ⟨a, ha, rfl⟩ := List.mem_map.mp hy
    have la := hw a ha
    have := dps_nn m gs ((dps m gs)[a]'(by rw [dps_len]; exact la)) (List.getElem_mem _)
    simp only [List.getD, List.getElem?_eq_getElem (show a < (dps m gs).length by rw [dps_len]; exact la), Option.getD_some]
    exact this
  refine ⟨D, ws.map (fun a => (dps m gs).getD a 0), rfl, SqL.of (by rw [List.map_map]; exact eD), by rw [List.length_map]; exact List.length_pos_iff.mpr w0, fun M hM hL => ?_⟩
  have eM := mx_is hM hL mx1
  refine ⟨_, _, rfl, rfl, ?_⟩
  try simp only [L2.start, List.map_cons, List.map_nil, List.length_cons, List.length_nil, List.replicate_succ, List.replicate_zero, List.cons_append, List.nil_append, List.set_cons_succ, List.set_cons_zero, Nat.reduceAdd, Nat.reduceSub, Nat.zero_add]
  have e1' := s2 _ _ f1
  have hT2 := Same.seqT s2 hT1
  refine ⟨_, rfl, p.x, _, _, rfl, e1', rfl, ?_⟩
  try simp only [L2.start, List.map_cons, List.map_nil, List.length_cons, List.length_nil, List.replicate_succ, List.replicate_zero, List.cons_append, List.nil_append, List.set_cons_succ, List.set_cons_zero, Nat.reduceAdd, Nat.reduceSub, Nat.zero_add]
  refine ⟨_, rfl, _, rfl, t, _, rfl, .inl hT2, ?_⟩
  dsimp only [tNil]
  rw [List.append_nil]
  refine ⟨by rw [List.length_cons, nts_len]; exact Nat.le_trans (show ws.length + 1 ≤ 3 by omega) (by decide), fun g ng => ?_⟩
  have sg := same_upd (o := .tup (Gt.w k ws).row) ng
  have ed : (1 + M : Int) = dep (dps m gs) (.w k ws) := by
    show _ = 1 + mx _
    rw [eM]
  have N2 := (N1.same s2).same sg
  refine ⟨_, rfl, Z, p, m, gs, nm, g, .w k ws, by rw [ed]; rfl, N2, upd_same, fun z => N1.1 g z (by
    cases e : H1 g with
    | none => rfl
    | some o =>
      rw [s2 _ _ e] at ng
      cases ng), hl, fun H' k' N' => q H' (.trans (.ofSame ((s1.trans s2).trans sg)) k') N'⟩
def spG2 (C : Addr) (k : Str) : Sp := fun vs H Q _ => ∃ (Z : List Addr) (p : NetP) (m : Nat) (gs : List Gt) (nm : List (Str × List Nat)) (a b : Nat), vs = [.ref p.x, .int (a : Int), .int (b : Int)] ∧ NetAt C Z H p m gs nm ∧ a < m + gs.length ∧ b < m + gs.length ∧ m + gs.length ≤ 500000 ∧
  ∀ H', KeepS [p.lm, p.ld] H H' → NetAt C Z H' p m (gs ++ [.w k [a, b]]) nm → Q (.int ((m + gs.length : Nat) : Int)) H'
theorem ok_Net_both (B : Bl mg) (L : LL K mg C za zl) : FnOk P w K mg base CX0 4 (za 21) (zl 21) ["self", "a", "b"] (spG2 C "both") := by
  have G_Net_put : FnOk P w K mg base CX0 3 (za 26) (zl 26) ["self", "kind", "wires"] (spPut K C) := (ok_Net_put B L).mono (by decide)
  refine L.F_Net_both.ok sc_Net_both (fun vs H Q E h => ?_) (fun cdv A outer s H vs Q E hr h => ?_)
  · obtain ⟨Z, p, m, gs, nm, a, b, rfl, _⟩ := h
    rfl
  obtain ⟨Z, p, m, gs, nm, a, b, rfl, hN, ha, hb, hl, q⟩ := h
  refine ⟨_, (pss_one (ps_ret (pe_meth (pv 0) L.T.cl L.M_Net_put G_Net_put hr L.b_Net_put .nil pass0 (pa_cons pe_str (pa_cons (pe_tup (pa_cons (pv 1) (pa_cons (pv 2) pa_nil))) pa_nil))))), ?_⟩
  obtain ⟨hz, _, _, dx, _, _, e1, _⟩ := id hN
  refine ⟨_, rfl, p.x, dx, _, rfl, e1, rfl, _, rfl, _, rfl, (by show 2 ≤ sizeLine; decide), fun t nt => ?_⟩
  have st := same_upd (o := .tup [.int (a : Int), .int (b : Int)]) nt
  refine ⟨Z, p, m, gs, nm, "both", t, [a, b], rfl, hN.same st, .inl (.inl upd_same), (fun z => nomatch z), (Nat.le_of_ble_eq_true rfl), fun x hx => ?_, hl, fun H' k N' => q H' (.trans (.ofSame st) k) N'⟩
  simp only [List.mem_cons, List.not_mem_nil, or_false] at hx
  rcases hx with z | z <;> rw [z] <;> assumption
theorem ok_Net_either (B : Bl mg) (L : LL K mg C za zl) : FnOk P w K mg base CX0 4 (za 22) (zl 22) ["self", "a", "b"] (spG2 C "either") := by
  have G_Net_put : FnOk P w K mg base CX0 3 (za 26) (zl 26) ["self", "kind", "wires"] (spPut K C) := (ok_Net_put B L).mono (by decide)
  refine L.F_Net_either.ok sc_Net_either (fun vs H Q E h => ?_) (fun cdv A outer s H vs Q E hr h => ?_)
  · obtain ⟨Z, p, m, gs, nm, a, b, rfl, _⟩ := h
    rfl
  obtain ⟨Z, p, m, gs, nm, a, b, rfl, hN, ha, hb, hl, q⟩ := h
  refine ⟨_, (pss_one (ps_ret (pe_meth (pv 0) L.T.cl L.M_Net_put G_Net_put hr L.b_Net_put .nil pass0 (pa_cons pe_str (pa_cons (pe_tup (pa_cons (pv 1) (pa_cons (pv 2) pa_nil))) pa_nil))))), ?_⟩
  obtain ⟨hz, _, _, dx, _, _, e1, _⟩ := id hN
  refine ⟨_, rfl, p.x, dx, _, rfl, e1, rfl, _, rfl, _, rfl, (by show 2 ≤ sizeLine; decide), fun t nt => ?_⟩
  have st := same_upd (o := .tup [.int (a : Int), .int (b : Int)]) nt
  refine ⟨Z, p, m, gs, nm, "either", t, [a, b], rfl, hN.same st, .inl (.inl upd_same), (fun z => nomatch z), (Nat.le_of_ble_eq_true rfl), fun x hx => ?_, hl, fun H' k N' => q H' (.trans (.ofSame st) k) N'⟩
  simp only [List.mem_cons, List.not_mem_nil, or_false] at hx
  rcases hx with z | z <;> rw [z] <;> assumption
theorem ok_Net_unlike (B : Bl mg) (L : LL K mg C za zl) : FnOk P w K mg base CX0 4 (za 23) (zl 23) ["self", "a", "b"] (spG2 C "unlike") := by
  have G_Net_put : FnOk P w K mg base CX0 3 (za 26) (zl 26) ["self", "kind", "wires"] (spPut K C) := (ok_Net_put B L).mono (by decide)
  refine L.F_Net_unlike.ok sc_Net_unlike (fun vs H Q E h => ?_) (fun cdv A outer s H vs Q E hr h => ?_)
  · obtain ⟨Z, p, m, gs, nm, a, b, rfl, _⟩ := h
    rfl
  obtain ⟨Z, p, m, gs, nm, a, b, rfl, hN, ha, hb, hl, q⟩ := h
  refine ⟨_, (pss_one (ps_ret (pe_meth (pv 0) L.T.cl L.M_Net_put G_Net_put hr L.b_Net_put .nil pass0 (pa_cons pe_str (pa_cons (pe_tup (pa_cons (pv 1) (pa_cons (pv 2) pa_nil))) pa_nil))))), ?_⟩
  obtain ⟨hz, _, _, dx, _, _, e1, _⟩ := id hN
  refine ⟨_, rfl, p.x, dx, _, rfl, e1, rfl, _, rfl, _, rfl, (by show 2 ≤ sizeLine; decide), fun t nt => ?_⟩
  have st := same_upd (o := .tup [.int (a : Int), .int (b : Int)]) nt
  refine ⟨Z, p, m, gs, nm, "unlike", t, [a, b], rfl, hN.same st, .inl (.inl upd_same), (fun z => nomatch z), (Nat.le_of_ble_eq_true rfl), fun x hx => ?_, hl, fun H' k N' => q H' (.trans (.ofSame st) k) N'⟩
  simp only [List.mem_cons, List.not_mem_nil, or_false] at hx
  rcases hx with z | z <;> rw [z] <;> assumption
def spG1 (C : Addr) : Sp := fun vs H Q _ => ∃ (Z : List Addr) (p : NetP) (m : Nat) (gs : List Gt) (nm : List (Str × List Nat)) (a : Nat), vs = [.ref p.x, .int (a : Int)] ∧ NetAt C Z H p m gs nm ∧ a < m + gs.length ∧ m + gs.length ≤ 500000 ∧
  ∀ H', KeepS [p.lm, p.ld] H H' → NetAt C Z H' p m (gs ++ [.w "other" [a]]) nm → Q (.int ((m + gs.length : Nat) : Int)) H'
theorem ok_Net_other (B : Bl mg) (L : LL K mg C za zl) : FnOk P w K mg base CX0 4 (za 24) (zl 24) ["self", "a"] (spG1 C) := by
  have G_Net_put : FnOk P w K mg base CX0 3 (za 26) (zl 26) ["self", "kind", "wires"] (spPut K C) := (ok_Net_put B L).mono (by decide)
  refine L.F_Net_other.ok sc_Net_other (fun vs H Q E h => ?_) (fun cdv A outer s H vs Q E hr h => ?_)
  · obtain ⟨Z, p, m, gs, nm, a, rfl, _⟩ := h
    rfl
  obtain ⟨Z, p, m, gs, nm, a, rfl, hN, ha, hl, q⟩ := h
  refine ⟨_, (pss_one (ps_ret (pe_meth (pv 0) L.T.cl L.M_Net_put G_Net_put hr L.b_Net_put .nil pass0 (pa_cons pe_str (pa_cons (pe_tup (pa_cons (pv 1) pa_nil)) pa_nil))))), ?_⟩
  obtain ⟨hz, _, _, dx, _, _, e1, _⟩ := id hN
  refine ⟨_, rfl, p.x, dx, _, rfl, e1, rfl, _, rfl, (by show 1 ≤ sizeLine; decide), fun t nt => ?_⟩
  have st := same_upd (o := .tup [.int (a : Int)]) nt
  refine ⟨Z, p, m, gs, nm, "other", t, [a], rfl, hN.same st, .inl (.inl upd_same), (fun z => nomatch z), (Nat.le_of_ble_eq_true rfl), fun x hx => ?_, hl, fun H' k N' => q H' (.trans (.ofSame st) k) N'⟩
  rw [List.mem_singleton.mp hx]
  exact ha
end
section
variable {P : Program} {w : World} {K : PySem.W.Frag} {mg : Str → Option Value} {base : Heap}
variable {C : Addr} {za : Nat → Addr} {zl : Nat → FuncData}
/-! ### names of a net -/
theorem NmAt.keys {Z : List Addr} {H : Hp} {p : NetP} {kvs : List (Key × V)} {nm : List (Str × List Nat)} (h : NmAt Z H p kvs nm) : kvs.map (·.1) = nm.map fun x => (Sum.inr x.1 : Key) := by
  obtain ⟨h1, h2, h3⟩ := h
  refine List.ext_getElem? fun i => ?_
  rw [List.getElem?_map, List.getElem?_map]
  by_cases c : i < kvs.length
  · have c' : i < nm.length := by omega
    rw [List.getElem?_eq_getElem c, List.getElem?_eq_getElem c']
    have := (h3 i kvs[i].1 kvs[i].2 nm[i].1 nm[i].2 (List.getElem?_eq_getElem c) (List.getElem?_eq_getElem c')).1
    show some kvs[i].1 = some _
    rw [this]
  · rw [List.getElem?_eq_none (by omega), List.getElem?_eq_none (by omega)]
    rfl
theorem valV_out {kvs : List (Key × V)} {k : Key} (h : k ∉ kvs.map (·.1)) : valV kvs k = none := by
  have e := valV_any k kvs
  cases q : valV kvs k with
  | none => rfl
  | some v =>
    rw [q] at e
    obtain ⟨x, hx, hd⟩ := List.any_eq_true.mp e
    exact absurd (List.mem_map.mpr ⟨x, hx, of_decide_eq_true hd⟩) h
theorem valV_at : ∀ {kvs : List (Key × V)} {i : Nat} {k : Key} {v : V}, (kvs.map (·.1)).Nodup → kvs[i]? = some (k, v) → valV kvs k = some v
  | [], i, k, v, _, h => by simp at h
  | q :: kvs, 0, k, v, _, h => by
    cases Option.some.inj h
    exact valV_pos rfl
  | q :: kvs, i + 1, k, v, hn, h => by
    rw [List.map_cons, List.nodup_cons] at hn
    have h' : kvs[i]? = some (k, v) := h
    have : k ∈ kvs.map (·.1) := List.mem_map.mpr ⟨_, List.mem_of_getElem? h', rfl⟩
    rw [valV_neg (fun z => hn.1 (z ▸ this))]
    exact valV_at hn.2 h'
theorem NmAt.nodup {Z : List Addr} {H : Hp} {p : NetP} {kvs : List (Key × V)} {nm : List (Str × List Nat)} (h : NmAt Z H p kvs nm) : (kvs.map (·.1)).Nodup := by
  rw [h.keys]
  have := h.2.1
  rw [show (nm.map fun x => (Sum.inr x.1 : Key)) = (nm.map (·.1)).map Sum.inr from by rw [List.map_map]; rfl]
  exact List.Pairwise.map _ (fun a b n z => n (Sum.inr.inj z)) this
theorem NmAt.out {Z : List Addr} {H : Hp} {p : NetP} {kvs : List (Key × V)} {nm : List (Str × List Nat)} {n : Str} (h : NmAt Z H p kvs nm) (hn : n ∉ nm.map (·.1)) : valV kvs (.inr n) = none := by
  refine valV_out ?_
  rw [h.keys]
  intro z
  obtain ⟨x, hx, e⟩ := List.mem_map.mp z
  exact hn (List.mem_map.mpr ⟨x, hx, Sum.inr.inj e⟩)
theorem NmAt.in_ {Z : List Addr} {H : Hp} {p : NetP} {kvs : List (Key × V)} {nm : List (Str × List Nat)} {i : Nat} {n : Str} {ws : List Nat} (h : NmAt Z H p kvs nm) (hn : nm[i]? = some (n, ws)) : ∃ l, valV kvs (.inr n) = some (.ref l) ∧ H l = some (.lst (nts ws)) := by
  have c : i < kvs.length := by
    have := (List.getElem?_eq_some_iff.mp hn).1
    rw [h.1]
    exact this
  obtain ⟨ek, l, ev, _, _, _, el⟩ := h.2.2 i kvs[i].1 kvs[i].2 n ws (List.getElem?_eq_getElem c) hn
  refine ⟨l, ?_, el⟩
  rw [← ev, ← ek]
  exact valV_at h.nodup (List.getElem?_eq_getElem c)
def spGive (K : PySem.W.Frag) (C : Addr) : Sp := fun vs H Q _ => ∃ (Z : List Addr) (p : NetP) (m : Nat) (gs : List Gt) (nm : List (Str × List Nat)) (n : Str) (t : Addr) (ws : List Nat), vs = [.ref p.x, .str n, .ref t] ∧ NetAt C Z H p m gs nm ∧ n ∉ nm.map (·.1) ∧ (SqL K H t (nts ws) ∨ SqT K H t (nts ws)) ∧ (∀ a ∈ ws, a < m + gs.length) ∧ nm.length ≤ 900 ∧
  ∀ H', KeepS [p.dn] H H' → NetAt C Z H' p m gs (nm ++ [(n, ws)]) → Q .non H'
theorem ok_Net_give (B : Bl mg) (L : LL K mg C za zl) : FnOk P w K mg base CX0 2 (za 29) (zl 29) ["self", "name", "wires"] (spGive K C) := by
  have G_Net_need : FnOk P w K mg base CX0 1 (za 28) (zl 28) ["self", "wires"] (spNeed K C) := (ok_Net_need B L).mono (by decide)
  refine L.F_Net_give.ok sc_Net_give (fun vs H Q E h => ?_) (fun cdv A outer s H vs Q E hr h => ?_)
  · obtain ⟨Z, p, m, gs, nm, n, t, ws, rfl, _⟩ := h
    rfl
  obtain ⟨Z, p, m, gs, nm, n, t, ws, rfl, hN, hn, hT, hw, hl, q⟩ := h
  refine ⟨_, (pss_cons (ps_if (pt_cmp (pc_din (units1 hr) (pv 1) (pe_fld (pv 0) rfl)) (by rfl)) (pss_one ps_never) pss_nil)
    (pss_cons (ps_expr (pe_meth (pv 0) L.T.cl L.M_Net_need G_Net_need hr L.b_Net_need .nil pass0 (pa_cons (pv 2) pa_nil)))
    (pss_one (ps_dput (units1 hr) (pe_fld (pv 0) rfl) (pv 1) (pe_callTy call_list_of (by rfl) B.list PyProof.Rows.boot_list (pa_cons (pv 2) pa_nil)) rfl)))), ?_⟩
  obtain ⟨hz, hb, _, dx, ps, kvs, e1, e2, e3, e4, g0, n0⟩ := id hN
  refine ⟨_, rfl, _, rfl, p.x, C, dx, _, _, rfl, e1, L.T.cl, L.T.n_by_name, rfl, p.dn, _, rfl, DGet.k (k := .inr n) e4, ?_⟩
  rw [n0.out hn]
  refine ⟨_, rfl, iteF ?_⟩
  dsimp only [tNext]
  refine ⟨_, rfl, p.x, dx, _, rfl, e1, rfl, _, rfl, Z, p, m, gs, nm, t, ws, rfl, hN, hT, hw, fun H1 s1 => ?_⟩
  have N1 := hN.same s1
  obtain ⟨_, _, ⟨c1, c2, c3, c4⟩, dx1, ps1, kvs1, f1, f2, f3, f4, g1, n1⟩ := id N1
  have hT1 : SqL K H1 t (nts ws) ∨ SqT K H1 t (nts ws) := hT.elim (fun y => .inl (s1.seq y)) (fun y => .inr (Same.seqT s1 y))
  refine ⟨_, rfl, t, _, rfl, hT1, fun l nl => ?_⟩
  have sl := same_upd (o := .lst (nts ws)) nl
  refine ⟨_, rfl, p.x, C, dx1, _, _, rfl, sl _ _ f1, L.T.cl, L.T.n_by_name, rfl, _, rfl, p.dn, _, rfl, DPut.k (k := .inr n) (sl _ _ f4) (by rw [n1.1]; exact Nat.lt_of_le_of_lt hl (by decide)), ?_⟩
  rw [putK_new _ (n1.out hn)]
  have nlZ : l ∉ Z := fun z => N1.1 l z nl
  have nlm : l ≠ p.lm := (ne_of_none f2 nl).symm
  have nld : l ≠ p.ld := (ne_of_none f3 nl).symm
  have nln : l ≠ p.dn := (ne_of_none f4 nl).symm
  have N2 := N1.same sl
  have k2 : KeepS [p.dn] (upd H1 l (.lst (nts ws))) (upd (upd H1 l (.lst (nts ws))) p.dn (.dK (kvs1 ++ [(.inr n, .ref l)]))) := .upd (by simp)
  refine q _ ((KeepS.ofSame (s1.trans sl)).trans k2) ?_
  have fr : ∀ {y : Addr} {o : HO}, (upd H1 l (.lst (nts ws))) y = some o → y ≠ p.dn → (upd (upd H1 l (.lst (nts ws))) p.dn (.dK (kvs1 ++ [(.inr n, .ref l)]))) y = some o := fun e z => by
    rw [upd_ne z]
    exact e
  have g4 := sl _ _ f4
  refine ⟨fun z hz' => k2.2 z (N2.1 z hz'), hb, ⟨c1, c2, c3, c4⟩, dx1, ps1, kvs1 ++ [(.inr n, .ref l)], fr (sl _ _ f1) (fun z => by rw [z, f4] at f1; cases f1), fr (sl _ _ f2) (fun z => by rw [z, f4] at f2; cases f2), fr (sl _ _ f3) (fun z => by rw [z, f4] at f3; cases f3), upd_same, ⟨g1.1, fun i r g' hi hg => ?_⟩, ?_⟩
  · have := g1.2 i r g' hi hg
    exact ⟨this.1, fr (sl _ _ this.2) (fun z => by
      have := this.2
      rw [z, f4] at this
      cases this)⟩
  · refine ⟨by rw [List.length_append, List.length_append, n1.1]; rfl, ?_, fun i k v n' ws' hi hn' => ?_⟩
    · rw [List.map_append, List.nodup_append]
      refine ⟨n1.2.1, by simp, fun a ha b hb' => ?_⟩
      have hb' : b = n := by simpa using hb'
      rw [hb']
      exact fun z => hn (z ▸ ha)
    · by_cases c : i < kvs1.length
      · rw [List.getElem?_append_left c] at hi
        rw [List.getElem?_append_left (by rw [← n1.1]; exact c)] at hn'
        obtain ⟨ek, l', ev, l1, l2, l3, l4⟩ := n1.2.2 i k v n' ws' hi hn'
        exact ⟨ek, l', ev, l1, l2, l3, fr (sl _ _ l4) (fun z => by rw [z, f4] at l4; cases l4)⟩
      · have i0 : i = kvs1.length := by
          have := (List.getElem?_eq_some_iff.mp hi).1
          rw [List.length_append, List.length_cons, List.length_nil] at this
          omega
        rw [List.getElem?_append_right (by omega), i0, Nat.sub_self] at hi
        rw [List.getElem?_append_right (by rw [i0, n1.1]; exact Nat.le_refl _), i0, n1.1, Nat.sub_self] at hn'
        cases hi
        cases hn'
        exact ⟨rfl, l, rfl, nlZ, nlm, nld, fr upd_same nln⟩
def spGiven (C : Addr) : Sp := fun vs H Q _ => ∃ (Z : List Addr) (p : NetP) (m : Nat) (gs : List Gt) (nm : List (Str × List Nat)) (i : Nat) (n : Str) (ws : List Nat), vs = [.ref p.x, .str n] ∧ NetAt C Z H p m gs nm ∧ nm[i]? = some (n, ws) ∧
  ∀ t, H t = none → Q (.ref t) (upd H t (.lst (nts ws)))
theorem ok_Net_given (B : Bl mg) (L : LL K mg C za zl) : FnOk P w K mg base CX0 1 (za 30) (zl 30) ["self", "name"] (spGiven C) := by
  refine L.F_Net_given.ok sc_Net_given (fun vs H Q E h => ?_) (fun cdv A outer s H vs Q E hr h => ?_)
  · obtain ⟨Z, p, m, gs, nm, i, n, ws, rfl, _⟩ := h
    rfl
  obtain ⟨Z, p, m, gs, nm, i, n, ws, rfl, hN, hn, q⟩ := h
  refine ⟨_, (pss_cons (ps_if (pt_cmp (pc_dnotin (units1 hr) (pv 1) (pe_fld (pv 0) rfl)) (by rfl)) (pss_one ps_never) pss_nil)
    (pss_one (ps_ret (pe_callTy call_list_of (by rfl) B.list PyProof.Rows.boot_list (pa_cons (pe_dget (units1 hr) (pe_fld (pv 0) rfl) (pv 1) (fun _ _ => rfl)) pa_nil))))), ?_⟩
  obtain ⟨hz, hb, _, dx, ps, kvs, e1, e2, e3, e4, g0, n0⟩ := id hN
  obtain ⟨l, ev, el⟩ := n0.in_ hn
  refine ⟨_, rfl, _, rfl, p.x, C, dx, _, _, rfl, e1, L.T.cl, L.T.n_by_name, rfl, p.dn, _, rfl, DGet.k (k := .inr n) e4, ?_⟩
  rw [ev]
  refine ⟨_, rfl, iteF ?_⟩
  dsimp only [tNext]
  refine ⟨_, rfl, p.x, C, dx, _, _, rfl, e1, L.T.cl, L.T.n_by_name, rfl, _, rfl, p.dn, .ref l, rfl, ?_, ?_⟩
  · rw [← ev]
    exact DGet.k (k := .inr n) e4
  exact ⟨l, _, rfl, .inl (SqL.of el), fun t nt => q t nt⟩
def spNames (C : Addr) : Sp := fun vs H Q _ => ∃ (Z : List Addr) (p : NetP) (m : Nat) (gs : List Gt) (nm : List (Str × List Nat)), vs = [.ref p.x] ∧ NetAt C Z H p m gs nm ∧ nm.length < 64 ∧
  ∀ (ys : List Str) (t : Addr) (H' : Hp), ys.Perm (nm.map (·.1)) → sortedS ys = true → Same H H' → H t = none → H' t = some (.lst (ys.map V.str)) → Q (.ref t) H'
theorem ok_Net_names (B : Bl mg) (L : LL K mg C za zl) : FnOk P w K mg base CX0 1 (za 31) (zl 31) ["self"] (spNames C) := by
  refine L.F_Net_names.ok sc_Net_names (fun vs H Q E h => ?_) (fun cdv A outer s H vs Q E hr h => ?_)
  · obtain ⟨Z, p, m, gs, nm, rfl, _⟩ := h
    rfl
  obtain ⟨Z, p, m, gs, nm, rfl, hN, hl, q⟩ := h
  refine ⟨_, (pss_one (ps_ret (pe_callB cr_sortedS (by rfl) L.z_sorted boot_sorted (pa_cons (pe_callTy (call_listD rfl) (by rfl) B.list PyProof.Rows.boot_list (pa_cons (pe_fld (pv 0) rfl) pa_nil)) pa_nil)))), ?_⟩
  obtain ⟨hz, hb, _, dx, ps, kvs, e1, e2, e3, e4, g0, n0⟩ := id hN
  refine ⟨_, rfl, p.x, C, dx, _, _, rfl, e1, L.T.cl, L.T.n_by_name, rfl, p.dn, kvs, rfl, .inl e4, fun l nl => ?_⟩
  have ek : (kvs.map fun kv => kV kv.1) = (nm.map (·.1)).map V.str := by
    rw [show (kvs.map fun kv => kV kv.1) = (kvs.map (·.1)).map kV from by rw [List.map_map]; rfl, n0.keys, List.map_map, List.map_map]
    rfl
  rw [ek]
  have sl := same_upd (o := .lst ((nm.map (·.1)).map V.str)) nl
  refine ⟨l, _, rfl, SqL.of upd_same, by rw [List.length_map]; exact hl, fun ys t hp hs nt => ?_⟩
  refine q ys t _ hp hs (sl.trans (same_upd nt)) ?_ upd_same
  cases e : H t with
  | none => rfl
  | some o =>
    rw [sl _ _ e] at nt
    cases nt
def spGates (C : Addr) : Sp := fun vs H Q _ => ∃ (Z : List Addr) (p : NetP) (m : Nat) (gs : List Gt) (nm : List (Str × List Nat)), vs = [.ref p.x] ∧ NetAt C Z H p m gs nm ∧
  ∀ (t : Addr) (ps : List Addr) , H t = none → ps.length = gs.length → (∀ (i : Nat) (r : Addr) (g : Gt), ps[i]? = some r → gs[i]? = some g → H r = some (.tup g.row)) → Q (.ref t) (upd H t (.lst (ps.map V.ref)))
theorem ok_Net_gates (B : Bl mg) (L : LL K mg C za zl) : FnOk P w K mg base CX0 1 (za 32) (zl 32) ["self"] (spGates C) := by
  refine L.F_Net_gates.ok sc_Net_gates (fun vs H Q E h => ?_) (fun cdv A outer s H vs Q E hr h => ?_)
  · obtain ⟨Z, p, m, gs, nm, rfl, _⟩ := h
    rfl
  obtain ⟨Z, p, m, gs, nm, rfl, hN, q⟩ := h
  refine ⟨_, (pss_one (ps_ret (pe_callTy call_list_of (by rfl) B.list PyProof.Rows.boot_list (pa_cons (pe_fld (pv 0) rfl) pa_nil)))), ?_⟩
  obtain ⟨hz, hb, _, dx, ps, kvs, e1, e2, e3, e4, g0, n0⟩ := id hN
  exact ⟨_, rfl, p.x, C, dx, _, _, rfl, e1, L.T.cl, L.T.n_made, rfl, p.lm, _, rfl, .inl (SqL.of e2), fun t nt => q t ps nt g0.1 (fun i r g hi hg => (g0.2 i r g hi hg).2)⟩
end
section
variable {P : Program} {w : World} {K : PySem.W.Frag} {mg : Str → Option Value} {base : Heap}
variable {C : Addr} {za : Nat → Addr} {zl : Nat → FuncData}
/-! ### signs of gates -/
def turnS (a : Nat) : Nat := if a = 45 then 45 else if a = 48 then 49 else 48
def ruS (a b r : Nat) : Nat := if a = r ∨ b = r then r else if a = 45 ∨ b = 45 then 45 else a
def unS (a b : Nat) : Nat := if a = 45 ∨ b = 45 then 45 else if a = b then 48 else 49
def gsw (a b : Nat) (k : Str) : Nat := if k = "other" then turnS a else if k = "both" then ruS a b 48 else if k = "either" then ruS a b 49 else unS a b
def gsg (ss : List Nat) : Gt → Nat
  | .w k ws => gsw (ss.getD (ws.getD 0 0) 0) (ss.getD (ws.getD 1 0) 0) k
  | .fi b => if b = 1 then 49 else 48
def ssV (ss : List Nat) : List V := ss.map fun c => V.str (SX.S [c])
theorem d48 (a : Nat) : decide (V.str (SX.S [a]) = V.str (Str.ofString "0")) = decide (a = 48) := by
  rw [show Str.ofString "0" = SX.S [48] by decide +kernel]
  exact dS1 a 48
theorem in2 (x a b : Nat) : inV (.str (SX.S [x])) [.str (SX.S [a]), .str (SX.S [b])] = decide (a = x ∨ b = x) := by
  apply Bool.eq_iff_iff.mpr
  rw [show ([.str (SX.S [a]), .str (SX.S [b])] : List V) = ([SX.S [a], SX.S [b]] : List Str).map V.str from rfl, in_strs, decide_eq_true_iff, List.mem_cons, List.mem_singleton]
  exact ⟨fun z => z.imp (fun e => (S1_inj e).symm) (fun e => (S1_inj e).symm), fun z => z.imp (fun e => by rw [e]) (fun e => by rw [e])⟩
def spTurnS : Sp := fun vs H Q _ => ∃ a : Nat, vs = [.str (SX.S [a])] ∧ Q (.str (SX.S [turnS a])) H
theorem ok_turned_sign (B : Bl mg) (L : LL K mg C za zl) : FnOk P w K mg base CX0 1 (za 3) (zl 3) ["sign"] spTurnS := by
  refine L.F_turned_sign.ok sc_turned_sign (fun vs H Q E h => ?_) (fun cdv A outer s H vs Q E hr h => ?_)
  · obtain ⟨a, rfl, _⟩ := h
    rfl
  obtain ⟨a, rfl, q⟩ := h
  refine ⟨_, (pss_cons (ps_if (pt_cmpR op_eq (pv 0) pe_str (nomark _)) (pss_one (ps_ret pe_str)) pss_nil)
    (pss_one (ps_ret (pe_ifExp (pt_cmpR op_eq (pv 0) pe_str (nomark _)) pe_str pe_str)))), ?_⟩
  unfold turnS at q
  refine ⟨_, rfl, rfl, _, rfl, ite2 (fun z => ?_) (fun z => ?_)⟩
  · rw [dM] at z
    rw [if_pos (of_decide_eq_true z)] at q
    rw [mns]
    exact q
  · rw [dM] at z
    rw [if_neg (fun y => z (decide_eq_true y))] at q
    dsimp only [tNext]
    refine ⟨_, rfl, rfl, _, rfl, ite2 (fun y => ?_) (fun y => ?_)⟩
    · rw [d48] at y
      rw [if_pos (of_decide_eq_true y)] at q
      exact q
    · rw [d48] at y
      rw [if_neg (fun x => y (decide_eq_true x))] at q
      exact q
def spRuled : Sp := fun vs H Q _ => ∃ a b r : Nat, vs = [.str (SX.S [a]), .str (SX.S [b]), .str (SX.S [r])] ∧ ∀ H', Same H H' → Q (.str (SX.S [ruS a b r])) H'
theorem ok_ruled_sign (B : Bl mg) (L : LL K mg C za zl) : FnOk P w K mg base CX0 1 (za 4) (zl 4) ["one", "other", "ruling"] spRuled := by
  refine L.F_ruled_sign.ok sc_ruled_sign (fun vs H Q E h => ?_) (fun cdv A outer s H vs Q E hr h => ?_)
  · obtain ⟨a, b, r, rfl, _⟩ := h
    rfl
  obtain ⟨a, b, r, rfl, q⟩ := h
  refine ⟨_, (pss_cons (ps_if (pt_cmpR op_in_seq (pv 2) (pe_tup (pa_cons (pv 0) (pa_cons (pv 1) pa_nil))) (by rfl)) (pss_one (ps_ret (pv 2))) pss_nil)
    (pss_one (ps_ret (pe_ifExp (pt_cmpR op_in_seq pe_str (pe_tup (pa_cons (pv 0) (pa_cons (pv 1) pa_nil))) (by rfl)) pe_str (pv 0))))), ?_⟩
  unfold ruS at q
  refine ⟨_, rfl, _, rfl, _, rfl, (by show 2 ≤ sizeLine; decide), fun T nT => ?_⟩
  have sT := same_upd (o := .tup [.str (SX.S [a]), .str (SX.S [b])]) nT
  refine ⟨T, _, rfl, .inr (.inl (.inl upd_same)), rfl, rfl, ?_⟩
  refine ⟨_, rfl, ite2 (fun z => ?_) (fun z => ?_)⟩
  · have z := of_decide_eq_true ((in2 r a b).symm.trans z)
    rw [if_pos z] at q
    exact ⟨_, rfl, q _ sT⟩
  have z := of_decide_eq_false ((in2 r a b).symm.trans (Bool.eq_false_iff.mpr z))
  rw [if_neg z] at q
  dsimp only [tNext]
  refine ⟨_, rfl, _, rfl, (by show 2 ≤ sizeLine; decide), fun T2 nT2 => ?_⟩
  have sT2 := same_upd (o := .tup [.str (SX.S [a]), .str (SX.S [b])]) nT2
  refine ⟨T2, _, rfl, .inr (.inl (.inl upd_same)), rfl, rfl, ?_⟩
  rw [mns]
  refine ⟨_, rfl, ite2 (fun y => ?_) (fun y => ?_)⟩
  · have y := of_decide_eq_true ((in2 45 a b).symm.trans y)
    rw [if_pos y] at q
    exact q _ (sT.trans sT2)
  · have y := of_decide_eq_false ((in2 45 a b).symm.trans (Bool.eq_false_iff.mpr y))
    rw [if_neg y] at q
    exact ⟨_, rfl, q _ (sT.trans sT2)⟩
def spGateS : Sp := fun vs H Q _ => ∃ (g sl : Addr) (gt : Gt) (ss : List Nat), vs = [.ref g, .ref sl] ∧ H g = some (.tup gt.row) ∧ H sl = some (.lst (ssV ss)) ∧ gt.ok ss.length ∧ ∀ H', Same H H' → Q (.str (SX.S [gsg ss gt])) H'
theorem at_getS {ss : List Nat} {a : Nat} (h : a < ss.length) : atI (ssV ss) (a : Int) = some (.str (SX.S [ss.getD a 0])) := atI_nat (by
  unfold ssV
  rw [List.getElem?_map, List.getElem?_eq_getElem h]
  simp [List.getD, List.getElem?_eq_getElem h])
theorem ok_gate_sign (B : Bl mg) (L : LL K mg C za zl) : FnOk P w K mg base CX0 2 (za 2) (zl 2) ["gate", "signs"] spGateS := by
  have G_turned_sign : FnOk P w K mg base CX0 1 (za 3) (zl 3) ["sign"] spTurnS := (ok_turned_sign B L).mono (by decide)
  have G_ruled_sign : FnOk P w K mg base CX0 1 (za 4) (zl 4) ["one", "other", "ruling"] spRuled := (ok_ruled_sign B L).mono (by decide)
  refine L.F_gate_sign.ok sc_gate_sign (fun vs H Q E h => ?_) (fun cdv A outer s H vs Q E hr h => ?_)
  · obtain ⟨g, sl, gt, ss, rfl, _⟩ := h
    rfl
  obtain ⟨g, sl, gt, ss, rfl, eg, es, ok, q⟩ := h
  refine ⟨_, (pss_cons (ps_set (i := 2) sc_gate_sign.nd rfl (.inl rfl) (pe_ix ix_tup (pv 0) pe_int (fun _ _ => rfl)))
    (pss_cons (ps_if (pt_cmpR op_eq (pv 2) pe_str (nomark _)) (pss_one (ps_ret (pe_ifExp (pt_cmpR op_eq (pe_ix ix_tup (pv 0) pe_int (fun _ _ => rfl)) pe_int (nomark _)) pe_str pe_str))) pss_nil)
    (pss_cons (ps_set (i := 3) sc_gate_sign.nd rfl (.inl rfl) (pe_ix ix_list (pv 1) (pe_ix ix_tup (pv 0) pe_int (fun _ _ => rfl)) (fun _ _ => rfl)))
    (pss_cons (ps_if (pt_cmpR op_eq (pv 2) pe_str (nomark _)) (pss_one (ps_ret (pe_call G_turned_sign hr (by rfl) L.m_turned_sign L.F_turned_sign.kp L.b_turned_sign .nil pass0 (pa_cons (pv 3) pa_nil)))) pss_nil)
    (pss_cons (ps_set (i := 4) sc_gate_sign.nd rfl (.inl rfl) (pe_ix ix_list (pv 1) (pe_ix ix_tup (pv 0) pe_int (fun _ _ => rfl)) (fun _ _ => rfl)))
    (pss_cons (ps_if (pt_cmpR op_eq (pv 2) pe_str (nomark _)) (pss_one (ps_ret (pe_call G_ruled_sign hr (by rfl) L.m_ruled_sign L.F_ruled_sign.kp L.b_ruled_sign .nil pass0 (pa_cons (pv 3) (pa_cons (pv 4) (pa_cons pe_str pa_nil)))))) pss_nil)
    (pss_cons (ps_if (pt_cmpR op_eq (pv 2) pe_str (nomark _)) (pss_one (ps_ret (pe_call G_ruled_sign hr (by rfl) L.m_ruled_sign L.F_ruled_sign.kp L.b_ruled_sign .nil pass0 (pa_cons (pv 3) (pa_cons (pv 4) (pa_cons pe_str pa_nil)))))) pss_nil)
    (pss_cons (ps_if (pt_cmpR op_in_seq pe_str (pe_tup (pa_cons (pv 3) (pa_cons (pv 4) pa_nil))) (by rfl)) (pss_one (ps_ret pe_str)) pss_nil)
    (pss_one (ps_ret (pe_ifExp (pt_cmpR op_eq (pv 3) (pv 4) (nomark _)) pe_str pe_str))))))))))), ?_⟩
  have nS : ∀ {x y : Str}, ¬ x = y → ¬ decide (V.str x = V.str y) = true := fun h z => h (V.str.inj (of_decide_eq_true z))
  cases gt with
  | fi b =>
    refine ⟨_, rfl, g, _, _, _, rfl, rfl, .inl (.inl eg), rfl, ?_⟩
    try simp only [L2.start, List.map_cons, List.map_nil, List.length_cons, List.length_nil, List.replicate_succ, List.replicate_zero, List.cons_append, List.nil_append, List.set_cons_succ, List.set_cons_zero, Nat.reduceAdd, Nat.reduceSub, Nat.zero_add]
    dsimp only [gName]
    try simp only [L2.start, List.map_cons, List.map_nil, List.length_cons, List.length_nil, List.replicate_succ, List.replicate_zero, List.cons_append, List.nil_append, List.set_cons_succ, List.set_cons_zero, Nat.reduceAdd, Nat.reduceSub, Nat.zero_add]
    refine ⟨_, rfl, rfl, _, rfl, ite2 (fun _ => ?_) (fun z => absurd (decide_eq_true rfl) z)⟩
    refine ⟨_, rfl, g, _, _, _, rfl, rfl, .inl (.inl eg), rfl, rfl, _, rfl, ite2 (fun z => ?_) (fun z => ?_)⟩
    · have e : (b : Int) = 1 := V.int.inj (of_decide_eq_true z)
      have q : Q (.str (SX.S [if b = 1 then 49 else 48])) H := q H (Same.refl _)
      rw [if_pos (by omega)] at q
      exact q
    · have e : ¬ (b : Int) = 1 := fun y => z (decide_eq_true (congrArg V.int y))
      have q : Q (.str (SX.S [if b = 1 then 49 else 48])) H := q H (Same.refl _)
      rw [if_neg (by omega)] at q
      exact q
  | w k l =>
    have q : ∀ H', Same H H' → Q (.str (SX.S [gsw (ss.getD (l.getD 0 0) 0) (ss.getD (l.getD 1 0) 0) k])) H' := q
    have nf : ¬ k = "fixed" := by
      rcases ok.1 with ⟨z | z | z, _⟩ | ⟨z, _⟩ <;> rw [z] <;> decide +kernel
    have l0 : 0 < l.length := by
      rcases ok.1 with ⟨_, z⟩ | ⟨_, z⟩ <;> omega
    have ea : (Gt.w k l).row[1]? = some (.int ((l.getD 0 0 : Nat) : Int)) := by
      match l, l0 with
      | a :: l, _ => rfl
    have la : l.getD 0 0 < ss.length := by
      match l, l0, ok with
      | a :: l, _, ok => exact ok.2 a (by simp)
    refine ⟨_, rfl, g, _, _, _, rfl, rfl, .inl (.inl eg), (show atI (Gt.w k l).row 0 = some (.str k) from atI_nat (j := 0) rfl), ?_⟩
    try simp only [L2.start, List.map_cons, List.map_nil, List.length_cons, List.length_nil, List.replicate_succ, List.replicate_zero, List.cons_append, List.nil_append, List.set_cons_succ, List.set_cons_zero, Nat.reduceAdd, Nat.reduceSub, Nat.zero_add]
    dsimp only [gName]
    try simp only [L2.start, List.map_cons, List.map_nil, List.length_cons, List.length_nil, List.replicate_succ, List.replicate_zero, List.cons_append, List.nil_append, List.set_cons_succ, List.set_cons_zero, Nat.reduceAdd, Nat.reduceSub, Nat.zero_add]
    refine ⟨_, rfl, rfl, _, rfl, ite2 (fun z => absurd z (nS nf)) (fun _ => ?_)⟩
    dsimp only [tNext]
    refine ⟨_, rfl, _, rfl, g, _, _, _, rfl, rfl, .inl (.inl eg), (atI_nat (j := 1) ea), sl, _, _, _, rfl, rfl, SqL.of es, at_getS la, ?_⟩
    try simp only [L2.start, List.map_cons, List.map_nil, List.length_cons, List.length_nil, List.replicate_succ, List.replicate_zero, List.cons_append, List.nil_append, List.set_cons_succ, List.set_cons_zero, Nat.reduceAdd, Nat.reduceSub, Nat.zero_add]
    dsimp only [gName]
    try simp only [L2.start, List.map_cons, List.map_nil, List.length_cons, List.length_nil, List.replicate_succ, List.replicate_zero, List.cons_append, List.nil_append, List.set_cons_succ, List.set_cons_zero, Nat.reduceAdd, Nat.reduceSub, Nat.zero_add]
    unfold gsw at q
    generalize ss.getD (l.getD 0 0) 0 = x at *
    refine ⟨_, rfl, rfl, _, rfl, ite2 (fun z => ?_) (fun z => ?_)⟩
    · rw [if_pos (V.str.inj (of_decide_eq_true z))] at q
      exact ⟨_, rfl, x, rfl, q H (Same.refl _)⟩
    have no : ¬ k = "other" := fun y => z (decide_eq_true (congrArg V.str y))
    rw [if_neg no] at q
    dsimp only [tNext]
    have l2 : l.length = 2 := by
      rcases ok.1 with ⟨_, z⟩ | ⟨z, _⟩
      · exact z
      · exact absurd z no
    have eb : (Gt.w k l).row[2]? = some (.int ((l.getD 1 0 : Nat) : Int)) := by
      match l, l2 with
      | [a, b], _ => rfl
    have lb : l.getD 1 0 < ss.length := by
      match l, l2, ok with
      | [a, b], _, ok => exact ok.2 b (by simp)
    refine ⟨_, rfl, _, rfl, g, _, _, _, rfl, rfl, .inl (.inl eg), (atI_nat (j := 2) eb), sl, _, _, _, rfl, rfl, SqL.of es, at_getS lb, ?_⟩
    try simp only [L2.start, List.map_cons, List.map_nil, List.length_cons, List.length_nil, List.replicate_succ, List.replicate_zero, List.cons_append, List.nil_append, List.set_cons_succ, List.set_cons_zero, Nat.reduceAdd, Nat.reduceSub, Nat.zero_add]
    dsimp only [gName]
    try simp only [L2.start, List.map_cons, List.map_nil, List.length_cons, List.length_nil, List.replicate_succ, List.replicate_zero, List.cons_append, List.nil_append, List.set_cons_succ, List.set_cons_zero, Nat.reduceAdd, Nat.reduceSub, Nat.zero_add]
    generalize ss.getD (l.getD 1 0) 0 = y at *
    refine ⟨_, rfl, rfl, _, rfl, ite2 (fun z => ?_) (fun z => ?_)⟩
    · rw [if_pos (V.str.inj (of_decide_eq_true z))] at q
      exact ⟨_, rfl, _, rfl, x, y, 48, rfl, q⟩
    rw [if_neg (fun y => z (decide_eq_true (congrArg V.str y)))] at q
    dsimp only [tNext]
    refine ⟨_, rfl, rfl, _, rfl, ite2 (fun z => ?_) (fun z => ?_)⟩
    · rw [if_pos (V.str.inj (of_decide_eq_true z))] at q
      exact ⟨_, rfl, _, rfl, x, y, 49, rfl, q⟩
    rw [if_neg (fun y => z (decide_eq_true (congrArg V.str y)))] at q
    dsimp only [tNext]
    unfold unS at q
    refine ⟨_, rfl, _, rfl, (by show 2 ≤ sizeLine; decide), fun T nT => ?_⟩
    have sT := same_upd (o := .tup [.str (SX.S [x]), .str (SX.S [y])]) nT
    refine ⟨T, _, rfl, .inr (.inl (.inl upd_same)), rfl, rfl, ?_⟩
    rw [mns]
    refine ⟨_, rfl, ite2 (fun z => ?_) (fun z => ?_)⟩
    · have z := of_decide_eq_true ((in2 45 x y).symm.trans z)
      rw [if_pos z] at q
      exact q _ sT
    have z := of_decide_eq_false ((in2 45 x y).symm.trans (Bool.eq_false_iff.mpr z))
    rw [if_neg z] at q
    dsimp only [tNext]
    refine ⟨_, rfl, _, rfl, rfl, _, rfl, ite2 (fun z => ?_) (fun z => ?_)⟩
    · rw [if_pos (of_decide_eq_true ((dS1 x y).symm.trans z))] at q
      exact q _ sT
    · rw [if_neg (of_decide_eq_false ((dS1 x y).symm.trans (Bool.eq_false_iff.mpr z)))] at q
      exact q _ sT
/-! ### settled -/
def sgs (ss : List Nat) (gs : List Gt) : List Nat := gs.foldl (fun ss g => ss ++ [gsg ss g]) ss
theorem sgs_snoc (ss : List Nat) (gs : List Gt) (g : Gt) : sgs ss (gs ++ [g]) = sgs ss gs ++ [gsg (sgs ss gs) g] := by
  unfold sgs
  rw [List.foldl_append]
  rfl
theorem sgs_len (ss : List Nat) : ∀ gs : List Gt, (sgs ss gs).length = ss.length + gs.length := by
  intro gs
  unfold sgs
  induction gs generalizing ss with
  | nil => rfl
  | cons g gs ih =>
    rw [List.foldl_cons, ih, List.length_append, List.length_cons, List.length_cons, List.length_nil]
    omega
/-- the rows that settled tells -/
def SetAt (H0 H : Hp) (t : Addr) (rs : List (Str × List Nat)) : Prop := ∃ ts : List Addr, ts.length = rs.length ∧ H t = some (.lst (ts.map V.ref)) ∧ H0 t = none ∧
  ∀ (i : Nat) (u : Addr) (n : Str) (tx : List Nat), ts[i]? = some u → rs[i]? = some (n, tx) → H0 u = none ∧ H u = some (.tup [.str n, .str (SX.S tx)])
def setR (ss : List Nat) (nm : List (Str × List Nat)) : List (Str × List Nat) := nm.map fun x => (x.1, x.2.map fun a => ss.getD a 0)
theorem perm_lift {α β : Type} {f : α → β} {ys zs : List β} (h : ys.Perm zs) : ∀ nm : List α, zs = nm.map f → ∃ nm' : List α, nm'.Perm nm ∧ nm'.map f = ys := by
  induction h with
  | nil => exact fun nm e => ⟨nm, .refl _, e.symm⟩
  | cons x _ ih =>
    intro nm e
    match nm, e with
    | a :: nm, e =>
      rw [List.map_cons] at e
      cases e
      obtain ⟨n2, h1, h2⟩ := ih nm rfl
      exact ⟨a :: n2, .cons _ h1, by rw [List.map_cons, h2]⟩
  | swap x y l =>
    intro nm e
    match nm, e with
    | a :: b :: nm, e =>
      rw [List.map_cons, List.map_cons] at e
      cases e
      exact ⟨b :: a :: nm, .swap .., rfl⟩
    | [_], e => cases e
  | trans _ _ i1 i2 =>
    intro nm e
    obtain ⟨n2, h1, h2⟩ := i2 nm e
    obtain ⟨n3, h3, h4⟩ := i1 n2 h2.symm
    exact ⟨n3, h3.trans h1, h4⟩
def spSettled (C : Addr) : Sp := fun vs H Q _ => ∃ (Z : List Addr) (p : NetP) (m : Nat) (gs : List Gt) (nm : List (Str × List Nat)) (cs : List Nat), vs = [.ref p.x, .str (SX.S cs)] ∧ NetAt C Z H p m gs nm ∧ cs.length = m ∧ m + gs.length ≤ 900 ∧ nm.length < 64 ∧
  (∀ (i : Nat) (g : Gt), gs[i]? = some g → g.ok (m + i)) ∧ (∀ x ∈ nm, x.2.length ≤ 900 ∧ ∀ a ∈ x.2, a < m + gs.length) ∧
  ∀ (nm' : List (Str × List Nat)) (t : Addr) (H' : Hp), nm'.Perm nm → sortedS (nm'.map (·.1)) = true → Same H H' → SetAt H H' t (setR (sgs cs gs) nm') → Q (.ref t) H'
theorem ok_settled (B : Bl mg) (L : LL K mg C za zl) : FnOk P w K mg base CX0 3 (za 1) (zl 1) ["net", "cube"] (spSettled C) := by
  have G_gate_sign : FnOk P w K mg base CX0 2 (za 2) (zl 2) ["gate", "signs"] spGateS := (ok_gate_sign B L).mono (by decide)
  have G_Net_gates : FnOk P w K mg base CX0 2 (za 32) (zl 32) ["self"] (spGates C) := (ok_Net_gates B L).mono (by decide)
  have G_Net_given : FnOk P w K mg base CX0 2 (za 30) (zl 30) ["self", "name"] (spGiven C) := (ok_Net_given B L).mono (by decide)
  have G_Net_names : FnOk P w K mg base CX0 2 (za 31) (zl 31) ["self"] (spNames C) := (ok_Net_names B L).mono (by decide)
  refine L.F_settled.ok sc_settled (fun vs H Q E h => ?_) (fun cdv A outer s H vs Q E hr h => ?_)
  · obtain ⟨Z, p, m, gs, nm, cs, rfl, _⟩ := h
    rfl
  obtain ⟨Z, p, m, gs, nm, cs, rfl, hN, lc, hm, hl, hok, hnm, q⟩ := h
  refine ⟨_, (pss_cons (ps_set (i := 2) sc_settled.nd rfl (.inr rfl) (pe_callTy (call_listTx rfl) (by rfl) B.list PyProof.Rows.boot_list (pa_cons (pv 1) pa_nil)))
    (pss_cons (ps_for PassesOwn.never rfl (pi_list (pe_meth0 (pv 0) L.T.cl L.M_Net_gates G_Net_gates hr L.b_Net_gates .nil pass0)) (pg_name (i := 3) sc_settled.nd rfl (.inl rfl)) (pss_one (ps_expr (pe_bm PySem.F.plainAttrs_list PySem.F.slot_list_append PySem.F.type_list_append mt_append (pv 2) (pa_cons (pe_call G_gate_sign hr (by rfl) L.m_gate_sign L.F_gate_sign.kp L.b_gate_sign .nil pass0 (pa_cons (pv 3) (pa_cons (pv 2) pa_nil))) pa_nil)))))
    (pss_one (ps_ret (pe_lc (own := [("name", 4)]) (by rfl) sc_settled.nd (pi_list (pe_meth0 (pv 0) L.T.cl L.M_Net_names G_Net_names hr L.b_Net_names .nil pass0)) (blkOk_by (own := [("name", 4)]) (N := ["net", "cube", "signs", "gate", "name", "wire"]) (sc := defScope s_settled) (by decide +kernel)) (fun _ _ _ _ _ => pg_name (i := 4) sc_settled.nd rfl (Or.inl rfl)) (fun _ _ _ _ _ => pts_nil) (fun _ _ _ _ _ => (pe_tup (pa_cons (pv 4) (pa_cons (pe_bmKX (K := K) PySem.F.plainAttrs_str PySem.F.slot_str_join PySem.F.type_str_join (mt_joinKX (K := K)) pe_str (pa_cons (pe_lc (own := [("wire", 5)]) (by rfl) sc_settled.nd (pi_listK (K := K) (pe_meth (pv 0) L.T.cl L.M_Net_given G_Net_given hr L.b_Net_given .nil pass0 (pa_cons (pv 4) pa_nil))) (blkOk_by (own := [("wire", 5)]) (N := ["net", "cube", "signs", "gate", "name", "wire"]) (sc := ({ kind := ScopeKind.function, names := [(".0", NameKind.local), ("name", NameKind.local), ("net", NameKind.cell), ("signs", NameKind.cell)], isGenerator := false, isCoroutine := false } : Scope)) (by decide +kernel)) (fun _ _ _ _ _ => pg_name (i := 5) sc_settled.nd rfl (Or.inl rfl)) (fun _ _ _ _ _ => pts_nil) (fun _ _ _ _ _ => (pe_ix (ix_listK (K := K)) (pv 2) (pv 5) (fun _ _ => rfl)))) pa_nil)) pa_nil))))))))), ?_⟩
  have elst : ((SX.S cs).cps.toList.map fun c => V.str ⟨#[c]⟩) = ssV cs := by
    show (cs.toArray.toList.map fun c => V.str ⟨#[c]⟩) = ssV cs
    rw [List.toList_toArray]
    rfl
  refine ⟨_, rfl, SX.S cs, rfl, by rw [SX.S_len]; exact Nat.le_of_lt (small1000 (by omega)), fun W nW => ?_⟩
  rw [elst]
  have sW := same_upd (o := .lst (ssV cs)) nW
  have eW : (upd H W (.lst (ssV cs))) W = some (.lst (ssV cs)) := upd_same
  generalize upd H W (.lst (ssV cs)) = H1 at *
  try simp only [L2.start, List.map_cons, List.map_nil, List.length_cons, List.length_nil, List.replicate_succ, List.replicate_zero, List.cons_append, List.nil_append, List.set_cons_succ, List.set_cons_zero, Nat.reduceAdd, Nat.reduceSub, Nat.zero_add]
  obtain ⟨_, _, _, dx, _, _, e1, _⟩ := id hN
  have nWx : ∀ y o, H y = some o → y ≠ W := fun y o e => ne_of_none e nW
  refine ⟨_, rfl, p.x, dx, _, rfl, sW _ _ e1, rfl, Z, p, m, gs, nm, rfl, hN.same sW, fun G ps nG lps hps => ?_⟩
  have sG := same_upd (o := .lst (ps.map V.ref)) nG
  have eWG := sG _ _ eW
  have nGW : G ≠ W := (ne_of_none eW nG).symm
  have eG0 : (upd H1 G (.lst (ps.map V.ref))) G = some (.lst (ps.map V.ref)) := upd_same
  have w1 := sW.trans sG
  have hps1 : ∀ (i : Nat) (r : Addr) (g : Gt), ps[i]? = some r → gs[i]? = some g → (upd H1 G (.lst (ps.map V.ref))) r = some (.tup g.row) := fun i r g hi hg => sG _ _ (hps i r g hi hg)
  generalize upd H1 G (.lst (ps.map V.ref)) = H2 at *
  refine ⟨G, rfl, ⟨_, SqL.of eG0⟩, ?_⟩
  refine for_it (walk_list (K := K) (a := G) (xs := ps.map V.ref)) (fun j σ H9 => ∃ y : Option V, σ = [some (.ref p.x), some (.str (SX.S cs)), some (.ref W), y, none, none] ∧ Keep W H2 H9 ∧ H9 W = some (.lst (ssV (sgs cs (gs.take j))))) ⟨_, rfl, Keep.refl _ _, eWG⟩ (fun j σ H9 _ ⟨_, _, k9, _⟩ => SqL.of (k9 _ _ eG0 nGW)) ?_ ?_
  · rintro j z σ H9 H10 hj ⟨y, rfl, k9, eW9⟩ ⟨rfl, hz⟩
    rw [List.getElem?_map] at hz
    have hj' : j < ps.length := by
      rw [List.length_map] at hj
      exact hj
    rw [List.getElem?_eq_getElem hj'] at hz
    cases hz
    have hg : gs[j]? = some gs[j] := List.getElem?_eq_getElem (by omega)
    have er : H10 ps[j] = some (.tup (gs[j]'(by omega)).row) := k9 _ _ (hps1 j _ _ (List.getElem?_eq_getElem hj') hg) (fun z => by
      have := hps1 j _ _ (List.getElem?_eq_getElem hj') hg
      rw [z, eWG] at this
      cases this)
    try simp only [L2.start, List.map_cons, List.map_nil, List.length_cons, List.length_nil, List.replicate_succ, List.replicate_zero, List.cons_append, List.nil_append, List.set_cons_succ, List.set_cons_zero, Nat.reduceAdd, Nat.reduceSub, Nat.zero_add]
    refine ⟨_, rfl, .inl ⟨rfl, _, SqL.of eW9⟩, _, rfl, _, rfl, ps[j], W, _, _, rfl, er, eW9, ?_, fun H11 s11 => ?_⟩
    · rw [sgs_len, List.length_take, lc, Nat.min_eq_left (by omega)]
      exact hok j _ hg
    refine ⟨W, _, _, rfl, rfl, s11 _ _ eW9, ?_, ?_⟩
    · show (ssV _).length < _
      unfold ssV
      rw [List.length_map, sgs_len, List.length_take]
      exact small1000 (by omega)
    refine ⟨_, rfl, fun y' u e ny => ?_, ?_⟩
    · rw [upd_ne ny]
      exact s11 _ _ (k9 _ _ e ny)
    · rw [upd_same, List.take_add_one, hg]
      show _ = some (HO.lst (ssV (sgs cs (gs.take j ++ [gs[j]]))))
      rw [sgs_snoc]
      unfold ssV
      rw [List.map_append]
      rfl
  rintro σ H9 ⟨y, rfl, k9, eW9⟩
  rw [List.length_map, List.take_of_length_le (by omega)] at eW9
  have s9 : Same H H9 := fun y u e => k9 _ _ (w1 _ _ e) (nWx _ _ e)
  have N9 := hN.same s9
  obtain ⟨_, _, _, dx9, _, _, f1, _⟩ := id N9
  have lss : (sgs cs gs).length = m + gs.length := by rw [sgs_len, lc]
  refine ⟨_, rfl, p.x, dx9, _, rfl, f1, rfl, Z, p, m, gs, nm, rfl, N9, hl, fun ys Y HY hp hs sY nY eY => ?_⟩
  obtain ⟨nm', pn, rfl⟩ := perm_lift hp nm rfl
  have eWY := sY _ _ eW9
  have NY := N9.same sY
  have l64 : nm'.length < 64 := by
    rw [pn.length_eq]
    exact hl
  generalize hss : sgs cs gs = ss at *
  refine ⟨Y, rfl, ⟨_, SqL.of eY⟩, fun T nT => ?_⟩
  refine lc_it (walk_list (K := K) (a := Y) (xs := (nm'.map (·.1)).map V.str)) (fun i H5 => Same HY H5 ∧ ∃ ts : List Addr, ts.length = i ∧ H5 T = some (.lst (ts.map V.ref)) ∧ ∀ (k : Nat) (u : Addr) (n : Str) (tx : List Nat), ts[k]? = some u → (setR ss nm')[k]? = some (n, tx) → H u = none ∧ H5 u = some (.tup [.str n, .str (SX.S tx)])) ⟨same_upd nT, [], rfl, upd_same, fun k u n tx h => by simp at h⟩ (fun i H5 _ ⟨s5, _⟩ => SqL.of (s5 _ _ eY)) ?_ ?_
  · rintro j z H5 H6 hj ⟨s5, ts, lt, eT, hts⟩ ⟨rfl, hz⟩
    rw [List.getElem?_map, List.getElem?_map] at hz
    have hj' : j < nm'.length := by
      rw [List.length_map, List.length_map] at hj
      exact hj
    have hy : nm'[j]? = some nm'[j] := List.getElem?_eq_getElem hj'
    have hrow : (setR ss nm')[j]? = some (nm'[j].1, nm'[j].2.map fun a => ss.getD a 0) := by
      unfold setR
      rw [List.getElem?_map, hy]
      rfl
    rw [hy] at hz
    cases hz
    generalize nm'[j] = row at *
    obtain ⟨x, ws⟩ := row
    have N5 := NY.same s5
    obtain ⟨_, _, _, dx5, _, _, g1, _⟩ := id N5
    have hx : (x, ws) ∈ nm := pn.mem_iff.mp (List.mem_of_getElem? hy)
    obtain ⟨i0, hi0, ei0⟩ := List.getElem_of_mem hx
    have hn0 : nm[i0]? = some (x, ws) := by
      rw [List.getElem?_eq_getElem hi0, ei0]
    have hws := hnm _ hx
    have hw1 : ws.length ≤ 900 := hws.1
    refine ⟨rfl, yesT ?_⟩
    refine ⟨_, rfl, rfl, _, rfl, p.x, dx5, _, rfl, g1, rfl, _, rfl, Z, p, m, gs, nm, i0, x, ws, rfl, N5, hn0, fun g ng => ?_⟩
    have sg := same_upd (o := .lst (nts ws)) ng
    have eWg := sg _ _ (s5 _ _ eWY)
    have egg : (upd H6 g (.lst (nts ws))) g = some (.lst (nts ws)) := upd_same
    have eTg := sg _ _ eT
    generalize upd H6 g (.lst (nts ws)) = H7 at *
    refine ⟨g, rfl, ⟨_, SqL.of egg⟩, fun D nD => ?_⟩
    refine lc_it (walk_list (K := K) (a := g) (xs := nts ws)) (fun i H8 => Same H7 H8 ∧ H8 D = some (.lst (ssV ((ws.map fun a => ss.getD a 0).take i)))) ⟨same_upd nD, upd_same⟩ (fun i H8 _ ⟨s8, _⟩ => SqL.of (s8 _ _ egg)) ?_ ?_
    · rintro k z H8 H8' hk ⟨s8, eD⟩ ⟨rfl, hz⟩
      obtain ⟨a, ha, rfl⟩ := nts_at hz
      have la := hws.2 a (List.mem_of_getElem? ha)
      refine ⟨rfl, yesT ?_⟩
      refine ⟨_, rfl, _, rfl, W, _, _, _, rfl, rfl, SqL.of (s8 _ _ eWg), at_getS (by rw [lss]; exact la), ?_⟩
      refine ⟨_, eD, ?_, fun y u e => ?_, ?_⟩
      · unfold ssV
        rw [List.length_map, List.length_take, List.length_map]
        exact Nat.lt_of_le_of_lt (Nat.min_le_right _ _) (small1000 (by omega))
      · rw [upd_ne (ne_of_none e nD)]
        exact s8 _ _ e
      · rw [upd_same, List.take_add_one, List.getElem?_map, ha]
        unfold ssV
        rw [List.map_append]
        rfl
    rintro H8 ⟨s8, eD⟩
    rw [nts_len, List.take_of_length_le (by rw [List.length_map]; exact Nat.le_refl _)] at eD
    have eT8 := s8 _ _ eTg
    generalize htx : (ws.map fun a => ss.getD a 0) = tx at *
    have ltx : tx.length ≤ 900 := by
      rw [← htx, List.length_map]
      exact hw1
    refine ⟨_, D, tx.map fun c => SX.S [c], rfl, rfl, .inl (.inl (.inl ?_)), join_z tx (by omega), ?_⟩
    · rw [List.map_map]
      exact eD
    rw [join_1]
    refine ⟨(by show 2 ≤ sizeLine; decide), fun u nu => ?_⟩
    have su := same_upd (o := .tup [.str x, .str (SX.S tx)]) nu
    have nuT : u ≠ T := fun z => by
      rw [z, eT8] at nu
      cases nu
    have sA : Same H6 (upd H8 u (.tup [.str x, .str (SX.S tx)])) := fun y o e => su _ _ (s8 _ _ (sg _ _ e))
    have nu0 : H u = none := by
      cases e : H u with
      | none => rfl
      | some o =>
        have := s8 _ _ (sg _ _ (s5 _ _ (sY _ _ (s9 _ _ e))))
        rw [nu] at this
        cases this
    refine ⟨_, su _ _ eT8, ?_, fun y o e => ?_, ts ++ [u], by rw [List.length_append, lt]; rfl, ?_, fun k u' x' tx' hu hx' => ?_⟩
    · rw [List.length_map, lt]
      exact small1000 (by omega)
    · rw [upd_ne (ne_of_none e nT)]
      exact sA _ _ (s5 _ _ e)
    · rw [upd_same, List.map_append]
      rfl
    · by_cases c : k < ts.length
      · rw [List.getElem?_append_left c] at hu
        obtain ⟨q1, q3⟩ := hts k u' x' tx' hu hx'
        refine ⟨q1, ?_⟩
        rw [upd_ne (fun z => by rw [z, eT] at q3; cases q3)]
        exact sA _ _ q3
      · have k0 : k = ts.length := by
          have := (List.getElem?_eq_some_iff.mp hu).1
          rw [List.length_append, List.length_cons, List.length_nil] at this
          omega
        rw [List.getElem?_append_right (by omega), k0, Nat.sub_self] at hu
        rw [k0, lt, hrow] at hx'
        cases hu
        cases hx'
        refine ⟨nu0, ?_⟩
        rw [upd_ne nuT]
        exact upd_same
  · rintro H5 ⟨s5, ts, lt, eT, hts⟩
    have nT0 : H T = none := by
      cases e : H T with
      | none => rfl
      | some o =>
        have := sY _ _ (s9 _ _ e)
        rw [nT] at this
        cases this
    exact q nm' T H5 pn hs ((s9.trans sY).trans s5) ⟨ts, by rw [lt, List.length_map, List.length_map]; unfold setR; rw [List.length_map], eT, nT0, fun k u n tx hu hx => hts k u n tx hu hx⟩
end
section
variable {P : Program} {w : World} {K : PySem.W.Frag} {mg : Str → Option Value} {base : Heap}
variable {C : Addr} {za : Nat → Addr} {zl : Nat → FuncData}
/-! ### drawn gates -/
def GsOk (m : Nat) (gs : List Gt) : Prop := ∀ (i : Nat) (g : Gt), gs[i]? = some g → g.ok (m + i)
def RowsAt46 (H : Hp) (R : Addr) (gs : List Gt) : Prop := ∃ ts : List Addr, ts.length = gs.length ∧ H R = some (.lst (ts.map V.ref)) ∧ ∀ (i : Nat) (t : Addr) (g : Gt), ts[i]? = some t → gs[i]? = some g → H t = some (.tup g.row)
/-! ### draws of k60 -/
theorem at8s {r : Int} (h0 : 0 ≤ r) (h1 : r < 8) : ∃ w : Str, atI ([.str "both", .str "either", .str "unlike", .str "other", .str "both", .str "unlike", .str "either", .str "fixed"] : List V) r = some (.str w) ∧ (w = "both" ∨ w = "either" ∨ w = "unlike" ∨ w = "other" ∨ w = "fixed") := by
  have : r = 0 ∨ r = 1 ∨ r = 2 ∨ r = 3 ∨ r = 4 ∨ r = 5 ∨ r = 6 ∨ r = 7 := by omega
  rcases this with z | z | z | z | z | z | z | z <;> subst z
  · exact ⟨_, rfl, .inl rfl⟩
  · exact ⟨_, rfl, .inr (.inl rfl)⟩
  · exact ⟨_, rfl, .inr (.inr (.inl rfl))⟩
  · exact ⟨_, rfl, .inr (.inr (.inr (.inl rfl)))⟩
  · exact ⟨_, rfl, .inl rfl⟩
  · exact ⟨_, rfl, .inr (.inr (.inl rfl))⟩
  · exact ⟨_, rfl, .inr (.inl rfl)⟩
  · exact ⟨_, rfl, .inr (.inr (.inr (.inr rfl)))⟩
theorem at2i {x y r : Int} (h0 : 0 ≤ r) (h1 : r < 2) : ∃ z : Int, atI ([.int x, .int y] : List V) r = some (.int z) ∧ (z = x ∨ z = y) := by
  have : r = 0 ∨ r = 1 := by omega
  rcases this with z | z <;> subst z
  · exact ⟨_, rfl, .inl rfl⟩
  · exact ⟨_, rfl, .inr rfl⟩
def spRows60 : Sp := fun vs H Q _ => ∃ (b : Addr) (c : Int) (m n : Nat), vs = [.ref b, .int (m : Int), .int (n : Int)] ∧ BoxAt c H b ∧ c ≤ 800000000 ∧ 1 ≤ m ∧ m ≤ 100 ∧ n ≤ 200 ∧
  ∀ (R : Addr) (gs : List Gt) (H' : Hp), gs.length = n → GsOk m gs → R ≠ b → RowsAt46 H' R gs → BoxAt (c + 10 * n) H' b → Keep b H H' → Q (.ref R) H'
theorem ok__law_gate_rows (B : Bl mg) (L : LL K mg C za zl) : FnOk P w K mg base CX0 2 (za 9) (zl 9) ["_law_box_here", "_law_first", "_law_many"] spRows60 := by
  have G__law_take : FnOk P w K mg base CX0 1 (za 6) (zl 6) ["_law_box_here", "_law_size"] (spTake 1) := (ok_take L.F__law_take L.b__law_take L.m__law_take B 1).mono (by decide)
  refine L.F__law_gate_rows.ok sc__law_gate_rows (fun vs H Q E h => ?_) (fun cdv A outer s H vs Q E hr h => ?_)
  · obtain ⟨b, c, m, n, rfl, _⟩ := h
    rfl
  obtain ⟨b, c, m, n, rfl, hB, hc, m1, m9, hn, q⟩ := h
  refine ⟨_, (pss_cons (ps_set (i := 3) sc__law_gate_rows.nd rfl (.inl rfl) (pe_lst pa_nil))
    (pss_cons (ps_for PassesOwn.never rfl (pi_range1 (by rfl) B.range (pa_cons (pv 2) pa_nil)) (pg_name (i := 4) sc__law_gate_rows.nd rfl (.inl rfl)) (pss_cons (ps_set (i := 5) sc__law_gate_rows.nd rfl (.inl rfl) (pe_op op_add (pv 1) (pv 4)))
    (pss_cons (ps_set (i := 6) sc__law_gate_rows.nd rfl (.inl rfl) (pe_ix ix_list (pe_lst (pa_cons pe_str (pa_cons pe_str (pa_cons pe_str (pa_cons pe_str (pa_cons pe_str (pa_cons pe_str (pa_cons pe_str (pa_cons pe_str pa_nil))))))))) (pe_call G__law_take hr (by rfl) L.m__law_take L.F__law_take.kp L.b__law_take .nil pass0 (pa_cons (pv 0) (pa_cons pe_int pa_nil))) (fun _ _ => rfl)))
    (pss_cons (ps_par (by rfl) sc__law_gate_rows.nd (i := 7) (j := 8) rfl rfl (by decide) rfl rfl (pa_cons (pe_op op_sub (pe_op op_sub (pv 5) pe_int) (pe_call G__law_take hr (by rfl) L.m__law_take L.F__law_take.kp L.b__law_take .nil pass0 (pa_cons (pv 0) (pa_cons (pe_callB (call_min2 rfl) (by rfl) B.min boot_min (pa_cons (pv 5) (pa_cons (pe_ix ix_list (pe_lst (pa_cons pe_int (pa_cons pe_int pa_nil))) (pe_call G__law_take hr (by rfl) L.m__law_take L.F__law_take.kp L.b__law_take .nil pass0 (pa_cons (pv 0) (pa_cons pe_int pa_nil))) (fun _ _ => rfl)) pa_nil))) pa_nil)))) (pa_cons (pe_call G__law_take hr (by rfl) L.m__law_take L.F__law_take.kp L.b__law_take .nil pass0 (pa_cons (pv 0) (pa_cons (pv 5) pa_nil))) pa_nil)) (by rfl))
    (pss_one (ps_if (pt_cmpR op_eq (pv 6) pe_str (nomark _)) (pss_one (ps_expr (pe_bm PySem.F.plainAttrs_list PySem.F.slot_list_append PySem.F.type_list_append mt_append (pv 3) (pa_cons (pe_tup (pa_cons (pv 6) (pa_cons (pe_call G__law_take hr (by rfl) L.m__law_take L.F__law_take.kp L.b__law_take .nil pass0 (pa_cons (pv 0) (pa_cons pe_int pa_nil))) pa_nil))) pa_nil)))) (pss_one (ps_expr (pe_bm PySem.F.plainAttrs_list PySem.F.slot_list_append PySem.F.type_list_append mt_append (pv 3) (pa_cons (pe_ifExp (pt_cmpR op_eq (pv 6) pe_str (nomark _)) (pe_tup (pa_cons (pv 6) (pa_cons (pv 7) pa_nil))) (pe_tup (pa_cons (pv 6) (pa_cons (pv 7) (pa_cons (pv 8) pa_nil))))) pa_nil))))))))))
    (pss_one (ps_ret (pv 3))))), ?_⟩
  refine ⟨Nat.zero_le _, fun R nR => ?_⟩
  have nRb : R ≠ b := (hB.ne nR).symm
  have sR := same_upd (o := .lst []) nR
  try simp only [L2.start, List.map_cons, List.map_nil, List.length_cons, List.length_nil, List.replicate_succ, List.replicate_zero, List.cons_append, List.nil_append, List.set_cons_succ, List.set_cons_zero, Nat.reduceAdd, Nat.reduceSub, Nat.zero_add]
  refine ⟨_, rfl, _, rfl, by omega, by omega, ?_⟩
  rw [Int.toNat_natCast]
  refine for_range (n := n) (fun j σ H5 => ∃ (gs : List Gt) (y4 y5 y6 y7 y8 : Option V), σ = [some (.ref b), some (.int (m : Int)), some (.int (n : Int)), some (.ref R), y4, y5, y6, y7, y8] ∧ gs.length = j ∧ GsOk m gs ∧ RowsAt46 H5 R gs ∧ BoxAt (c + 10 * j) H5 b ∧ Keep b H H5) ⟨[], none, none, none, none, none, rfl, rfl, (fun i g h => by simp at h), ⟨[], rfl, upd_same, fun i t g h => by simp at h⟩, (hB.same sR).mono (by omega), Keep.ofSame sR⟩ ?_ ?_
  · rintro j σ H5 hj ⟨gs, y4, y5, y6, y7, y8, rfl, lg, ok, ⟨ts, lt, eR, hts⟩, B5, k5⟩
    try simp only [L2.start, List.map_cons, List.map_nil, List.length_cons, List.length_nil, List.replicate_succ, List.replicate_zero, List.cons_append, List.nil_append, List.set_cons_succ, List.set_cons_zero, Nat.reduceAdd, Nat.reduceSub, Nat.zero_add]
    refine ⟨_, rfl, _, rfl, _, _, rfl, rfl, ?_⟩
    try simp only [L2.start, List.map_cons, List.map_nil, List.length_cons, List.length_nil, List.replicate_succ, List.replicate_zero, List.cons_append, List.nil_append, List.set_cons_succ, List.set_cons_zero, Nat.reduceAdd, Nat.reduceSub, Nat.zero_add]
    have hM : (m : Int) + (0 + (j : Int)) = ((m + j : Nat) : Int) := by omega
    rw [hM]
    dsimp only [gName]
    try simp only [L2.start, List.map_cons, List.map_nil, List.length_cons, List.length_nil, List.replicate_succ, List.replicate_zero, List.cons_append, List.nil_append, List.set_cons_succ, List.set_cons_zero, Nat.reduceAdd, Nat.reduceSub, Nat.zero_add]
    refine ⟨(by show 8 ≤ sizeLine; decide), fun K1 nK1 => ?_⟩
    have s1 := same_upd (o := .lst [.str "both", .str "either", .str "unlike", .str "other", .str "both", .str "unlike", .str "either", .str "fixed"]) nK1
    have eK1 : (upd H5 K1 (.lst [.str "both", .str "either", .str "unlike", .str "other", .str "both", .str "unlike", .str "either", .str "fixed"])) K1 = some (.lst [.str "both", .str "either", .str "unlike", .str "other", .str "both", .str "unlike", .str "either", .str "fixed"]) := upd_same
    have nK1b : K1 ≠ b := (B5.ne nK1).symm
    refine ⟨_, rfl, b, _, _, rfl, B5.same s1, by decide, by decide, by decide, by omega, by decide, fun r1 H6 u1 v1 B6 k6 => ?_⟩
    replace B6 := bx1 B6
    obtain ⟨w, ew, hw⟩ := at8s u1 v1
    refine ⟨K1, _, _, _, rfl, rfl, SqL.of (k6 _ _ eK1 nK1b), ew, ?_⟩
    try simp only [L2.start, List.map_cons, List.map_nil, List.length_cons, List.length_nil, List.replicate_succ, List.replicate_zero, List.cons_append, List.nil_append, List.set_cons_succ, List.set_cons_zero, Nat.reduceAdd, Nat.reduceSub, Nat.zero_add]
    refine ⟨_, rfl, _, _, rfl, rfl, ?_⟩
    refine ⟨_, rfl, ?_⟩
    try simp only [L2.start, List.map_cons, List.map_nil, List.length_cons, List.length_nil, List.replicate_succ, List.replicate_zero, List.cons_append, List.nil_append, List.set_cons_succ, List.set_cons_zero, Nat.reduceAdd, Nat.reduceSub, Nat.zero_add]
    refine ⟨_, rfl, (by show 2 ≤ sizeLine; decide), fun K2 nK2 => ?_⟩
    have s2 := same_upd (o := .lst [.int 3, .int 99]) nK2
    have eK2 : (upd H6 K2 (.lst [.int 3, .int 99])) K2 = some (.lst [.int 3, .int 99]) := upd_same
    have nK2b : K2 ≠ b := (B6.ne nK2).symm
    refine ⟨_, rfl, b, _, _, rfl, B6.same s2, by decide, by decide, by decide, by omega, by decide, fun r2 H7 u2 v2 B7 k7 => ?_⟩
    replace B7 := bx1 B7
    obtain ⟨q2, eq2, hq2⟩ := at2i (x := 3) (y := 99) u2 v2
    refine ⟨K2, _, _, _, rfl, rfl, SqL.of (k7 _ _ eK2 nK2b), eq2, ?_⟩
    obtain ⟨mn, emn, n1, n6, n7⟩ : ∃ mn : Int, (if q2 < ((m + j : Nat) : Int) then q2 else ((m + j : Nat) : Int)) = mn ∧ 1 ≤ mn ∧ mn ≤ ((m + j : Nat) : Int) ∧ mn ≤ 99 := ⟨_, rfl, by split <;> omega, by split <;> omega, by split <;> omega⟩
    refine ⟨_, _, rfl, ?_⟩
    rw [emn]
    refine ⟨b, _, _, rfl, B7, by omega, by omega, by omega, by omega, by decide, fun r3 H8 u3 v3 B8 k8 => ?_⟩
    replace B8 := bx1 B8
    refine ⟨_, _, rfl, rfl, ?_⟩
    refine ⟨_, rfl, _, rfl, b, _, _, rfl, B8, by omega, by omega, by omega, by omega, by decide, fun r4 H9 u4 v4 B9 k9 => ?_⟩
    replace B9 := bx1 B9
    refine ⟨_, _, rfl, ?_⟩
    try simp only [L2.start, List.map_cons, List.map_nil, List.length_cons, List.length_nil, List.replicate_succ, List.replicate_zero, List.cons_append, List.nil_append, List.set_cons_succ, List.set_cons_zero, Nat.reduceAdd, Nat.reduceSub, Nat.zero_add]
    have kA : Keep b H5 H9 := ((((Keep.ofSame s1).trans k6).trans (Keep.ofSame s2)).trans k7).trans (k8.trans k9)
    have hts9 : ∀ (HT : Hp), Keep b H5 HT → ∀ (i : Nat) (t : Addr) (g : Gt), ts[i]? = some t → gs[i]? = some g → HT t = some (.tup g.row) := fun HT kT i t g hi hg => kT _ _ (hts i t g hi hg) (fun z => by
      obtain ⟨_, _, _, eb, _⟩ := B5
      have := hts i t g hi hg
      rw [z, eb] at this
      cases this)
    have fin : ∀ (g : Gt) (T : Addr) (HT : Hp) (z4 z5 z6 z7 z8 : Option V), g.ok (m + j) → Keep b H5 HT → BoxAt (c + 10 * (j + 1 : Nat)) HT b → HT T = some (.tup g.row) → ∃ (gs : List Gt) (y4 y5 y6 y7 y8 : Option V), [some (.ref b), some (.int (m : Int)), some (.int (n : Int)), some (.ref R), z4, z5, z6, z7, z8] = [some (.ref b), some (.int (m : Int)), some (.int (n : Int)), some (.ref R), y4, y5, y6, y7, y8] ∧ gs.length = j + 1 ∧ GsOk m gs ∧ RowsAt46 (upd HT R (.lst (ts.map V.ref ++ [.ref T]))) R gs ∧ BoxAt (c + 10 * (j + 1 : Nat)) (upd HT R (.lst (ts.map V.ref ++ [.ref T]))) b ∧ Keep b H (upd HT R (.lst (ts.map V.ref ++ [.ref T]))) := fun g T HT z4 z5 z6 z7 z8 hg kT BT eT => by
      have eRT := kT _ _ eR nRb
      have nTR : T ≠ R := fun z => by
        rw [z, eRT] at eT
        cases eT
      refine ⟨gs ++ [g], _, _, _, _, _, rfl, by rw [List.length_append, lg]; rfl, fun i g' h => ?_, ⟨ts ++ [T], by rw [List.length_append, List.length_append, lt]; rfl, by rw [upd_same, List.map_append]; rfl, fun i t' g' hi hg' => ?_⟩, BT.at (upd_ne nRb.symm), fun y u e ny => ?_⟩
      · by_cases d : i < gs.length
        · rw [List.getElem?_append_left d] at h
          exact ok i g' h
        · have i0 : i = gs.length := by
            have := (List.getElem?_eq_some_iff.mp h).1
            rw [List.length_append, List.length_cons, List.length_nil] at this
            omega
          rw [List.getElem?_append_right (by omega), i0, Nat.sub_self] at h
          cases h
          rw [i0, lg]
          exact hg
      · by_cases d : i < ts.length
        · rw [List.getElem?_append_left d] at hi
          rw [List.getElem?_append_left (by omega)] at hg'
          have e1 := hts9 HT kT i t' g' hi hg'
          rw [upd_ne (fun z => by rw [z, eRT] at e1; cases e1)]
          exact e1
        · have i0 : i = ts.length := by
            have := (List.getElem?_eq_some_iff.mp hi).1
            rw [List.length_append, List.length_cons, List.length_nil] at this
            omega
          rw [List.getElem?_append_right (by omega), i0, Nat.sub_self] at hi
          rw [List.getElem?_append_right (by omega), i0, lt, Nat.sub_self] at hg'
          cases hi
          cases hg'
          rw [upd_ne nTR]
          exact eT
      · rw [upd_ne (ne_of_none e nR)]
        exact kT _ _ (k5 _ _ e ny) ny
    have lts : (ts.map V.ref).length < sizeLine := by
      rw [List.length_map, lt, lg]
      exact Nat.lt_of_le_of_lt (show j ≤ 200 by omega) (by decide)
    obtain ⟨a, ea⟩ : ∃ a : Nat, r4 = (a : Int) := ⟨r4.toNat, by omega⟩
    obtain ⟨a', ea'⟩ : ∃ a : Nat, ((m + j : Nat) : Int) - 1 - r3 = (a : Int) := ⟨(((m + j : Nat) : Int) - 1 - r3).toNat, by omega⟩
    rw [ea', ea]
    have la : a < m + j := by omega
    have la' : a' < m + j := by omega
    have eR9 := kA _ _ eR nRb
    have nS : ∀ {x y : Str}, ¬ x = y → ¬ decide (V.str x = V.str y) = true := fun h z => h (V.str.inj (of_decide_eq_true z))
    refine ⟨_, rfl, rfl, _, rfl, ite2 (fun cf => ?_) (fun cf => ?_)⟩
    · have cf : w = "fixed" := V.str.inj (of_decide_eq_true cf)
      subst cf
      refine ⟨_, rfl, .inl ⟨rfl, _, SqL.of eR9⟩, _, rfl, _, rfl, b, _, _, rfl, B9, by decide, by decide, by decide, by omega, by decide, fun r5 HA u5 v5 BA kX => ?_⟩
      replace BA := bx1 BA
      obtain ⟨a5, rfl⟩ : ∃ a : Nat, r5 = (a : Int) := ⟨r5.toNat, by omega⟩
      refine ⟨(by show 2 ≤ sizeLine; decide), fun T nT => ?_⟩
      have sT := same_upd (o := .tup [.str "fixed", .int (a5 : Int)]) nT
      refine ⟨R, _, _, rfl, rfl, sT _ _ (kX _ _ eR9 nRb), lts, ?_⟩
      exact fin (.fi a5) T _ _ _ _ _ _ (show a5 ≤ 1 by omega) ((kA.trans kX).trans (Keep.ofSame sT)) (BoxAt.mono (BA.same sT) (by omega)) upd_same
    · have cf : ¬ w = "fixed" := fun z => cf (decide_eq_true (congrArg V.str z))
      refine ⟨_, rfl, .inl ⟨rfl, _, SqL.of eR9⟩, _, rfl, rfl, _, rfl, ite2 (fun co => ?_) (fun co => ?_)⟩
      · have co : w = "other" := V.str.inj (of_decide_eq_true co)
        subst co
        refine ⟨_, rfl, _, rfl, (by show 2 ≤ sizeLine; decide), fun T nT => ?_⟩
        have sT := same_upd (o := .tup [.str "other", .int (a' : Int)]) nT
        refine ⟨R, _, _, rfl, rfl, sT _ _ eR9, lts, ?_⟩
        exact fin (.w "other" [a']) T _ _ _ _ _ _ ⟨.inr ⟨rfl, rfl⟩, fun x hx => by rw [List.mem_singleton.mp hx]; exact la'⟩ (kA.trans (Keep.ofSame sT)) (BoxAt.mono (B9.same sT) (by omega)) upd_same
      · have co : ¬ w = "other" := fun z => co (decide_eq_true (congrArg V.str z))
        have hk : w = "both" ∨ w = "either" ∨ w = "unlike" := by
          rcases hw with z | z | z | z | z
          · exact .inl z
          · exact .inr (.inl z)
          · exact .inr (.inr z)
          · exact absurd z co
          · exact absurd z cf
        refine ⟨_, rfl, _, rfl, _, rfl, (by show 3 ≤ sizeLine; decide), fun T nT => ?_⟩
        have sT := same_upd (o := .tup [.str w, .int (a' : Int), .int (a : Int)]) nT
        refine ⟨R, _, _, rfl, rfl, sT _ _ eR9, lts, ?_⟩
        refine fin (.w w [a', a]) T _ _ _ _ _ _ ⟨.inl ⟨hk, rfl⟩, fun x hx => ?_⟩ (kA.trans (Keep.ofSame sT)) (BoxAt.mono (B9.same sT) (by omega)) upd_same
        simp only [List.mem_cons, List.not_mem_nil, or_false] at hx
        rcases hx with z | z <;> rw [z] <;> assumption
  · rintro σ H5 ⟨gs, y4, y5, y6, y7, y8, rfl, lg, ok, hR, B5, k5⟩
    exact ⟨_, rfl, q R gs _ lg ok nRb hR B5 k5⟩
end
section
variable {P : Program} {w : World} {K : PySem.W.Frag} {mg : Str → Option Value} {base : Heap}
variable {C : Addr} {za : Nat → Addr} {zl : Nat → FuncData}
/-! ### names and wires drawn -/
def W9 : List Str := ["sum", "word", "flags", "b", "", "Z 1", "guess", "zz", "a"]
def wd (i k : Nat) : Str := W9.getD i "" ++ strRep "x" k
theorem wd_ne {i j k l : Nat} (hi : i < 9) (hj : j < 9) (hk : k < 4) (hl : l < 4) (h : k ≠ l) : wd i k ≠ wd j l := by
  have all : (List.range 9).all (fun i => (List.range 9).all fun j => (List.range 4).all fun k => (List.range 4).all fun l => k == l || decide (wd i k ≠ wd j l)) = true := by decide +kernel
  have a := List.all_eq_true.mp all i (List.mem_range.mpr hi)
  have a := List.all_eq_true.mp a j (List.mem_range.mpr hj)
  have a := List.all_eq_true.mp a k (List.mem_range.mpr hk)
  have a := List.all_eq_true.mp a l (List.mem_range.mpr hl)
  rcases Bool.or_eq_true _ _ ▸ a with z | z
  · exact absurd (beq_iff_eq.mp z) h
  · exact of_decide_eq_true z
theorem w9_len {i : Nat} (hi : i < 9) : (W9.getD i "").length ≤ 5 := by
  have all : (List.range 9).all (fun i => decide ((W9.getD i "").length ≤ 5)) = true := by decide +kernel
  exact of_decide_eq_true (List.all_eq_true.mp all i (List.mem_range.mpr hi))
theorem at9s {r : Int} (h0 : 0 ≤ r) (h1 : r < 9) : ∃ i : Nat, i < 9 ∧ atI (W9.map V.str) r = some (.str (W9.getD i "")) := by
  obtain ⟨i, rfl⟩ : ∃ i : Nat, r = (i : Int) := ⟨r.toNat, by omega⟩
  refine ⟨i, by omega, atI_nat ?_⟩
  have hi : i < W9.length := by
    show i < 9
    omega
  rw [List.getElem?_map, List.getElem?_eq_getElem hi, List.getD, List.getElem?_eq_getElem hi]
  rfl
def spWord60 : Sp := fun vs H Q _ => ∃ (b : Addr) (c : Int) (k : Nat), vs = [.ref b, .int (k : Int)] ∧ BoxAt c H b ∧ c ≤ 900000000 ∧ k ≤ 3 ∧
  ∀ (i : Nat) (H' : Hp), i < 9 → BoxAt (c + 1) H' b → Keep b H H' → Q (.str (wd i k)) H'
theorem ok__law_word_of (B : Bl mg) (L : LL K mg C za zl) : FnOk P w K mg base CX0 2 (za 13) (zl 13) ["_law_box_here", "_law_some"] spWord60 := by
  have G__law_take : FnOk P w K mg base CX0 1 (za 6) (zl 6) ["_law_box_here", "_law_size"] (spTake 1) := (ok_take L.F__law_take L.b__law_take L.m__law_take B 1).mono (by decide)
  refine L.F__law_word_of.ok sc__law_word_of (fun vs H Q E h => ?_) (fun cdv A outer s H vs Q E hr h => ?_)
  · obtain ⟨b, c, k, rfl, _⟩ := h
    rfl
  obtain ⟨b, c, k, rfl, hB, hc, hk, q⟩ := h
  refine ⟨_, (pss_one (ps_ret (pe_op op_add_str (pe_ix ix_list (pe_lst (pa_cons pe_str (pa_cons pe_str (pa_cons pe_str (pa_cons pe_str (pa_cons pe_str (pa_cons pe_str (pa_cons pe_str (pa_cons pe_str (pa_cons pe_str pa_nil)))))))))) (pe_call G__law_take hr (by rfl) L.m__law_take L.F__law_take.kp L.b__law_take .nil pass0 (pa_cons (pv 0) (pa_cons pe_int pa_nil))) (fun _ _ => rfl)) (pe_op op_mul_str pe_str (pv 1))))), ?_⟩
  refine ⟨(by show 9 ≤ sizeLine; decide), fun K1 nK1 => ?_⟩
  have s1 := same_upd (o := .lst (W9.map V.str)) nK1
  have eK1 : (upd H K1 (.lst (W9.map V.str))) K1 = some (.lst (W9.map V.str)) := upd_same
  have nK1b : K1 ≠ b := (hB.ne nK1).symm
  refine ⟨_, rfl, b, _, _, rfl, hB.same s1, by decide, by decide, by decide, by omega, by decide, fun r1 H6 u1 v1 B6 k6 => ?_⟩
  replace B6 := bx1 B6
  obtain ⟨i, hi, ei⟩ := at9s u1 v1
  refine ⟨K1, _, _, _, rfl, rfl, SqL.of (k6 _ _ eK1 nK1b), ei, ?_⟩
  have l5 := w9_len hi
  refine ⟨_, rfl, _, k, rfl, rfl, by decide, by omega, _, _, rfl, rfl, ?_, q i H6 hi B6 ((Keep.ofSame s1).trans k6)⟩
  rw [strRep_len]
  have : ("x" : Str).length = 1 := by decide +kernel
  rw [this]
  exact Nat.le_trans (show _ ≤ 100 by omega) (by decide)
def GvOk (m : Nat) (nm : List (Str × List Nat)) : Prop := ∀ (i : Nat) (n : Str) (ws : List Nat), nm[i]? = some (n, ws) → (∃ w, w < 9 ∧ n = wd w i) ∧ ws.length ≤ 4 ∧ ∀ a ∈ ws, a < m
def GvAt (b : Addr) (H : Hp) (F : Addr) (nm : List (Str × List Nat)) : Prop := F ≠ b ∧ ∃ ts : List Addr, ts.length = nm.length ∧ H F = some (.lst (ts.map V.ref)) ∧ ∀ (i : Nat) (t : Addr) (n : Str) (ws : List Nat), ts[i]? = some t → nm[i]? = some (n, ws) → t ≠ b ∧ ∃ l, l ≠ b ∧ l ≠ F ∧ H t = some (.tup [.str n, .ref l]) ∧ H l = some (.lst (nts ws))
theorem GvAt.keep {b F : Addr} {H H' : Hp} {nm : List (Str × List Nat)} (h : GvAt b H F nm) (k : Keep b H H') : GvAt b H' F nm := by
  obtain ⟨h0, ts, h1, h2, h3⟩ := h
  refine ⟨h0, ts, h1, k _ _ h2 h0, fun i t n ws ht hn => ?_⟩
  obtain ⟨q0, l, q1, qF, q2, q3⟩ := h3 i t n ws ht hn
  exact ⟨q0, l, q1, qF, k _ _ q2 q0, k _ _ q3 q1⟩
def spGiven60 : Sp := fun vs H Q _ => ∃ (b : Addr) (c : Int) (m : Nat), vs = [.ref b, .int (m : Int)] ∧ BoxAt c H b ∧ c ≤ 800000000 ∧ 1 ≤ m ∧ m ≤ 900 ∧
  ∀ (F : Addr) (nm : List (Str × List Nat)) (H' : Hp), 1 ≤ nm.length → nm.length ≤ 3 → GvOk m nm → GvAt b H' F nm → BoxAt (c + 40) H' b → Keep b H H' → Q (.ref F) H'
theorem ok__law_given (B : Bl mg) (L : LL K mg C za zl) : FnOk P w K mg base CX0 3 (za 14) (zl 14) ["_law_box_here", "_law_far"] spGiven60 := by
  have G__law_take : FnOk P w K mg base CX0 2 (za 6) (zl 6) ["_law_box_here", "_law_size"] (spTake 1) := (ok_take L.F__law_take L.b__law_take L.m__law_take B 1).mono (by decide)
  have G__law_word_of : FnOk P w K mg base CX0 2 (za 13) (zl 13) ["_law_box_here", "_law_some"] spWord60 := (ok__law_word_of B L).mono (by decide)
  refine L.F__law_given.ok sc__law_given (fun vs H Q E h => ?_) (fun cdv A outer s H vs Q E hr h => ?_)
  · obtain ⟨b, c, m, rfl, _⟩ := h
    rfl
  obtain ⟨b, c, m, rfl, hB, hc, m1, m9, q⟩ := h
  refine ⟨_, (pss_cons (ps_set (i := 2) sc__law_given.nd rfl (.inl rfl) (pe_lst pa_nil))
    (pss_cons (ps_for PassesOwn.never rfl (pi_range1 (by rfl) B.range (pa_cons (pe_op op_add pe_int (pe_call G__law_take hr (by rfl) L.m__law_take L.F__law_take.kp L.b__law_take .nil pass0 (pa_cons (pv 0) (pa_cons pe_int pa_nil)))) pa_nil)) (pg_name (i := 3) sc__law_given.nd rfl (.inl rfl)) (pss_cons (ps_setLc (i := 4) (own := [("_law_turn", 5)]) (by rfl) sc__law_given.nd rfl rfl (sw_true rfl rfl rfl (by decide +kernel)) (pi_range1 (by rfl) B.range (pa_cons (pe_call G__law_take hr (by rfl) L.m__law_take L.F__law_take.kp L.b__law_take .nil pass0 (pa_cons (pv 0) (pa_cons pe_int pa_nil))) pa_nil)) (blkOk_by (own := [("_law_turn", 5)]) (N := ["_law_box_here", "_law_far", "_law_found", "_law_k", "_law_wires", "_law_turn"]) (sc := defScope s__law_given) (by decide +kernel)) (fun _ _ _ _ _ => pg_name (i := 5) sc__law_given.nd rfl (Or.inl rfl)) (fun _ _ _ _ _ => pts_nil) (fun _ _ _ _ _ => (pe_op op_sub (pe_op op_sub (pv 1) pe_int) (pe_call G__law_take hr (by rfl) L.m__law_take L.F__law_take.kp L.b__law_take .nil pass0 (pa_cons (pv 0) (pa_cons (pe_callB (call_min2 rfl) (by rfl) B.min boot_min (pa_cons (pv 1) (pa_cons (pe_ix (ix_listK (K := K)) (pe_lst (pa_cons pe_int (pa_cons pe_int pa_nil))) (pe_call G__law_take hr (by rfl) L.m__law_take L.F__law_take.kp L.b__law_take .nil pass0 (pa_cons (pv 0) (pa_cons pe_int pa_nil))) (fun _ _ => rfl)) pa_nil))) pa_nil))))))
    (pss_one (ps_expr (pe_bm PySem.F.plainAttrs_list PySem.F.slot_list_append PySem.F.type_list_append mt_append (pv 2) (pa_cons (pe_tup (pa_cons (pe_call G__law_word_of hr (by rfl) L.m__law_word_of L.F__law_word_of.kp L.b__law_word_of .nil pass0 (pa_cons (pv 0) (pa_cons (pv 3) pa_nil))) (pa_cons (pv 4) pa_nil))) pa_nil))))))
    (pss_one (ps_ret (pv 2))))), ?_⟩
  refine ⟨Nat.zero_le _, fun R nR => ?_⟩
  dsimp only [gName]
  try simp only [L2.start, List.map_cons, List.map_nil, List.length_cons, List.length_nil, List.replicate_succ, List.replicate_zero, List.cons_append, List.nil_append, List.set_cons_succ, List.set_cons_zero, Nat.reduceAdd, Nat.reduceSub, Nat.zero_add]
  refine ⟨_, rfl, b, _, _, rfl, hB.same (same_upd nR), by decide, by decide, by decide, by omega, by decide, fun r0 H0 u0 v0 B0 k0 => ?_⟩
  replace B0 := bx1 B0
  refine ⟨_, _, rfl, rfl, ?_⟩
  have nRb : R ≠ b := (hB.ne nR).symm
  have sR := same_upd (o := .lst []) nR
  have eR0 := k0 _ _ (upd_same (H := H) (a := R) (o := .lst [])) nRb
  have kR : Keep b H H0 := (Keep.ofSame sR).trans k0
  obtain ⟨n, en, n1, n3⟩ : ∃ n : Nat, (1 : Int) + r0 = (n : Int) ∧ 1 ≤ n ∧ n ≤ 3 := ⟨(1 + r0).toNat, by omega, by omega, by omega⟩
  refine ⟨_, rfl, by omega, by omega, ?_⟩
  rw [en, Int.toNat_natCast]
  refine for_range (n := n) (fun j σ H5 => ∃ (nm : List (Str × List Nat)) (y3 y4 y5 : Option V), σ = [some (.ref b), some (.int (m : Int)), some (.ref R), y3, y4, y5] ∧ nm.length = j ∧ GvOk m nm ∧ GvAt b H5 R nm ∧ BoxAt (c + 1 + 10 * j) H5 b ∧ Keep b H H5) ⟨[], _, _, _, rfl, rfl, (fun i n ws h => by simp at h), ⟨nRb, [], rfl, eR0, fun i t n ws h => by simp at h⟩, B0.mono (by omega), kR⟩ ?_ ?_
  · rintro j σ H5 hj ⟨nm, y3, y4, y5, rfl, lg, ok, ⟨_, ts, lt, eR, hts⟩, B5, k5⟩
    try simp only [L2.start, List.map_cons, List.map_nil, List.length_cons, List.length_nil, List.replicate_succ, List.replicate_zero, List.cons_append, List.nil_append, List.set_cons_succ, List.set_cons_zero, Nat.reduceAdd, Nat.reduceSub, Nat.zero_add]
    refine ⟨_, rfl, b, _, _, rfl, B5, by decide, by decide, by decide, by omega, by decide, fun r1 H6 u1 v1 B6 k6 => ?_⟩
    replace B6 := bx1 B6
    obtain ⟨w, rfl⟩ : ∃ w : Nat, r1 = (w : Int) := ⟨r1.toNat, by omega⟩
    refine ⟨_, rfl, by omega, by omega, fun D nD => ?_⟩
    have nDb : D ≠ b := (B6.ne nD).symm
    have eR6 := k6 _ _ eR nRb
    have nDR : D ≠ R := fun z => by
      rw [z, eR6] at nD
      cases nD
    rw [Int.toNat_natCast]
    refine lc_range (n := w) (fun i H7 => Keep b H6 H7 ∧ BoxAt (c + 1 + 10 * j + 1 + 2 * i) H7 b ∧ ∃ l : List Nat, l.length = i ∧ (∀ a ∈ l, a < m) ∧ H7 D = some (.lst (nts l))) ⟨Keep.new nD, (B6.same (same_upd nD)).mono (by omega), [], rfl, (fun _ z => nomatch z), upd_same⟩ ?_ ?_
    · rintro i H7 hi ⟨k7, B7, l, ll, sl, eD⟩
      refine ⟨rfl, yesT ?_⟩
      refine ⟨_, rfl, _, _, rfl, rfl, _, rfl, _, rfl, (by show 2 ≤ sizeLine; decide), fun K2 nK2 => ?_⟩
      have s2 := same_upd (o := .lst [.int 6, .int 99]) nK2
      have eK2 : (upd H7 K2 (.lst [.int 6, .int 99])) K2 = some (.lst [.int 6, .int 99]) := upd_same
      have nK2b : K2 ≠ b := (B7.ne nK2).symm
      refine ⟨_, rfl, b, _, _, rfl, B7.same s2, by decide, by decide, by decide, by omega, by decide, fun r2 H8 u2 v2 B8 k8 => ?_⟩
      replace B8 := bx1 B8
      obtain ⟨q2, eq2, hq2⟩ := at2i (x := 6) (y := 99) u2 v2
      refine ⟨K2, _, _, _, rfl, rfl, SqL.of (k8 _ _ eK2 nK2b), eq2, ?_⟩
      obtain ⟨mn, emn, n1, n6, n7⟩ : ∃ mn : Int, (if q2 < (m : Int) then q2 else (m : Int)) = mn ∧ 1 ≤ mn ∧ mn ≤ (m : Int) ∧ mn ≤ 99 := ⟨_, rfl, by split <;> omega, by split <;> omega, by split <;> omega⟩
      refine ⟨_, _, rfl, ?_⟩
      rw [emn]
      refine ⟨b, _, _, rfl, B8, by omega, by omega, by omega, by omega, by decide, fun r3 H9 u3 v3 B9 k9 => ?_⟩
      replace B9 := bx1 B9
      refine ⟨_, _, rfl, rfl, ?_⟩
      obtain ⟨a, ea⟩ : ∃ a : Nat, (m : Int) - 1 - r3 = (a : Int) := ⟨((m : Int) - 1 - r3).toNat, by omega⟩
      have kk : Keep b H7 H9 := ((Keep.ofSame s2).trans k8).trans k9
      refine ⟨_, kk _ _ eD nDb, ?_, fun x u e n => ?_, BoxAt.mono (B9.at (upd_ne nDb.symm)) (by omega), l ++ [a], by rw [List.length_append, ll]; rfl, fun x hx => ?_, ?_⟩
      · rw [nts_len]
        exact small1000 (by omega)
      · rw [upd_ne (ne_of_none e nD)]
        exact kk _ _ (k7 _ _ e n) n
      · rcases List.mem_append.mp hx with z | z
        · exact sl x z
        · rw [List.mem_singleton.mp z]
          omega
      · rw [upd_same]
        show some (HO.lst (nts l ++ [V.int ((m : Int) - 1 - r3)])) = _
        rw [ea]
        unfold nts
        rw [List.map_append]
        rfl
    rintro H7 ⟨k7, B7, l, ll, sl, eD⟩
    try simp only [L2.start, List.map_cons, List.map_nil, List.length_cons, List.length_nil, List.replicate_succ, List.replicate_zero, List.cons_append, List.nil_append, List.set_cons_succ, List.set_cons_zero, Nat.reduceAdd, Nat.reduceSub, Nat.zero_add]
    dsimp only [gName]
    try simp only [L2.start, List.map_cons, List.map_nil, List.length_cons, List.length_nil, List.replicate_succ, List.replicate_zero, List.cons_append, List.nil_append, List.set_cons_succ, List.set_cons_zero, Nat.reduceAdd, Nat.reduceSub, Nat.zero_add]
    rw [Int.zero_add]
    have eR7 := k7 _ _ eR6 nRb
    refine ⟨_, rfl, .inl ⟨rfl, _, SqL.of eR7⟩, _, rfl, _, rfl, b, _, j, rfl, B7, by omega, by omega, fun i HA hi BA kX => ?_⟩
    refine ⟨_, rfl, (by show 2 ≤ sizeLine; decide), fun T nT => ?_⟩
    have sT := same_upd (o := .tup [.str (wd i j), .ref D]) nT
    have nTb : T ≠ b := (BA.ne nT).symm
    have k5A : Keep b H5 HA := (k6.trans k7).trans kX
    have eRA := kX _ _ eR7 nRb
    have nTR : T ≠ R := fun z => by
      rw [z, eRA] at nT
      cases nT
    have kT : Keep b H5 (upd HA T (.tup [.str (wd i j), .ref D])) := k5A.trans (Keep.ofSame sT)
    have eDT := sT _ _ (kX _ _ eD nDb)
    have eTT : (upd HA T (.tup [.str (wd i j), .ref D])) T = some (.tup [.str (wd i j), .ref D]) := upd_same
    have eRT := sT _ _ eRA
    have BT := BA.same sT
    generalize upd HA T (.tup [.str (wd i j), .ref D]) = HT at *
    refine ⟨R, _, _, rfl, rfl, eRT, ?_, ?_⟩
    · rw [List.length_map, lt, lg]
      exact small1000 (by omega)
    refine ⟨nm ++ [(wd i j, l)], _, _, _, rfl, by rw [List.length_append, lg]; rfl, fun i' n' ws' h => ?_, ⟨nRb, ts ++ [T], by rw [List.length_append, List.length_append, lt]; rfl, by rw [upd_same, List.map_append]; rfl, fun i' t' n' ws' hi' hg' => ?_⟩, BoxAt.mono (BT.at (upd_ne nRb.symm)) (by omega), fun y u e ny => ?_⟩
    · by_cases d : i' < nm.length
      · rw [List.getElem?_append_left d] at h
        exact ok i' n' ws' h
      · have i0 : i' = nm.length := by
          have := (List.getElem?_eq_some_iff.mp h).1
          rw [List.length_append, List.length_cons, List.length_nil] at this
          omega
        rw [List.getElem?_append_right (by omega), i0, Nat.sub_self] at h
        cases h
        rw [i0, lg]
        exact ⟨⟨i, hi, rfl⟩, by omega, sl⟩
    · by_cases d : i' < ts.length
      · rw [List.getElem?_append_left d] at hi'
        rw [List.getElem?_append_left (by omega)] at hg'
        obtain ⟨q0, l', q1, qF, q2, q3⟩ := hts i' t' n' ws' hi' hg'
        refine ⟨q0, l', q1, qF, ?_, ?_⟩
        · rw [upd_ne (fun z => by rw [z, eR] at q2; cases q2)]
          exact kT _ _ q2 q0
        · rw [upd_ne qF]
          exact kT _ _ q3 q1
      · have i0 : i' = ts.length := by
          have := (List.getElem?_eq_some_iff.mp hi').1
          rw [List.length_append, List.length_cons, List.length_nil] at this
          omega
        rw [List.getElem?_append_right (by omega), i0, Nat.sub_self] at hi'
        rw [List.getElem?_append_right (by omega), i0, lt, Nat.sub_self] at hg'
        cases hi'
        cases hg'
        refine ⟨nTb, D, nDb, nDR, ?_, ?_⟩
        · rw [upd_ne nTR]
          exact eTT
        · rw [upd_ne nDR]
          exact eDT
    · rw [upd_ne (ne_of_none e nR)]
      exact kT _ _ (k5 _ _ e ny) ny
  · rintro σ H5 ⟨nm, y3, y4, y5, rfl, lg, ok, hR, B5, k5⟩
    exact ⟨_, rfl, q R nm _ (by omega) (by omega) ok hR (B5.mono (by omega)) k5⟩
end
section
variable {P : Program} {w : World} {K : PySem.W.Frag} {mg : Str → Option Value} {base : Heap}
variable {C : Addr} {za : Nat → Addr} {zl : Nat → FuncData}
/-! ### the net of drawn gates -/
theorem Gt.row0 (k : Str) (ws : List Nat) : atI (Gt.w k ws).row 0 = some (.str k) := atI_nat (j := 0) rfl
def spNet60 (C : Addr) : Sp := fun vs H Q _ => ∃ (Z : List Addr) (R F b : Addr) (m : Nat) (gs : List Gt) (nm : List (Str × List Nat)), vs = [.int (m : Int), .ref R, .ref F] ∧ (∀ z ∈ Z, H z ≠ none) ∧ RowsAt46 H R gs ∧ GsOk m gs ∧ GvAt b H F nm ∧ GvOk (m + gs.length) nm ∧ nm.length ≤ 3 ∧ m ≤ 100 ∧ gs.length ≤ 200 ∧
  ∀ (p : NetP) (H' : Hp), Same H H' → NetAt C Z H' p m gs nm → (H p.x = none ∧ H p.lm = none ∧ H p.ld = none ∧ H p.dn = none) → Q (.ref p.x) H'
theorem ok__law_net (B : Bl mg) (L : LL K mg C za zl) : FnOk P w K mg base CX0 5 (za 10) (zl 10) ["_law_first", "_law_rows", "_law_given_here"] (spNet60 C) := by
  have G_Net___init__ : FnOk P w K mg base CX0 3 (za 20) (zl 20) ["self", "many"] (spNetI C) := (ok_Net___init__ B L).mono (by decide)
  have G_Net_both : FnOk P w K mg base CX0 4 (za 21) (zl 21) ["self", "a", "b"] (spG2 C "both") := (ok_Net_both B L).mono (by decide)
  have G_Net_either : FnOk P w K mg base CX0 4 (za 22) (zl 22) ["self", "a", "b"] (spG2 C "either") := (ok_Net_either B L).mono (by decide)
  have G_Net_unlike : FnOk P w K mg base CX0 4 (za 23) (zl 23) ["self", "a", "b"] (spG2 C "unlike") := (ok_Net_unlike B L).mono (by decide)
  have G_Net_other : FnOk P w K mg base CX0 4 (za 24) (zl 24) ["self", "a"] (spG1 C) := (ok_Net_other B L).mono (by decide)
  have G_Net_fixed : FnOk P w K mg base CX0 4 (za 25) (zl 25) ["self", "bit"] (spFixed C) := (ok_Net_fixed B L).mono (by decide)
  have G_Net_give : FnOk P w K mg base CX0 4 (za 29) (zl 29) ["self", "name", "wires"] (spGive K C) := (ok_Net_give B L).mono (by decide)
  refine L.F__law_net.ok sc__law_net (fun vs H Q E h => ?_) (fun cdv A outer s H vs Q E hr h => ?_)
  · obtain ⟨Z, R, F, b, m, gs, nm, rfl, _⟩ := h
    rfl
  obtain ⟨Z, R, F, b, m, gs, nm, rfl, hZ, ⟨ts, lt, eR, hts⟩, ok, ⟨hFb, us, lu, eF, hus⟩, gok, hnm3, hm, hg, q⟩ := h
  refine ⟨_, (pss_cons (ps_set (i := 3) sc__law_net.nd rfl (.inl rfl) (pe_make L.M G_Net___init__ hr (by rfl) L.T.mgC L.b_Net___init__ .nil pass0 (pa_cons (pv 0) pa_nil)))
    (pss_cons (ps_for PassesOwn.never rfl (pi_list (pv 1)) (pg_name (i := 4) sc__law_net.nd rfl (.inl rfl)) (pss_one (ps_if (pt_cmpR op_eq (pe_ix ix_tup (pv 4) pe_int (fun _ _ => rfl)) pe_str (nomark _)) (pss_one (ps_expr (pe_meth (pv 3) L.T.cl L.M_Net_both G_Net_both hr L.b_Net_both .nil pass0 (pa_cons (pe_ix ix_tup (pv 4) pe_int (fun _ _ => rfl)) (pa_cons (pe_ix ix_tup (pv 4) pe_int (fun _ _ => rfl)) pa_nil))))) (pss_one (ps_if (pt_cmpR op_eq (pe_ix ix_tup (pv 4) pe_int (fun _ _ => rfl)) pe_str (nomark _)) (pss_one (ps_expr (pe_meth (pv 3) L.T.cl L.M_Net_either G_Net_either hr L.b_Net_either .nil pass0 (pa_cons (pe_ix ix_tup (pv 4) pe_int (fun _ _ => rfl)) (pa_cons (pe_ix ix_tup (pv 4) pe_int (fun _ _ => rfl)) pa_nil))))) (pss_one (ps_if (pt_cmpR op_eq (pe_ix ix_tup (pv 4) pe_int (fun _ _ => rfl)) pe_str (nomark _)) (pss_one (ps_expr (pe_meth (pv 3) L.T.cl L.M_Net_unlike G_Net_unlike hr L.b_Net_unlike .nil pass0 (pa_cons (pe_ix ix_tup (pv 4) pe_int (fun _ _ => rfl)) (pa_cons (pe_ix ix_tup (pv 4) pe_int (fun _ _ => rfl)) pa_nil))))) (pss_one (ps_if (pt_cmpR op_eq (pe_ix ix_tup (pv 4) pe_int (fun _ _ => rfl)) pe_str (nomark _)) (pss_one (ps_expr (pe_meth (pv 3) L.T.cl L.M_Net_other G_Net_other hr L.b_Net_other .nil pass0 (pa_cons (pe_ix ix_tup (pv 4) pe_int (fun _ _ => rfl)) pa_nil)))) (pss_one (ps_expr (pe_meth (pv 3) L.T.cl L.M_Net_fixed G_Net_fixed hr L.b_Net_fixed .nil pass0 (pa_cons (pe_ix ix_tup (pv 4) pe_int (fun _ _ => rfl)) pa_nil)))))))))))))
    (pss_cons (ps_for PassesOwn.never rfl (pi_list (pv 2)) (pg_tup (by rfl) (pgs_cons (pg_name (i := 5) sc__law_net.nd rfl (.inl rfl)) (pgs_cons (pg_name (i := 6) sc__law_net.nd rfl (.inl rfl)) pgs_nil))) (pss_one (ps_expr (pe_meth (pv 3) L.T.cl L.M_Net_give G_Net_give hr L.b_Net_give .nil pass0 (pa_cons (pv 5) (pa_cons (pe_callTy call_list_of (by rfl) B.list PyProof.Rows.boot_list (pa_cons (pv 6) pa_nil)) pa_nil))))))
    (pss_one (ps_ret (pv 3)))))), ?_⟩
  refine ⟨_, rfl, fun x dx nx ndx ne => ?_⟩
  refine ⟨x, dx, m, rfl, upd_same, by omega, fun p H1 px fr ⟨n1, n2, n3⟩ N0 => ⟨rfl, ?_⟩⟩
  have s1 : Same H H1 := made nx ndx ne fr
  subst px
  have up : ∀ {y : Addr}, (upd (upd H dx (.own p.x)) p.x (.ins C dx [])) y = none → H y = none := fun {y} e => by
    cases h : H y with
    | none => rfl
    | some o =>
      rw [upd_ne (ne_of_none h nx), upd_ne (ne_of_none h ndx), h] at e
      cases e
  have N1 := N0 Z (fun z hz => by
    have h := hZ z hz
    have a : z ≠ p.x := fun y => h (by rw [y]; exact nx)
    have b : z ≠ dx := fun y => h (by rw [y]; exact ndx)
    exact ⟨a, by rw [upd_ne a, upd_ne b]; exact h⟩)
  have m1 := up n1
  have m2 := up n2
  have m3 := up n3
  try simp only [L2.start, List.map_cons, List.map_nil, List.length_cons, List.length_nil, List.replicate_succ, List.replicate_zero, List.cons_append, List.nil_append, List.set_cons_succ, List.set_cons_zero, Nat.reduceAdd, Nat.reduceSub, Nat.zero_add]
  have eR1 := s1 _ _ eR
  refine ⟨_, rfl, R, rfl, ⟨_, SqL.of eR1⟩, ?_⟩
  refine for_it (walk_list (K := K) (a := R) (xs := ts.map V.ref)) (fun j σ H9 => ∃ y : Option V, σ = [some (.int (m : Int)), some (.ref R), some (.ref F), some (.ref p.x), y, none, none] ∧ Same H H9 ∧ NetAt C Z H9 p m (gs.take j) []) ⟨_, rfl, s1, N1⟩ (fun j σ H9 _ ⟨_, _, s9, _⟩ => SqL.of (s9 _ _ eR)) ?_ ?_
  · rintro j z σ H9 H10 hj ⟨y, rfl, s9, N9⟩ ⟨rfl, hz⟩
    rw [List.getElem?_map] at hz
    have hj' : j < ts.length := by
      rw [List.length_map] at hj
      exact hj
    rw [List.getElem?_eq_getElem hj'] at hz
    cases hz
    have hgj : gs[j]? = some (gs[j]'(by omega)) := List.getElem?_eq_getElem (by omega)
    have et := s9 _ _ (hts j _ _ (List.getElem?_eq_getElem hj') hgj)
    have okj := ok j _ hgj
    have lj : (gs.take j).length = j := by
      rw [List.length_take]
      omega
    have tk : gs.take (j + 1) = gs.take j ++ [gs[j]'(by omega)] := by
      rw [List.take_add_one, hgj]
      rfl
    obtain ⟨_, _, _, dx9, _, _, e1, _⟩ := id N9
    have kp : ∀ {H' : Hp}, KeepS [p.lm, p.ld] H10 H' → Same H H' := fun k y o e => k.1 y o (s9 _ _ e) (fun z => by
      simp only [List.mem_cons, List.not_mem_nil, or_false] at z
      rcases z with z | z
      · rw [z, m1] at e
        cases e
      · rw [z, m2] at e
        cases e)
    generalize gs[j]'(by omega) = g at et okj tk
    try simp only [L2.start, List.map_cons, List.map_nil, List.length_cons, List.length_nil, List.replicate_succ, List.replicate_zero, List.cons_append, List.nil_append, List.set_cons_succ, List.set_cons_zero, Nat.reduceAdd, Nat.reduceSub, Nat.zero_add]
    have nS : ∀ {x y : Str}, ¬ x = y → ¬ decide (V.str x = V.str y) = true := fun h z => h (V.str.inj (of_decide_eq_true z))
    dsimp only [gName]
    try simp only [L2.start, List.map_cons, List.map_nil, List.length_cons, List.length_nil, List.replicate_succ, List.replicate_zero, List.cons_append, List.nil_append, List.set_cons_succ, List.set_cons_zero, Nat.reduceAdd, Nat.reduceSub, Nat.zero_add]
    cases g with
    | fi b =>
      have r0 : atI (Gt.fi b).row 0 = some (.str "fixed") := rfl
      refine ⟨_, rfl, ts[j], _, _, _, rfl, rfl, .inl (.inl et), r0, rfl, _, rfl, ite2 (fun z => absurd z (nS (by decide +kernel))) (fun _ => ?_)⟩
      refine ⟨_, rfl, ts[j], _, _, _, rfl, rfl, .inl (.inl et), r0, rfl, _, rfl, ite2 (fun z => absurd z (nS (by decide +kernel))) (fun _ => ?_)⟩
      refine ⟨_, rfl, ts[j], _, _, _, rfl, rfl, .inl (.inl et), r0, rfl, _, rfl, ite2 (fun z => absurd z (nS (by decide +kernel))) (fun _ => ?_)⟩
      refine ⟨_, rfl, ts[j], _, _, _, rfl, rfl, .inl (.inl et), r0, rfl, _, rfl, ite2 (fun z => absurd z (nS (by decide +kernel))) (fun _ => ?_)⟩
      refine ⟨_, rfl, p.x, dx9, _, rfl, e1, rfl, _, rfl, ts[j], _, _, _, rfl, rfl, .inl (.inl et), rfl, Z, p, m, gs.take j, [], b, rfl, N9, by rw [lj]; omega, fun H' k' N' => ?_⟩
      exact ⟨_, rfl, kp k', by rw [tk]; exact N'⟩
    | w k ws =>
      have r0 := Gt.row0 k ws
      rcases okj.1 with ⟨hk, l2⟩ | ⟨rfl, l1⟩
      · obtain ⟨a, b, rfl⟩ : ∃ a b, ws = [a, b] := by
          match ws, l2 with
          | [a, b], _ => exact ⟨_, _, rfl⟩
        rcases hk with rfl | rfl | rfl
        · refine ⟨_, rfl, ts[j], _, _, _, rfl, rfl, .inl (.inl et), r0, rfl, _, rfl, ite2 (fun _ => ?_) (fun z => absurd (decide_eq_true rfl) z)⟩
          refine ⟨_, rfl, p.x, dx9, _, rfl, e1, rfl, _, rfl, ts[j], _, _, _, rfl, rfl, .inl (.inl et), rfl, _, rfl, ts[j], _, _, _, rfl, rfl, .inl (.inl et), rfl, Z, p, m, gs.take j, [], a, b, rfl, N9, by rw [lj]; exact okj.2 a (by simp), by rw [lj]; exact okj.2 b (by simp), by rw [lj]; omega, fun H' k' N' => ?_⟩
          exact ⟨_, rfl, kp k', by rw [tk]; exact N'⟩
        · refine ⟨_, rfl, ts[j], _, _, _, rfl, rfl, .inl (.inl et), r0, rfl, _, rfl, ite2 (fun z => absurd z (nS (by decide +kernel))) (fun _ => ?_)⟩
          refine ⟨_, rfl, ts[j], _, _, _, rfl, rfl, .inl (.inl et), r0, rfl, _, rfl, ite2 (fun _ => ?_) (fun z => absurd (decide_eq_true rfl) z)⟩
          refine ⟨_, rfl, p.x, dx9, _, rfl, e1, rfl, _, rfl, ts[j], _, _, _, rfl, rfl, .inl (.inl et), rfl, _, rfl, ts[j], _, _, _, rfl, rfl, .inl (.inl et), rfl, Z, p, m, gs.take j, [], a, b, rfl, N9, by rw [lj]; exact okj.2 a (by simp), by rw [lj]; exact okj.2 b (by simp), by rw [lj]; omega, fun H' k' N' => ?_⟩
          exact ⟨_, rfl, kp k', by rw [tk]; exact N'⟩
        · refine ⟨_, rfl, ts[j], _, _, _, rfl, rfl, .inl (.inl et), r0, rfl, _, rfl, ite2 (fun z => absurd z (nS (by decide +kernel))) (fun _ => ?_)⟩
          refine ⟨_, rfl, ts[j], _, _, _, rfl, rfl, .inl (.inl et), r0, rfl, _, rfl, ite2 (fun z => absurd z (nS (by decide +kernel))) (fun _ => ?_)⟩
          refine ⟨_, rfl, ts[j], _, _, _, rfl, rfl, .inl (.inl et), r0, rfl, _, rfl, ite2 (fun _ => ?_) (fun z => absurd (decide_eq_true rfl) z)⟩
          refine ⟨_, rfl, p.x, dx9, _, rfl, e1, rfl, _, rfl, ts[j], _, _, _, rfl, rfl, .inl (.inl et), rfl, _, rfl, ts[j], _, _, _, rfl, rfl, .inl (.inl et), rfl, Z, p, m, gs.take j, [], a, b, rfl, N9, by rw [lj]; exact okj.2 a (by simp), by rw [lj]; exact okj.2 b (by simp), by rw [lj]; omega, fun H' k' N' => ?_⟩
          exact ⟨_, rfl, kp k', by rw [tk]; exact N'⟩
      · obtain ⟨a, rfl⟩ : ∃ a, ws = [a] := by
          match ws, l1 with
          | [a], _ => exact ⟨_, rfl⟩
        refine ⟨_, rfl, ts[j], _, _, _, rfl, rfl, .inl (.inl et), r0, rfl, _, rfl, ite2 (fun z => absurd z (nS (by decide +kernel))) (fun _ => ?_)⟩
        refine ⟨_, rfl, ts[j], _, _, _, rfl, rfl, .inl (.inl et), r0, rfl, _, rfl, ite2 (fun z => absurd z (nS (by decide +kernel))) (fun _ => ?_)⟩
        refine ⟨_, rfl, ts[j], _, _, _, rfl, rfl, .inl (.inl et), r0, rfl, _, rfl, ite2 (fun z => absurd z (nS (by decide +kernel))) (fun _ => ?_)⟩
        refine ⟨_, rfl, ts[j], _, _, _, rfl, rfl, .inl (.inl et), r0, rfl, _, rfl, ite2 (fun _ => ?_) (fun z => absurd (decide_eq_true rfl) z)⟩
        refine ⟨_, rfl, p.x, dx9, _, rfl, e1, rfl, _, rfl, ts[j], _, _, _, rfl, rfl, .inl (.inl et), rfl, Z, p, m, gs.take j, [], a, rfl, N9, by rw [lj]; exact okj.2 a (by simp), by rw [lj]; omega, fun H' k' N' => ?_⟩
        exact ⟨_, rfl, kp k', by rw [tk]; exact N'⟩
  · rintro σ H9 ⟨y, rfl, s9, N9⟩
    rw [List.length_map, List.take_of_length_le (by omega)] at N9
    dsimp only [tSeq]
    refine ⟨_, rfl, F, rfl, ⟨_, SqL.of (s9 _ _ eF)⟩, ?_⟩
    refine for_it (walk_list (K := K) (a := F) (xs := us.map V.ref)) (fun j σ H9 => ∃ y4 y5 y6 : Option V, σ = [some (.int (m : Int)), some (.ref R), some (.ref F), some (.ref p.x), y4, y5, y6] ∧ Same H H9 ∧ NetAt C Z H9 p m gs (nm.take j)) ⟨_, _, _, rfl, s9, N9⟩ (fun j σ H9 _ ⟨_, _, _, _, s9, _⟩ => SqL.of (s9 _ _ eF)) ?_ ?_
    · rintro j z σ H5 H6 hj ⟨y4, y5, y6, rfl, s5, N5⟩ ⟨rfl, hz⟩
      rw [List.getElem?_map] at hz
      have hj' : j < us.length := by
        rw [List.length_map] at hj
        exact hj
      rw [List.getElem?_eq_getElem hj'] at hz
      cases hz
      obtain ⟨⟨n, ws⟩, hnj⟩ : ∃ x, nm[j]? = some x := ⟨_, List.getElem?_eq_getElem (by omega)⟩
      obtain ⟨q0, l, q1, qF, q2, q3⟩ := hus j _ _ _ (List.getElem?_eq_getElem hj') hnj
      obtain ⟨⟨w, hw, ew⟩, lw, hws⟩ := gok j _ _ hnj
      have tk : nm.take (j + 1) = nm.take j ++ [(n, ws)] := by
        rw [List.take_add_one, hnj]
        rfl
      refine ⟨us[j], _, rfl, .inl (.inl (s5 _ _ q2)), rfl, ?_⟩
      refine ⟨_, _, rfl, ?_⟩
      dsimp only [gName]
      try simp only [L2.start, List.map_cons, List.map_nil, List.length_cons, List.length_nil, List.replicate_succ, List.replicate_zero, List.cons_append, List.nil_append, List.set_cons_succ, List.set_cons_zero, Nat.reduceAdd, Nat.reduceSub, Nat.zero_add]
      refine ⟨_, _, rfl, ?_⟩
      dsimp only [gName, gNil]
      try simp only [L2.start, List.map_cons, List.map_nil, List.length_cons, List.length_nil, List.replicate_succ, List.replicate_zero, List.cons_append, List.nil_append, List.set_cons_succ, List.set_cons_zero, Nat.reduceAdd, Nat.reduceSub, Nat.zero_add]
      obtain ⟨_, _, _, dx5, _, _, e5, _⟩ := id N5
      refine ⟨trivial, _, rfl, p.x, dx5, _, rfl, e5, rfl, _, rfl, _, rfl, l, _, rfl, .inl (SqL.of (s5 _ _ q3)), fun L nL => ?_⟩
      have sL := same_upd (o := .lst (nts ws)) nL
      have eL : (upd H6 L (.lst (nts ws))) L = some (.lst (nts ws)) := upd_same
      refine ⟨Z, p, m, gs, nm.take j, n, L, ws, rfl, N5.same sL, fun hx => ?_, .inl (SqL.of eL), hws, by rw [List.length_take]; omega, fun H' k' N' => ?_⟩
      · obtain ⟨⟨n', ws'⟩, hx1, hx2⟩ := List.mem_map.mp hx
        obtain ⟨i, hi, ei⟩ := List.getElem_of_mem hx1
        have hi' : i < j := by
          rw [List.length_take] at hi
          omega
        have hni : nm[i]? = some (n', ws') := by
          rw [← ei, List.getElem_take]
          exact List.getElem?_eq_getElem _
        obtain ⟨⟨w', hw', ew'⟩, _⟩ := gok i _ _ hni
        refine wd_ne (i := w') (j := w) (k := i) (l := j) hw' hw (by omega) (by omega) (by omega) ?_
        rw [← ew', ← ew]
        exact hx2
      · refine ⟨_, _, _, rfl, fun y o e => k'.1 y o (sL _ _ (s5 _ _ e)) (fun z => ?_), by rw [tk]; exact N'⟩
        rw [List.mem_singleton.mp z, m3] at e
        cases e
    · rintro σ H9 ⟨y4, y5, y6, rfl, s9, N9⟩
      rw [List.length_map, List.take_of_length_le (by omega)] at N9
      exact ⟨_, rfl, q p H9 s9 N9 ⟨nx, m1, m2, m3⟩⟩
end
section
variable {P : Program} {w : World} {K : PySem.W.Frag} {mg : Str → Option Value} {base : Heap}
variable {C : Addr} {za : Nat → Addr} {zl : Nat → FuncData}
/-! ### drawn cubes -/
def BtL (l : List Nat) : Prop := ∀ c ∈ l, c = 48 ∨ c = 49
def SgL (l : List Nat) : Prop := ∀ c ∈ l, c = 45 ∨ c = 48 ∨ c = 49
theorem at2 {r : Int} (h0 : 0 ≤ r) (h1 : r < 2) : ∃ c, atI (Str.ofString "01").cps.toList r = some c ∧ (c = 48 ∨ c = 49) := by
  have : r = 0 ∨ r = 1 := by omega
  rcases this with z | z <;> subst z
  · exact ⟨48, by decide +kernel, by decide⟩
  · exact ⟨49, by decide +kernel, by decide⟩
theorem ln8 : (Str.ofString "01-01---").length ≤ sizeLine := by decide +kernel
theorem ln2 : (Str.ofString "01").length ≤ sizeLine := by decide +kernel
theorem sg_snoc {l : List Nat} {c : Nat} (h : SgL l) (hc : c = 45 ∨ c = 48 ∨ c = 49) : SgL (l ++ [c]) := fun d hd => by
  rcases List.mem_append.mp hd with z | z
  · exact h d z
  · rw [List.mem_singleton.mp z]
    exact hc
theorem bt_snoc {l : List Nat} {c : Nat} (h : BtL l) (hc : c = 48 ∨ c = 49) : BtL (l ++ [c]) := fun d hd => by
  rcases List.mem_append.mp hd with z | z
  · exact h d z
  · rw [List.mem_singleton.mp z]
    exact hc
def s1s (l : List Nat) : List V := (l.map fun c => SX.S [c]).map V.str
theorem s1s_snoc (l : List Nat) (c : Nat) : s1s l ++ [.str (SX.S [c])] = s1s (l ++ [c]) := by
  unfold s1s
  rw [List.map_append, List.map_append]
  rfl
theorem s1s_len (l : List Nat) : (s1s l).length = l.length := by
  unfold s1s
  rw [List.length_map, List.length_map]
theorem at8 {r : Int} (h0 : 0 ≤ r) (h1 : r < 8) : ∃ c, atI (Str.ofString "01-01---").cps.toList r = some c ∧ (c = 45 ∨ c = 48 ∨ c = 49) := by
  have : r = 0 ∨ r = 1 ∨ r = 2 ∨ r = 3 ∨ r = 4 ∨ r = 5 ∨ r = 6 ∨ r = 7 := by omega
  rcases this with z | z | z | z | z | z | z | z <;> subst z
  · exact ⟨48, by decide +kernel, by decide⟩
  · exact ⟨49, by decide +kernel, by decide⟩
  · exact ⟨45, by decide +kernel, by decide⟩
  · exact ⟨48, by decide +kernel, by decide⟩
  · exact ⟨49, by decide +kernel, by decide⟩
  · exact ⟨45, by decide +kernel, by decide⟩
  · exact ⟨45, by decide +kernel, by decide⟩
  · exact ⟨45, by decide +kernel, by decide⟩
theorem at3i {r : Int} (h0 : 0 ≤ r) (h1 : r < 3) : ∃ z : Int, atI ([.int 8, .int 5, .int 3] : List V) r = some (.int z) ∧ 1 ≤ z ∧ z ≤ 8 := by
  have : r = 0 ∨ r = 1 ∨ r = 2 := by omega
  rcases this with z | z | z <;> subst z
  · exact ⟨_, rfl, by decide, by decide⟩
  · exact ⟨_, rfl, by decide, by decide⟩
  · exact ⟨_, rfl, by decide, by decide⟩
theorem S_tl (x : List Nat) : (SX.S x).cps.toList = x := rfl
theorem cut_to (x : List Nat) (p : Nat) (h : p ≤ x.length) : cutS (SX.S x) none (some (p : Int)) = SX.S (x.take p) := by
  unfold cutS
  rw [S_tl, SX.S_len, HT.sIx_none, HT.sIx_nat, Nat.min_eq_left h, List.drop_zero, Nat.sub_zero]
theorem cut_from (x : List Nat) (p : Nat) (h : p ≤ x.length) : cutS (SX.S x) (some (p : Int)) none = SX.S (x.drop p) := by
  unfold cutS
  rw [S_tl, SX.S_len, HT.sIx_none, HT.sIx_nat, Nat.min_eq_left h, List.take_of_length_le (by rw [List.length_drop]; exact Nat.le_refl _)]
theorem zS {x : List Nat} (h : x.length ≤ 950) : (SX.S x).length ≤ sizeLine := by
  rw [SX.S_len]
  exact Nat.le_of_lt (small1000 (by omega))
theorem set_cut {x : List Nat} {p : Nat} (c : Nat) (h : p < x.length) : x.take p ++ c :: x.drop (p + 1) = x.set p c := by
  rw [List.set_eq_take_append_cons_drop, if_pos h]
theorem nul : Str.ofString "0" = SX.S [48] := by decide +kernel
theorem eins : Str.ofString "1" = SX.S [49] := by decide +kernel
theorem E_cat (x : Str) : Str.empty ++ x = x := by
  show (⟨#[] ++ x.cps⟩ : Str) = x
  rw [Array.empty_append]
theorem at_S {x : List Nat} {p c : Nat} (h : x[p]? = some c) : atI (SX.S x).cps.toList (p : Int) = some c := atI_nat h
def spCube60 : Sp := fun vs H Q _ => ∃ (b : Addr) (m : Nat) (c : Int), vs = [.ref b, .int (m : Int)] ∧ BoxAt c H b ∧ c ≤ 900000000 ∧ m ≤ 900 ∧
  ∀ (l : List Nat) (H' : Hp), l.length = m → SgL l → BoxAt (c + 1 + m) H' b → Keep b H H' → Q (.str (SX.S l)) H'
theorem ok__law_cube (B : Bl mg) (L : LL K mg C za zl) : FnOk P w K mg base CX0 2 (za 15) (zl 15) ["_law_box_here", "_law_many"] spCube60 := by
  have G__law_take : FnOk P w K mg base CX0 1 (za 6) (zl 6) ["_law_box_here", "_law_size"] (spTake 1) := (ok_take L.F__law_take L.b__law_take L.m__law_take B 1).mono (by decide)
  refine L.F__law_cube.ok sc__law_cube (fun vs H Q E h => ?_) (fun cdv A outer s H vs Q E hr h => ?_)
  · obtain ⟨b, m, c, rfl, _⟩ := h
    rfl
  obtain ⟨b, m, c, rfl, hB, hc, hm, q⟩ := h
  refine ⟨_, (pss_cons (ps_set (i := 2) sc__law_cube.nd rfl (.inr rfl) (pe_call G__law_take hr (by rfl) L.m__law_take L.F__law_take.kp L.b__law_take .nil pass0 (pa_cons (pv 0) (pa_cons pe_int pa_nil))))
    (pss_one (ps_ret (pe_bm PySem.F.plainAttrs_str PySem.F.slot_str_join PySem.F.type_str_join mt_join pe_str (pa_cons (pe_lc (own := [("_law_turn", 3)]) (by rfl) sc__law_cube.nd (pi_range1 (by rfl) B.range (pa_cons (pv 1) pa_nil)) (blkOk_by (own := [("_law_turn", 3)]) (N := ["_law_box_here", "_law_many", "_law_few", "_law_turn"]) (sc := defScope s__law_cube) (by decide +kernel)) (fun _ _ _ _ _ => pg_name (i := 3) sc__law_cube.nd rfl (Or.inl rfl)) (fun _ _ _ _ _ => pts_nil) (fun _ _ _ _ _ => (pe_ix ix_str pe_str (pe_call G__law_take hr (by rfl) L.m__law_take L.F__law_take.kp L.b__law_take .nil pass0 (pa_cons (pv 0) (pa_cons (pe_ix (ix_listK (K := K)) (pe_lst (pa_cons pe_int (pa_cons pe_int (pa_cons pe_int pa_nil)))) (pv 2) (fun _ _ => rfl)) pa_nil))) (fun _ _ => rfl)))) pa_nil))))), ?_⟩
  refine ⟨_, rfl, b, _, _, rfl, hB, by decide, by decide, by decide, by omega, by decide, fun r0 H0 u0 v0 B0 k0 => ?_⟩
  replace B0 := bx1 B0
  try simp only [L2.start, List.map_cons, List.map_nil, List.length_cons, List.length_nil, List.replicate_succ, List.replicate_zero, List.cons_append, List.nil_append, List.set_cons_succ, List.set_cons_zero, Nat.reduceAdd, Nat.reduceSub, Nat.zero_add]
  dsimp only [gName]
  try simp only [L2.start, List.map_cons, List.map_nil, List.length_cons, List.length_nil, List.replicate_succ, List.replicate_zero, List.cons_append, List.nil_append, List.set_cons_succ, List.set_cons_zero, Nat.reduceAdd, Nat.reduceSub, Nat.zero_add]
  refine ⟨rfl, _, rfl, _, rfl, by omega, by omega, fun D nD => ?_⟩
  have nDb : D ≠ b := (B0.ne nD).symm
  rw [Int.toNat_natCast]
  refine lc_range (n := m) (fun j H7 => Keep b H0 H7 ∧ BoxAt (c + 1 + j) H7 b ∧ ∃ l : List Nat, l.length = j ∧ SgL l ∧ H7 D = some (.lst (s1s l))) ⟨Keep.new nD, (B0.same (same_upd nD)).mono (by omega), [], rfl, (fun _ z => nomatch z), upd_same⟩ ?_ ?_
  · rintro j H7 hj ⟨k7, B7, l, ll, sl, eD⟩
    refine ⟨rfl, yesT ?_⟩
    refine ⟨_, rfl, (by show 3 ≤ sizeLine; decide), fun K1 nK1 => ?_⟩
    have s1 := same_upd (o := .lst [.int 8, .int 5, .int 3]) nK1
    have eK1 : (upd H7 K1 (.lst [.int 8, .int 5, .int 3])) K1 = some (.lst [.int 8, .int 5, .int 3]) := upd_same
    obtain ⟨z, ez, z1, z8⟩ := at3i u0 v0
    refine ⟨_, rfl, K1, _, _, _, rfl, rfl, SqL.of eK1, ez, ?_⟩
    refine ⟨b, _, _, rfl, B7.same s1, by omega, by omega, by omega, by omega, by decide, fun r H8 u1 v1 B8 k8 => ?_⟩
    replace B8 := bx1 B8
    obtain ⟨d, ed, hd⟩ := at8 u1 (by omega)
    have kk : Keep b H7 H8 := (Keep.ofSame s1).trans k8
    refine ⟨_, _, d, rfl, rfl, ln8, ed, ?_⟩
    refine ⟨_, kk _ _ eD nDb, ?_, fun x u e n => ?_, BoxAt.mono (B8.at (upd_ne nDb.symm)) (by omega), l ++ [d], by rw [List.length_append, ll]; rfl, sg_snoc sl hd, ?_⟩
    · rw [s1s_len]
      exact small1000 (by omega)
    · rw [upd_ne (ne_of_none e nD)]
      exact kk _ _ (k7 _ _ e n) n
    · rw [upd_same]
      exact congrArg (fun z => some (HO.lst z)) (s1s_snoc l d)
  · rintro H7 ⟨k7, B7, l, ll, sl, eD⟩
    refine ⟨_, D, _, rfl, rfl, .inl (SqL.of eD), join_z l (by omega), ?_⟩
    rw [join_1]
    exact q l _ ll sl B7 (k0.trans k7)
def ksI (ks : List Nat) : List Int := ks.map fun (k : Nat) => (k : Int)
theorem eq_nil_ints (ks : List Nat) : PyData.eqv (.list ((ksI ks).map PyData.int)) (.list []) = decide (ks = []) := by
  cases ks <;> rfl
/-- one more open place shut, where there is one -/
def ShutOf (x y : List Nat) : Prop := (y = x ∧ 45 ∉ x) ∨ ∃ p c, x[p]? = some 45 ∧ (c = 48 ∨ c = 49) ∧ y = x.set p c
def spShut60 : Sp := fun vs H Q _ => ∃ (b : Addr) (c : Int) (x : List Nat), vs = [.ref b, .str (SX.S x)] ∧ BoxAt c H b ∧ c ≤ 900000000 ∧ x.length ≤ 900 ∧ SgL x ∧
  ∀ (y : List Nat) (H' : Hp), ShutOf x y → BoxAt (c + 2) H' b → Keep b H H' → Q (.str (SX.S y)) H'
theorem ok__law_shut (B : Bl mg) (L : LL K mg C za zl) : FnOk P w K mg base CX0 2 (za 16) (zl 16) ["_law_box_here", "_law_cube_here"] spShut60 := by
  have G__law_take : FnOk P w K mg base CX0 1 (za 6) (zl 6) ["_law_box_here", "_law_size"] (spTake 1) := (ok_take L.F__law_take L.b__law_take L.m__law_take B 1).mono (by decide)
  refine L.F__law_shut.ok sc__law_shut (fun vs H Q E h => ?_) (fun cdv A outer s H vs Q E hr h => ?_)
  · obtain ⟨b, c, x, rfl, _⟩ := h
    rfl
  obtain ⟨b, c, x, rfl, hB, hc, hx, sx, q⟩ := h
  refine ⟨_, (pss_cons (ps_setLc (i := 2) (own := [("_law_at", 3), ("_law_sign", 4)]) (g := gTup K 2 (gCons (gName 3) (gCons (gName 4) gNil))) (by rfl) sc__law_shut.nd rfl rfl (sw_true rfl rfl rfl (by decide +kernel)) (pi_ex (by rfl) B.enumerate (pa_cons (pv 1) pa_nil)) (blkOk_by (own := [("_law_at", 3), ("_law_sign", 4)]) (N := ["_law_box_here", "_law_cube_here", "_law_spots", "_law_at", "_law_sign"]) (sc := defScope s__law_shut) (by decide +kernel)) (fun _ _ _ _ _ => pg_tup rfl (pgs_cons (pg_name (i := 3) sc__law_shut.nd rfl (Or.inl rfl) (.inr rfl)) (pgs_cons (pg_name (i := 4) sc__law_shut.nd rfl (Or.inl rfl) (.inr rfl)) pgs_nil))) (fun _ _ _ _ _ => pts_one (pt_cmpR op_eq (pv 4) pe_str (nomark _))) (fun _ _ _ _ _ => (pv 3)))
    (pss_cons (ps_if (pt_cmpR (op_eqD hr.units) (pv 2) (pe_lst pa_nil) (nomark _)) (pss_one (ps_ret (pv 1))) pss_nil)
    (pss_cons (ps_set (i := 3) sc__law_shut.nd rfl (.inl rfl) (pe_ix ix_list (pv 2) (pe_call G__law_take hr (by rfl) L.m__law_take L.F__law_take.kp L.b__law_take .nil pass0 (pa_cons (pv 0) (pa_cons (pe_callB call_len_seq (by rfl) B.len PySem.boot_len (pa_cons (pv 2) pa_nil)) pa_nil))) (fun _ _ => rfl)))
    (pss_one (ps_ret (pe_op op_add_str (pe_op op_add_str (pe_slice sl_str (pv 1) po_none (po_some (pv 3))) (pe_ix ix_str pe_str (pe_call G__law_take hr (by rfl) L.m__law_take L.F__law_take.kp L.b__law_take .nil pass0 (pa_cons (pv 0) (pa_cons pe_int pa_nil))) (fun _ _ => rfl))) (pe_slice sl_str (pv 1) (po_some (pe_op op_add (pv 3) pe_int)) po_none))))))), ?_⟩
  refine ⟨_, rfl, SX.S x, rfl, fun D nD => ?_⟩
  have nDb : D ≠ b := (hB.ne nD).symm
  have sD := same_upd (o := .lst []) nD
  refine lc_it (walk_ex (x := x)) (fun j H7 => Same H H7 ∧ ∃ ks : List Nat, ks.length ≤ j ∧ (∀ k ∈ ks, x[k]? = some 45) ∧ (∀ k, k < j → x[k]? = some 45 → k ∈ ks) ∧ H7 D = some (.lst ((ksI ks).map V.int))) ⟨sD, [], Nat.le_refl _, (fun _ z => nomatch z), (fun k z => absurd z (Nat.not_lt_zero k)), upd_same⟩ (fun _ _ _ _ => trivial) ?_ ?_
  · rintro j v H7 H8 hj ⟨s7, ks, lk, gk, hk, eD⟩ ⟨T, u1, u2, rfl, nT, rfl, e1, e2⟩
    cases e1
    obtain ⟨g, hg, rfl⟩ := Option.map_eq_some_iff.mp e2
    have sT := same_upd (o := .tup [.int (j : Int), .str (SX.S [g])]) nT
    refine ⟨T, _, rfl, .inl (.inl upd_same), rfl, _, _, rfl, _, _, rfl, rfl, rfl, ?_⟩
    refine ⟨_, rfl, rfl, _, rfl, ite2 (fun cc => ?_) (fun cc => ?_)⟩
    · rw [dM] at cc
      have cc := of_decide_eq_true cc
      refine ⟨_, rfl, _, sT _ _ eD, ?_, fun u w e => ?_, ks ++ [j], ?_, fun k hk => ?_, fun k hkj hx' => ?_, ?_⟩
      · unfold ksI
        rw [List.length_map, List.length_map]
        exact small1000 (by omega)
      · rw [upd_ne (ne_of_none e nD)]
        exact sT _ _ (s7 _ _ e)
      · rw [List.length_append]
        exact Nat.succ_le_succ lk
      · rcases List.mem_append.mp hk with z | z
        · exact gk k z
        · rw [List.mem_singleton.mp z, hg, cc]
      · by_cases d : k = j
        · rw [d]
          exact List.mem_append.mpr (.inr (List.mem_singleton.mpr rfl))
        · exact List.mem_append.mpr (.inl (hk k (by omega) hx'))
      · rw [upd_same]
        unfold ksI
        rw [List.map_append, List.map_append]
        rfl
    · rw [dM] at cc
      refine ⟨s7.trans sT, ks, Nat.le_succ_of_le lk, gk, fun k hkj hx' => ?_, sT _ _ eD⟩
      by_cases d : k = j
      · rw [d, hg] at hx'
        exact absurd (decide_eq_true (Option.some.inj hx')) cc
      · exact hk k (by omega) hx'
  · rintro H7 ⟨s7, ks, lk, gk, hk, eD⟩
    have B7 := hB.same s7
    try simp only [L2.start, List.map_cons, List.map_nil, List.length_cons, List.length_nil, List.replicate_succ, List.replicate_zero, List.cons_append, List.nil_append, List.set_cons_succ, List.set_cons_zero, Nat.reduceAdd, Nat.reduceSub, Nat.zero_add]
    dsimp only [gName]
    try simp only [L2.start, List.map_cons, List.map_nil, List.length_cons, List.length_nil, List.replicate_succ, List.replicate_zero, List.cons_append, List.nil_append, List.set_cons_succ, List.set_cons_zero, Nat.reduceAdd, Nat.reduceSub, Nat.zero_add]
    refine ⟨_, rfl, (by show 0 ≤ sizeLine; decide), fun U nU => ?_⟩
    have sU := same_upd (o := .lst []) nU
    refine ⟨.list ((ksI ks).map PyData.int), .list [], .lst (SqL.of (sU _ _ eD)) (dp_ints _), .lst (SqL.of upd_same) .nil, PySem.W.shaped_ints _, rfl, ?_⟩
    rw [eq_nil_ints]
    have eD8 := sU _ _ eD
    have B8 := B7.same sU
    have k8 : Keep b H (upd H7 U (.lst [])) := Keep.ofSame (s7.trans sU)
    generalize upd H7 U (.lst []) = H8 at *
    refine ⟨_, rfl, ite2 (fun cc => ?_) (fun cc => ?_)⟩
    · have nk := of_decide_eq_true cc
      refine ⟨_, rfl, q x H8 (.inl ⟨rfl, fun z => ?_⟩) (B8.mono (by omega)) k8⟩
      obtain ⟨i, hi, ei⟩ := List.getElem_of_mem z
      have := hk i hi (by rw [List.getElem?_eq_getElem hi, ei])
      rw [nk] at this
      cases this
    · have nk : ks ≠ [] := fun z => cc (decide_eq_true z)
      have kpos : 0 < ks.length := List.length_pos_iff.mpr nk
      dsimp only [tNext]
      refine ⟨_, rfl, _, rfl, _, rfl, D, _, rfl, .inl (SqL.of eD8), ?_⟩
      have lks : ((ksI ks).map V.int).length = ks.length := by
        unfold ksI
        rw [List.length_map, List.length_map]
      rw [lks]
      refine ⟨b, _, _, rfl, B8, by omega, by omega, by omega, by omega, by decide, fun r2 H10 v0 v1 B10 k10 => ?_⟩
      replace B10 := bx1 B10
      obtain ⟨d, rfl⟩ := Int.eq_ofNat_of_zero_le v0
      have dl : d < ks.length := by omega
      have eD10 := k10 _ _ eD8 nDb
      have ad : atI ((ksI ks).map V.int) (d : Int) = some (.int (ks[d] : Nat)) := atI_nat (by unfold ksI; rw [List.getElem?_map, List.getElem?_map, List.getElem?_eq_getElem dl]; rfl)
      have yk := gk ks[d] (List.getElem_mem dl)
      generalize ks[d] = k at *
      refine ⟨D, _, _, _, rfl, rfl, SqL.of eD10, ad, ?_⟩
      try simp only [L2.start, List.map_cons, List.map_nil, List.length_cons, List.length_nil, List.replicate_succ, List.replicate_zero, List.cons_append, List.nil_append, List.set_cons_succ, List.set_cons_zero, Nat.reduceAdd, Nat.reduceSub, Nat.zero_add]
      dsimp only [gName]
      try simp only [L2.start, List.map_cons, List.map_nil, List.length_cons, List.length_nil, List.replicate_succ, List.replicate_zero, List.cons_append, List.nil_append, List.set_cons_succ, List.set_cons_zero, Nat.reduceAdd, Nat.reduceSub, Nat.zero_add]
      have pl : k < x.length := (List.getElem?_eq_some_iff.mp yk).1
      have zx : (SX.S x).length ≤ sizeLine := zS (by omega)
      refine ⟨_, rfl, _, rfl, (k : Int), rfl, _, rfl, zx, ?_⟩
      rw [cut_to x k (by omega)]
      refine ⟨_, rfl, b, _, _, rfl, B10, by decide, by decide, by decide, by omega, by decide, fun r3 H11 v2 v3 B11 k11 => ?_⟩
      replace B11 := bx1 B11
      obtain ⟨e, ee, he⟩ := at2 v2 v3
      refine ⟨_, _, e, rfl, rfl, ln2, ee, _, _, rfl, rfl, ?_, ?_⟩
      · rw [SX.S_len, List.length_take]
        exact Nat.le_of_lt (small1000 (show min k x.length + 1 ≤ _ by omega))
      refine ⟨_, rfl, _, rfl, _, _, rfl, rfl, (k : Int) + 1, rfl, _, rfl, zx, ?_⟩
      rw [show ((k : Int) + 1) = ((k + 1 : Nat) : Int) by omega, cut_from x (k + 1) (by omega)]
      rw [show (⟨#[e]⟩ : Str) = SX.S [e] from rfl, SX.S_cat]
      refine ⟨_, _, rfl, rfl, ?_, ?_⟩
      · rw [SX.S_len, SX.S_len, List.length_append, List.length_take, List.length_drop]
        exact Nat.le_of_lt (small1000 (show min k x.length + 1 + (x.length - (k + 1)) ≤ _ by omega))
      · rw [SX.S_cat, List.append_assoc]
        refine q _ H11 (.inr ⟨k, e, yk, he, ?_⟩) (B11.mono (by omega)) ((k8.trans k10).trans k11)
        exact set_cut e pl
end
section
variable {P : Program} {w : World} {K : PySem.W.Frag} {mg : Str → Option Value} {base : Heap}
variable {C : Addr} {za : Nat → Addr} {zl : Nat → FuncData}
/-! ### settled by which bits a wire may have -/
def pr0 (c : Nat) : Int := if c = 49 then 0 else 1
def pr1 (c : Nat) : Int := if c = 48 then 0 else 1
def WsAt (H : Hp) (W : Addr) (us : List Addr) (ss : List Nat) : Prop := us.length = ss.length ∧ H W = some (.lst (us.map V.ref)) ∧ ∀ (i : Nat) (u : Addr) (c : Nat), us[i]? = some u → ss[i]? = some c → H u = some (.tup [.int (pr0 c), .int (pr1 c)])
theorem WsAt.same {H H' : Hp} {W : Addr} {us : List Addr} {ss : List Nat} (h : WsAt H W us ss) (s : Same H H') : WsAt H' W us ss := ⟨h.1, s _ _ h.2.1, fun i u c hu hc => s _ _ (h.2.2 i u c hu hc)⟩
theorem WsAt.snoc {H : Hp} {W T : Addr} {us : List Addr} {ss : List Nat} {c : Nat} (h : WsAt H W us ss) (e : H T = some (.tup [.int (pr0 c), .int (pr1 c)])) : WsAt (upd H W (.lst (us.map V.ref ++ [.ref T]))) W (us ++ [T]) (ss ++ [c]) := by
  obtain ⟨h1, h2, h3⟩ := h
  refine ⟨by rw [List.length_append, List.length_append, h1]; rfl, by rw [upd_same, List.map_append]; rfl, fun i u d hu hd => ?_⟩
  have key : H u = some (.tup [.int (pr0 d), .int (pr1 d)]) := by
    by_cases l : i < us.length
    · rw [List.getElem?_append_left l] at hu
      rw [List.getElem?_append_left (by omega)] at hd
      exact h3 i u d hu hd
    · have i0 : i = us.length := by
        have := (List.getElem?_eq_some_iff.mp hu).1
        rw [List.length_append, List.length_cons, List.length_nil] at this
        omega
      rw [List.getElem?_append_right (by omega), i0, Nat.sub_self] at hu
      rw [List.getElem?_append_right (by omega), i0, h1, Nat.sub_self] at hd
      cases hu
      cases hd
      exact e
  rw [upd_ne (fun z => by rw [z, h2] at key; cases key)]
  exact key
theorem gsg_sg {ss : List Nat} {g : Gt} (h : SgL ss) (ok : g.ok ss.length) : gsg ss g = 45 ∨ gsg ss g = 48 ∨ gsg ss g = 49 := by
  cases g with
  | fi b =>
    show (if b = 1 then 49 else 48) = 45 ∨ _ ∨ _
    by_cases c : b = 1 <;> simp [gsg, c]
  | w k l =>
    have l0 : 0 < l.length := by
      rcases ok.1 with ⟨_, z⟩ | ⟨_, z⟩ <;> omega
    have hx := h (ss.getD (l.getD 0 0) 0) (by
      match l, l0, ok with
      | a :: l, _, ok =>
        have la : a < ss.length := ok.2 a (by simp)
        show ss.getD a 0 ∈ ss
        rw [List.getD, List.getElem?_eq_getElem la]
        exact List.getElem_mem la)
    show gsw (ss.getD (l.getD 0 0) 0) (ss.getD (l.getD 1 0) 0) k = 45 ∨ gsw (ss.getD (l.getD 0 0) 0) (ss.getD (l.getD 1 0) 0) k = 48 ∨ gsw (ss.getD (l.getD 0 0) 0) (ss.getD (l.getD 1 0) 0) k = 49
    generalize ss.getD (l.getD 0 0) 0 = x at *
    generalize ss.getD (l.getD 1 0) 0 = y
    unfold gsw turnS ruS unS
    repeat' split
    all_goals first
      | exact hx
      | decide
theorem sgs_sg {m : Nat} {cs : List Nat} (hc : SgL cs) (lc : cs.length = m) : ∀ {gs : List Gt}, GsOk m gs → SgL (sgs cs gs) := by
  intro gs ok
  have key : ∀ j, j ≤ gs.length → SgL (sgs cs (gs.take j)) := by
    intro j
    induction j with
    | zero => exact fun _ => hc
    | succ j ih =>
      intro hj
      have hg : gs[j]? = some gs[j] := List.getElem?_eq_getElem (by omega)
      rw [List.take_add_one, hg]
      show SgL (sgs cs (gs.take j ++ [gs[j]]))
      rw [sgs_snoc]
      refine sg_snoc (ih (by omega)) (gsg_sg (ih (by omega)) ?_)
      rw [sgs_len, List.length_take, lc, Nat.min_eq_left (by omega)]
      exact ok j _ hg
  have k := key gs.length (Nat.le_refl _)
  rw [List.take_length] at k
  exact k
theorem pr_turn {x : Nat} (hx : x = 45 ∨ x = 48 ∨ x = 49) : pr0 (turnS x) = pr1 x ∧ pr1 (turnS x) = pr0 x := by
  rcases hx with rfl | rfl | rfl <;> decide
theorem pr_both {x y : Nat} (hx : x = 45 ∨ x = 48 ∨ x = 49) (hy : y = 45 ∨ y = 48 ∨ y = 49) : pr0 (ruS x y 48) = Builtin.bitOr (pr0 x) (pr0 y) ∧ pr1 (ruS x y 48) = Builtin.bitAnd (pr1 x) (pr1 y) := by
  rcases hx with rfl | rfl | rfl <;> rcases hy with rfl | rfl | rfl <;> decide +kernel
theorem pr_either {x y : Nat} (hx : x = 45 ∨ x = 48 ∨ x = 49) (hy : y = 45 ∨ y = 48 ∨ y = 49) : pr0 (ruS x y 49) = Builtin.bitAnd (pr0 x) (pr0 y) ∧ pr1 (ruS x y 49) = Builtin.bitOr (pr1 x) (pr1 y) := by
  rcases hx with rfl | rfl | rfl <;> rcases hy with rfl | rfl | rfl <;> decide +kernel
theorem pr_unlike {x y : Nat} (hx : x = 45 ∨ x = 48 ∨ x = 49) (hy : y = 45 ∨ y = 48 ∨ y = 49) : pr0 (unS x y) = Builtin.bitOr (Builtin.bitAnd (pr0 x) (pr0 y)) (Builtin.bitAnd (pr1 x) (pr1 y)) ∧ pr1 (unS x y) = Builtin.bitOr (Builtin.bitAnd (pr0 x) (pr1 y)) (Builtin.bitAnd (pr1 x) (pr0 y)) := by
  rcases hx with rfl | rfl | rfl <;> rcases hy with rfl | rfl | rfl <;> decide +kernel
theorem WsAt.get {H : Hp} {W : Addr} {us : List Addr} {ss : List Nat} (h : WsAt H W us ss) {a : Nat} (ha : a < ss.length) : ∃ u, atI (us.map V.ref) (a : Int) = some (.ref u) ∧ H u = some (.tup [.int (pr0 (ss.getD a 0)), .int (pr1 (ss.getD a 0))]) := by
  have hu : us[a]? = some (us[a]'(by rw [h.1]; exact ha)) := List.getElem?_eq_getElem _
  refine ⟨_, atI_nat (by rw [List.getElem?_map, hu]; rfl), h.2.2 a _ _ hu ?_⟩
  rw [List.getD, List.getElem?_eq_getElem ha]
  rfl
theorem d49 (a : Nat) : decide (V.str (SX.S [a]) = V.str (Str.ofString "1")) = decide (a = 49) := by
  rw [eins]
  exact dS1 a 49
theorem getD_sg {ss : List Nat} (h : SgL ss) {a : Nat} (ha : a < ss.length) : ss.getD a 0 = 45 ∨ ss.getD a 0 = 48 ∨ ss.getD a 0 = 49 := h _ (by
  rw [List.getD, List.getElem?_eq_getElem ha]
  exact List.getElem_mem ha)
def nmOf (H : Hp) : V → Str
  | .ref t => match H t with
    | some (.tup [.str n, _]) => n
    | _ => ""
  | _ => ""
theorem nmOf_at {H : Hp} {t : Addr} {n : Str} {v : V} (e : H t = some (.tup [.str n, v])) : nmOf H (.ref t) = n := by
  simp only [nmOf, e]
theorem GvOk.inj {m : Nat} {nm : List (Str × List Nat)} (h : GvOk m nm) (hl : nm.length ≤ 4) {i j : Nat} {x y : Str × List Nat} (hi : nm[i]? = some x) (hj : nm[j]? = some y) (e : x.1 = y.1) : i = j := by
  obtain ⟨x, wx⟩ := x
  obtain ⟨y, wy⟩ := y
  obtain ⟨⟨u, hu, eu⟩, _⟩ := h i _ _ hi
  obtain ⟨⟨v, hv, ev⟩, _⟩ := h j _ _ hj
  have li := (List.getElem?_eq_some_iff.mp hi).1
  have lj := (List.getElem?_eq_some_iff.mp hj).1
  apply Classical.byContradiction
  intro c
  refine wd_ne hu hv (by omega) (by omega) c ?_
  rw [← eu, ← ev]
  exact e
def GvIn (m : Nat) (nm : List (Str × List Nat)) : Prop := (∀ (i j : Nat) (x y : Str × List Nat), nm[i]? = some x → nm[j]? = some y → x.1 = y.1 → i = j) ∧ ∀ (i : Nat) (n : Str) (ws : List Nat), nm[i]? = some (n, ws) → ws.length ≤ 4 ∧ ∀ a ∈ ws, a < m
theorem GvOk.gin {m : Nat} {nm : List (Str × List Nat)} (h : GvOk m nm) (hl : nm.length ≤ 4) : GvIn m nm :=
  ⟨fun _ _ _ _ hi hj e => h.inj hl hi hj e, fun i n ws hw => (h i n ws hw).2⟩
theorem wd_new {i k : Nat} (hi : i < 9) (hk : k < 4) : wd i k ≠ Str.ofString "new" := by
  have all : (List.range 9).all (fun i => (List.range 4).all fun k => decide (wd i k ≠ Str.ofString "new")) = true := by decide +kernel
  have a := List.all_eq_true.mp all i (List.mem_range.mpr hi)
  exact of_decide_eq_true (List.all_eq_true.mp a k (List.mem_range.mpr hk))
theorem GvOk.gnew {m : Nat} {nm : List (Str × List Nat)} {ws : List Nat} (h : GvOk m nm) (hl : nm.length ≤ 3) (lw : ws.length ≤ 4) (hw : ∀ a ∈ ws, a < m + 1) : GvIn (m + 1) (nm ++ [((Str.ofString "new"), ws)]) := by
  have snoc : ∀ {i : Nat} {x : Str × List Nat}, (nm ++ [((Str.ofString "new"), ws)])[i]? = some x → nm[i]? = some x ∨ i = nm.length ∧ x = ((Str.ofString "new"), ws) := fun {i x} hx => by
    by_cases d : i < nm.length
    · rw [List.getElem?_append_left d] at hx
      exact .inl hx
    · have i0 : i = nm.length := by
        have := (List.getElem?_eq_some_iff.mp hx).1
        rw [List.length_append, List.length_cons, List.length_nil] at this
        omega
      rw [List.getElem?_append_right (by omega), i0, Nat.sub_self] at hx
      cases hx
      exact .inr ⟨i0, rfl⟩
  have nn : ∀ {i : Nat} {x : Str × List Nat}, nm[i]? = some x → x.1 ≠ Str.ofString "new" := fun {i x} hx => by
    obtain ⟨⟨w, hw, e⟩, _⟩ := h i x.1 x.2 hx
    have := (List.getElem?_eq_some_iff.mp hx).1
    rw [e]
    exact wd_new hw (by omega)
  refine ⟨fun i j x y hi hj e => ?_, fun i n us hx => ?_⟩
  · rcases snoc hi with a | ⟨a, rfl⟩ <;> rcases snoc hj with c | ⟨c, rfl⟩
    · exact h.inj (by omega) a c e
    · exact absurd e (nn a)
    · exact absurd e.symm (nn c)
    · rw [a, c]
  · rcases snoc hx with a | ⟨_, a⟩
    · obtain ⟨_, b1, b2⟩ := h i n us a
      exact ⟨b1, fun z hz => Nat.lt_succ_of_lt (b2 z hz)⟩
    · cases a
      exact ⟨lw, hw⟩
theorem rows_one {nm n1 n2 : List (Str × List Nat)} (inj : ∀ (i j : Nat) (x y : Str × List Nat), nm[i]? = some x → nm[j]? = some y → x.1 = y.1 → i = j) (p1 : n1.Perm nm) (s1 : (n1.map (·.1)).Pairwise fun x y => x.cps.toList ≤ y.cps.toList)
    (p2 : n2.Perm nm) (s2 : (n2.map (·.1)).Pairwise fun x y => x.cps.toList ≤ y.cps.toList) : n1 = n2 := by
  rw [List.pairwise_map] at s1 s2
  refine List.Perm.eq_of_pairwise (le := fun x y : Str × List Nat => x.1.cps.toList ≤ y.1.cps.toList) (fun x y hx hy a b => ?_) s1 s2 (p1.trans p2.symm)
  have e := List.le_antisymm a b
  have e : x.1 = y.1 := by
    have := Array.toList_inj.mp e
    cases h1 : x.1
    cases h2 : y.1
    rw [h1, h2] at this
    congr 1
  obtain ⟨i, hi, ei⟩ := List.getElem_of_mem (p1.mem_iff.mp hx)
  obtain ⟨j, hj, ej⟩ := List.getElem_of_mem (p2.mem_iff.mp hy)
  have ij := inj i j x y (by rw [List.getElem?_eq_getElem hi, ei]) (by rw [List.getElem?_eq_getElem hj, ej]) e
  subst ij
  rw [← ei, ej]
def tab60 : List (List Key × V) := [([.inl 1, .inl 0], .str "0"), ([.inl 0, .inl 1], .str "1"), ([.inl 1, .inl 1], .str "-")]
theorem tab_val {c : Nat} (hc : c = 45 ∨ c = 48 ∨ c = 49) : valV (mergeT [] tab60) [.inl (pr0 c), .inl (pr1 c)] = some (.str (SX.S [c])) := by
  rcases hc with rfl | rfl | rfl <;> decide +kernel
def spSett60 : Sp := fun vs H Q _ => ∃ (R F b : Addr) (m : Nat) (gs : List Gt) (nm : List (Str × List Nat)) (cs : List Nat), vs = [.ref R, .ref F, .str (SX.S cs)] ∧ RowsAt46 H R gs ∧ GsOk m gs ∧ GvAt b H F nm ∧ GvIn (m + gs.length) nm ∧ nm.length ≤ 4 ∧ cs.length = m ∧ SgL cs ∧ m ≤ 100 ∧ gs.length ≤ 300 ∧
  ∀ (nm' : List (Str × List Nat)) (t : Addr) (H' : Hp), nm'.Perm nm → (nm'.map (·.1)).Pairwise (fun x y => x.cps.toList ≤ y.cps.toList) → Same H H' → SetAt H H' t (setR (sgs cs gs) nm') → Q (.ref t) H'
theorem ok__law_settled (B : Bl mg) (L : LL K mg C za zl) : FnOk P w K mg base CX0 2 (za 11) (zl 11) ["_law_rows", "_law_given_here", "_law_cube_here"] spSett60 := by
  refine L.F__law_settled.ok sc__law_settled (fun vs H Q E h => ?_) (fun cdv A outer s H vs Q E hr h => ?_)
  · obtain ⟨R, F, b, m, gs, nm, cs, rfl, _⟩ := h
    rfl
  obtain ⟨R, F, b, m, gs, nm, cs, rfl, ⟨ts, lt, eR, hts⟩, ok, ⟨hFb, vs, lv, eF, hvs⟩, gok, hnm, lc, sc, hm, hg, q⟩ := h
  refine ⟨_, (pss_cons (ps_setLc (i := 3) (own := [("_law_sign", 8)]) (by rfl) sc__law_settled.nd rfl rfl (sw_true rfl rfl rfl (by decide +kernel)) (pi_str (pv 2)) (blkOk_by (own := [("_law_sign", 8)]) (N := ["_law_rows", "_law_given_here", "_law_cube_here", "_law_wires", "_law_row", "_law_one", "_law_two", "_law_signs", "_law_sign", "_law_wire", "_law_name", "_law_some"]) (sc := defScope s__law_settled) (by decide +kernel)) (fun _ _ _ _ _ => pg_name (i := 8) sc__law_settled.nd rfl (Or.inl rfl)) (fun _ _ _ _ _ => pts_nil) (fun _ _ _ _ _ => (pe_tup (pa_cons (pe_callTy call_int1 (by rfl) B.int PyProof.Rows.boot_int (pa_cons (pe_cmpR op_ne (pv 8) pe_str (nomark _)) pa_nil)) (pa_cons (pe_callTy call_int1 (by rfl) B.int PyProof.Rows.boot_int (pa_cons (pe_cmpR op_ne (pv 8) pe_str (nomark _)) pa_nil)) pa_nil)))))
    (pss_cons (ps_for PassesOwn.never rfl (pi_list (pv 0)) (pg_name (i := 4) sc__law_settled.nd rfl (.inl rfl)) (pss_cons (ps_if (pt_cmpR op_eq (pe_ix ix_tup (pv 4) pe_int (fun _ _ => rfl)) pe_str (nomark _)) (pss_cons (ps_expr (pe_bm PySem.F.plainAttrs_list PySem.F.slot_list_append PySem.F.type_list_append mt_append (pv 3) (pa_cons (pe_tup (pa_cons (pe_op op_sub pe_int (pe_ix ix_tup (pv 4) pe_int (fun _ _ => rfl))) (pa_cons (pe_ix ix_tup (pv 4) pe_int (fun _ _ => rfl)) pa_nil))) pa_nil)))
    (pss_one ps_continue)) pss_nil)
    (pss_cons (ps_par (by rfl) sc__law_settled.nd (i := 5) (j := 6) rfl rfl (by decide) rfl rfl (pa_cons (pe_ix ix_list (pv 3) (pe_ix ix_tup (pv 4) pe_int (fun _ _ => rfl)) (fun _ _ => rfl)) (pa_cons (pe_ix ix_list (pv 3) (pe_ix ix_tup (pv 4) (pe_un un_neg pe_int) (fun _ _ => rfl)) (fun _ _ => rfl)) pa_nil)) (by rfl))
    (pss_one (ps_if (pt_cmpR op_eq (pe_ix ix_tup (pv 4) pe_int (fun _ _ => rfl)) pe_str (nomark _)) (pss_one (ps_expr (pe_bm PySem.F.plainAttrs_list PySem.F.slot_list_append PySem.F.type_list_append mt_append (pv 3) (pa_cons (pe_tup (pa_cons (pe_op op_or (pe_ix ix_tup (pv 5) pe_int (fun _ _ => rfl)) (pe_ix ix_tup (pv 6) pe_int (fun _ _ => rfl))) (pa_cons (pe_op op_and (pe_ix ix_tup (pv 5) pe_int (fun _ _ => rfl)) (pe_ix ix_tup (pv 6) pe_int (fun _ _ => rfl))) pa_nil))) pa_nil)))) (pss_one (ps_if (pt_cmpR op_eq (pe_ix ix_tup (pv 4) pe_int (fun _ _ => rfl)) pe_str (nomark _)) (pss_one (ps_expr (pe_bm PySem.F.plainAttrs_list PySem.F.slot_list_append PySem.F.type_list_append mt_append (pv 3) (pa_cons (pe_tup (pa_cons (pe_op op_and (pe_ix ix_tup (pv 5) pe_int (fun _ _ => rfl)) (pe_ix ix_tup (pv 6) pe_int (fun _ _ => rfl))) (pa_cons (pe_op op_or (pe_ix ix_tup (pv 5) pe_int (fun _ _ => rfl)) (pe_ix ix_tup (pv 6) pe_int (fun _ _ => rfl))) pa_nil))) pa_nil)))) (pss_one (ps_if (pt_cmpR op_eq (pe_ix ix_tup (pv 4) pe_int (fun _ _ => rfl)) pe_str (nomark _)) (pss_one (ps_expr (pe_bm PySem.F.plainAttrs_list PySem.F.slot_list_append PySem.F.type_list_append mt_append (pv 3) (pa_cons (pe_tup (pa_cons (pe_op op_or (pe_op op_and (pe_ix ix_tup (pv 5) pe_int (fun _ _ => rfl)) (pe_ix ix_tup (pv 6) pe_int (fun _ _ => rfl))) (pe_op op_and (pe_ix ix_tup (pv 5) pe_int (fun _ _ => rfl)) (pe_ix ix_tup (pv 6) pe_int (fun _ _ => rfl)))) (pa_cons (pe_op op_or (pe_op op_and (pe_ix ix_tup (pv 5) pe_int (fun _ _ => rfl)) (pe_ix ix_tup (pv 6) pe_int (fun _ _ => rfl))) (pe_op op_and (pe_ix ix_tup (pv 5) pe_int (fun _ _ => rfl)) (pe_ix ix_tup (pv 6) pe_int (fun _ _ => rfl)))) pa_nil))) pa_nil)))) (pss_one (ps_expr (pe_bm PySem.F.plainAttrs_list PySem.F.slot_list_append PySem.F.type_list_append mt_append (pv 3) (pa_cons (pe_tup (pa_cons (pe_ix ix_tup (pv 5) pe_int (fun _ _ => rfl)) (pa_cons (pe_ix ix_tup (pv 5) pe_int (fun _ _ => rfl)) pa_nil))) pa_nil)))))))))))))
    (pss_cons (ps_set (i := 7) sc__law_settled.nd rfl (.inr rfl) (pe_lc (own := [("_law_wire", 9)]) (by rfl) sc__law_settled.nd (pi_list (pv 3)) (blkOk_by (own := [("_law_wire", 9)]) (N := ["_law_rows", "_law_given_here", "_law_cube_here", "_law_wires", "_law_row", "_law_one", "_law_two", "_law_signs", "_law_sign", "_law_wire", "_law_name", "_law_some"]) (sc := defScope s__law_settled) (by decide +kernel)) (fun _ _ _ _ _ => pg_name (i := 9) sc__law_settled.nd rfl (Or.inl rfl)) (fun _ _ _ _ _ => pts_nil) (fun _ _ _ _ _ => (pe_dget (units1 hr) (pe_dispT (units1 hr) (pps_cons (pe_tup (pa_cons pe_int (pa_cons pe_int pa_nil))) pe_str (pps_cons (pe_tup (pa_cons pe_int (pa_cons pe_int pa_nil))) pe_str (pps_cons (pe_tup (pa_cons pe_int (pa_cons pe_int pa_nil))) pe_str pps_nil))) rfl rfl (by decide) (by decide)) (pv 9) (fun _ _ => rfl)))))
    (pss_one (ps_ret (pe_lc (own := [("_law_name", 10), ("_law_some", 11)]) (g := gTup K 2 (gCons (gName 10) (gCons (gName 11) gNil))) (by rfl) sc__law_settled.nd (pi_list (pe_callB cr_sortedNm (by rfl) L.z_sorted boot_sorted (pa_cons (pv 1) pa_nil))) (blkOk_by (own := [("_law_name", 10), ("_law_some", 11)]) (N := ["_law_rows", "_law_given_here", "_law_cube_here", "_law_wires", "_law_row", "_law_one", "_law_two", "_law_signs", "_law_sign", "_law_wire", "_law_name", "_law_some"]) (sc := defScope s__law_settled) (by decide +kernel)) (fun _ _ _ _ _ => pg_tup rfl (pgs_cons (pg_name (i := 10) sc__law_settled.nd rfl (Or.inl rfl) (.inr rfl)) (pgs_cons (pg_name (i := 11) sc__law_settled.nd rfl (Or.inl rfl) (.inr rfl)) pgs_nil))) (fun _ _ _ _ _ => pts_nil) (fun _ _ _ _ _ => (pe_tup (pa_cons (pv 10) (pa_cons (pe_bmKX (K := K) PySem.F.plainAttrs_str PySem.F.slot_str_join PySem.F.type_str_join (mt_joinKX (K := K)) pe_str (pa_cons (pe_lc (own := [("_law_wire", 9)]) (by rfl) sc__law_settled.nd (pi_listK (K := K) (pv 11)) (blkOk_by (own := [("_law_wire", 9)]) (N := ["_law_rows", "_law_given_here", "_law_cube_here", "_law_wires", "_law_row", "_law_one", "_law_two", "_law_signs", "_law_sign", "_law_wire", "_law_name", "_law_some"]) (sc := ({ kind := ScopeKind.function, names := [(".0", NameKind.local), ("_law_name", NameKind.local), ("_law_some", NameKind.local), ("_law_signs", NameKind.cell)], isGenerator := false, isCoroutine := false } : Scope)) (by decide +kernel)) (fun _ _ _ _ _ => pg_name (i := 9) sc__law_settled.nd rfl (Or.inl rfl)) (fun _ _ _ _ _ => pts_nil) (fun _ _ _ _ _ => (pe_ix (ix_listK (K := K)) (pv 7) (pv 9) (fun _ _ => rfl)))) pa_nil)) pa_nil)))))))))), ?_⟩
  refine ⟨_, rfl, SX.S cs, rfl, fun W nW => ?_⟩
  refine lc_it (walk_S (x := cs)) (fun j H7 => Same H H7 ∧ ∃ us : List Addr, WsAt H7 W us (cs.take j)) ⟨same_upd nW, [], rfl, upd_same, fun i u c h => by simp at h⟩ (fun _ _ _ _ => trivial) ?_ ?_
  · rintro j v H7 H7' hj ⟨s7, us, eW⟩ ⟨rfl, a, ha, rfl⟩
    refine ⟨rfl, yesT ?_⟩
    refine ⟨_, rfl, rfl, .inr ⟨_, rfl, _, rfl, rfl, .inr ⟨_, rfl, (by show 2 ≤ sizeLine; decide), fun T nT => ?_⟩⟩⟩
    have p0 : (if (!decide (V.str (SX.S [a]) = V.str (Str.ofString "1"))) = true then (1 : Int) else 0) = pr0 a := by
      rw [d49]
      unfold pr0
      by_cases c : a = 49 <;> simp [c]
    have p1 : (if (!decide (V.str (SX.S [a]) = V.str (Str.ofString "0"))) = true then (1 : Int) else 0) = pr1 a := by
      rw [d48]
      unfold pr1
      by_cases c : a = 48 <;> simp [c]
    rw [p0, p1]
    have sT := same_upd (o := .tup [.int (pr0 a), .int (pr1 a)]) nT
    refine ⟨_, sT _ _ eW.2.1, ?_, fun y u e => ?_, us ++ [T], ?_⟩
    · rw [List.length_map, eW.1, List.length_take]
      exact small1000 (by omega)
    · rw [upd_ne (ne_of_none e nW)]
      exact sT _ _ (s7 _ _ e)
    · rw [List.take_add_one, ha]
      exact (eW.same sT).snoc upd_same
  rintro H1 ⟨s1, us, eW⟩
  rw [List.take_of_length_le (Nat.le_refl _)] at eW
  try simp only [L2.start, List.map_cons, List.map_nil, List.length_cons, List.length_nil, List.replicate_succ, List.replicate_zero, List.cons_append, List.nil_append, List.set_cons_succ, List.set_cons_zero, Nat.reduceAdd, Nat.reduceSub, Nat.zero_add]
  dsimp only [gName]
  try simp only [L2.start, List.map_cons, List.map_nil, List.length_cons, List.length_nil, List.replicate_succ, List.replicate_zero, List.cons_append, List.nil_append, List.set_cons_succ, List.set_cons_zero, Nat.reduceAdd, Nat.reduceSub, Nat.zero_add]
  have nWx : ∀ y o, H y = some o → y ≠ W := fun y o e => ne_of_none e nW
  refine ⟨_, rfl, R, rfl, ⟨_, SqL.of (s1 _ _ eR)⟩, ?_⟩
  refine for_it (walk_list (K := K) (a := R) (xs := ts.map V.ref)) (fun j σ H9 => ∃ (y4 y5 y6 : Option V) (us : List Addr), σ = [some (.ref R), some (.ref F), some (.str (SX.S cs)), some (.ref W), y4, y5, y6, none, none, none, none, none] ∧ Keep W H1 H9 ∧ WsAt H9 W us (sgs cs (gs.take j))) ⟨_, _, _, us, rfl, Keep.refl _ _, eW⟩ (fun j σ H9 _ ⟨_, _, _, _, _, k9, _⟩ => SqL.of (k9 _ _ (s1 _ _ eR) (nWx _ _ eR))) ?_ ?_
  · rintro j z σ H9 H10 hj ⟨y4, y5, y6, us, rfl, k9, eW9⟩ ⟨rfl, hz⟩
    rw [List.getElem?_map] at hz
    have hj' : j < ts.length := by
      rw [List.length_map] at hj
      exact hj
    rw [List.getElem?_eq_getElem hj'] at hz
    cases hz
    obtain ⟨g, hgj⟩ : ∃ x, gs[j]? = some x := ⟨_, List.getElem?_eq_getElem (by omega)⟩
    have et0 := hts j _ _ (List.getElem?_eq_getElem hj') hgj
    have et := k9 _ _ (s1 _ _ et0) (nWx _ _ et0)
    have okj := ok j _ hgj
    have tk : gs.take (j + 1) = gs.take j ++ [g] := by
      rw [List.take_add_one, hgj]
      rfl
    have sgj : SgL (sgs cs (gs.take j)) := sgs_sg sc lc (fun i g' h => ok i g' (by
      rw [List.getElem?_take] at h
      split at h
      · exact h
      · cases h))
    have lj : (sgs cs (gs.take j)).length = m + j := by
      rw [sgs_len, List.length_take, lc, Nat.min_eq_left (by omega)]
    rw [tk, sgs_snoc]
    generalize sgs cs (gs.take j) = ss at *
    try simp only [L2.start, List.map_cons, List.map_nil, List.length_cons, List.length_nil, List.replicate_succ, List.replicate_zero, List.cons_append, List.nil_append, List.set_cons_succ, List.set_cons_zero, Nat.reduceAdd, Nat.reduceSub, Nat.zero_add]
    have nS : ∀ {x y : Str}, ¬ x = y → ¬ decide (V.str x = V.str y) = true := fun h z => h (V.str.inj (of_decide_eq_true z))
    have fin : ∀ (c : Nat) (T : Addr) (HT : Hp) (z4 z5 z6 : Option V), Same H10 HT → HT T = some (.tup [.int (pr0 c), .int (pr1 c)]) → ∃ (y4 y5 y6 : Option V) (vs : List Addr), [some (.ref R), some (.ref F), some (.str (SX.S cs)), some (.ref W), z4, z5, z6, none, none, none, none, none] = [some (.ref R), some (.ref F), some (.str (SX.S cs)), some (.ref W), y4, y5, y6, none, none, none, none, none] ∧ Keep W H1 (upd HT W (.lst (us.map V.ref ++ [.ref T]))) ∧ WsAt (upd HT W (.lst (us.map V.ref ++ [.ref T]))) W vs (ss ++ [c]) := fun c T HT z4 z5 z6 sT eT =>
      ⟨_, _, _, us ++ [T], rfl, fun y u e ny => by rw [upd_ne ny]; exact sT _ _ (k9 _ _ e ny), (eW9.same sT).snoc eT⟩
    have lus : (us.map V.ref).length < sizeLine := by
      rw [List.length_map, eW9.1, lj]
      exact small1000 (by omega)
    dsimp only [gName]
    try simp only [L2.start, List.map_cons, List.map_nil, List.length_cons, List.length_nil, List.replicate_succ, List.replicate_zero, List.cons_append, List.nil_append, List.set_cons_succ, List.set_cons_zero, Nat.reduceAdd, Nat.reduceSub, Nat.zero_add]
    cases g with
    | fi b =>
      have r0 : atI (Gt.fi b).row 0 = some (.str "fixed") := rfl
      refine ⟨_, rfl, ts[j], _, _, _, rfl, rfl, .inl (.inl et), r0, rfl, _, rfl, ite2 (fun _ => ?_) (fun z => absurd (decide_eq_true rfl) z)⟩
      refine ⟨_, rfl, .inl ⟨rfl, _, SqL.of eW9.2.1⟩, _, rfl, ts[j], _, _, _, rfl, rfl, .inl (.inl et), rfl, _, _, rfl, rfl, _, rfl, ts[j], _, _, _, rfl, rfl, .inl (.inl et), rfl, (by show 2 ≤ sizeLine; decide), fun T nT => ?_⟩
      have sT := same_upd (o := .tup [.int (1 - (b : Int)), .int (b : Int)]) nT
      refine ⟨W, _, _, rfl, rfl, sT _ _ eW9.2.1, lus, ?_⟩
      refine fin (gsg ss (.fi b)) T _ _ _ _ sT ?_
      rw [upd_same]
      have hb : b = 0 ∨ b = 1 := by
        have : b ≤ 1 := okj
        omega
      rcases hb with rfl | rfl <;> rfl
    | w k ws =>
      have r0 := Gt.row0 k ws
      have nf : ¬ k = "fixed" := by
        rcases okj.1 with ⟨z | z | z, _⟩ | ⟨z, _⟩ <;> rw [z] <;> decide +kernel
      refine ⟨_, rfl, ts[j], _, _, _, rfl, rfl, .inl (.inl et), r0, rfl, _, rfl, ite2 (fun z => absurd z (nS nf)) (fun _ => ?_)⟩
      dsimp only [tNext]
      obtain ⟨a, a2, r1, r2, la, la2, hrow⟩ : ∃ a a2 : Nat, atI (Gt.w k ws).row 1 = some (.int (a : Int)) ∧ atI (Gt.w k ws).row (-1) = some (.int (a2 : Int)) ∧ a < ss.length ∧ a2 < ss.length ∧ gsg ss (.w k ws) = gsw (ss.getD a 0) (ss.getD a2 0) k := by
        rcases okj.1 with ⟨hk, l2⟩ | ⟨hk, l1⟩
        · match ws, l2, okj with
          | [a, a2], _, okj => exact ⟨a, a2, rfl, rfl, by rw [lj]; exact okj.2 a (by simp), by rw [lj]; exact okj.2 a2 (by simp), rfl⟩
        · match ws, l1, okj with
          | [a], _, okj => exact ⟨a, a, rfl, rfl, by rw [lj]; exact okj.2 a (by simp), by rw [lj]; exact okj.2 a (by simp), by subst hk; rfl⟩
      obtain ⟨u, au, eu⟩ := eW9.get la
      obtain ⟨u2, au2, eu2⟩ := eW9.get la2
      have hx := getD_sg sgj la
      have hy := getD_sg sgj la2
      rw [hrow]
      generalize ss.getD a 0 = x at *
      generalize ss.getD a2 0 = y at *
      refine ⟨_, rfl, _, rfl, ts[j], _, _, _, rfl, rfl, .inl (.inl et), r1, W, _, _, _, rfl, rfl, SqL.of eW9.2.1, au, ?_⟩
      refine ⟨_, rfl, _, rfl, _, rfl, ts[j], _, _, _, rfl, rfl, .inl (.inl et), r2, W, _, _, _, rfl, rfl, SqL.of eW9.2.1, au2, ?_⟩
      refine ⟨_, _, rfl, ?_⟩
      try simp only [L2.start, List.map_cons, List.map_nil, List.length_cons, List.length_nil, List.replicate_succ, List.replicate_zero, List.cons_append, List.nil_append, List.set_cons_succ, List.set_cons_zero, Nat.reduceAdd, Nat.reduceSub, Nat.zero_add]
      refine ⟨_, rfl, ts[j], _, _, _, rfl, rfl, .inl (.inl et), r0, rfl, _, rfl, ite2 (fun z => ?_) (fun z => ?_)⟩
      · have hk : k = "both" := V.str.inj (of_decide_eq_true z)
        have hw : gsw x y k = ruS x y 48 := by
          unfold gsw
          rw [if_neg (by rw [hk]; decide +kernel), if_pos hk]
        rw [hw]
        refine ⟨_, rfl, .inl ⟨rfl, _, SqL.of eW9.2.1⟩, _, rfl, u, _, _, _, rfl, rfl, .inl (.inl eu), rfl, _, rfl, u2, _, _, _, rfl, rfl, .inl (.inl eu2), rfl, _, _, rfl, rfl, _, rfl, u, _, _, _, rfl, rfl, .inl (.inl eu), rfl, _, rfl, u2, _, _, _, rfl, rfl, .inl (.inl eu2), rfl, _, _, rfl, rfl, (by show 2 ≤ sizeLine; decide), fun T nT => ?_⟩
        have sT := same_upd (o := .tup [.int (Builtin.bitOr (pr0 x) (pr0 y)), .int (Builtin.bitAnd (pr1 x) (pr1 y))]) nT
        refine ⟨W, _, _, rfl, rfl, sT _ _ eW9.2.1, lus, ?_⟩
        refine fin _ T _ _ _ _ sT ?_
        rw [upd_same, (pr_both hx hy).1, (pr_both hx hy).2]
      have n1 : ¬ k = "both" := fun y => z (decide_eq_true (congrArg V.str y))
      refine ⟨_, rfl, ts[j], _, _, _, rfl, rfl, .inl (.inl et), r0, rfl, _, rfl, ite2 (fun z => ?_) (fun z => ?_)⟩
      · have hk : k = "either" := V.str.inj (of_decide_eq_true z)
        have hw : gsw x y k = ruS x y 49 := by
          unfold gsw
          rw [if_neg (by rw [hk]; decide +kernel), if_neg n1, if_pos hk]
        rw [hw]
        refine ⟨_, rfl, .inl ⟨rfl, _, SqL.of eW9.2.1⟩, _, rfl, u, _, _, _, rfl, rfl, .inl (.inl eu), rfl, _, rfl, u2, _, _, _, rfl, rfl, .inl (.inl eu2), rfl, _, _, rfl, rfl, _, rfl, u, _, _, _, rfl, rfl, .inl (.inl eu), rfl, _, rfl, u2, _, _, _, rfl, rfl, .inl (.inl eu2), rfl, _, _, rfl, rfl, (by show 2 ≤ sizeLine; decide), fun T nT => ?_⟩
        have sT := same_upd (o := .tup [.int (Builtin.bitAnd (pr0 x) (pr0 y)), .int (Builtin.bitOr (pr1 x) (pr1 y))]) nT
        refine ⟨W, _, _, rfl, rfl, sT _ _ eW9.2.1, lus, ?_⟩
        refine fin _ T _ _ _ _ sT ?_
        rw [upd_same, (pr_either hx hy).1, (pr_either hx hy).2]
      have n2 : ¬ k = "either" := fun y => z (decide_eq_true (congrArg V.str y))
      refine ⟨_, rfl, ts[j], _, _, _, rfl, rfl, .inl (.inl et), r0, rfl, _, rfl, ite2 (fun z => ?_) (fun z => ?_)⟩
      · have hk : k = "unlike" := V.str.inj (of_decide_eq_true z)
        have hw : gsw x y k = unS x y := by
          unfold gsw
          rw [if_neg (by rw [hk]; decide +kernel), if_neg n1, if_neg n2]
        rw [hw]
        refine ⟨_, rfl, .inl ⟨rfl, _, SqL.of eW9.2.1⟩, _, rfl, u, _, _, _, rfl, rfl, .inl (.inl eu), rfl, _, rfl, u2, _, _, _, rfl, rfl, .inl (.inl eu2), rfl, _, _, rfl, rfl, _, rfl, u, _, _, _, rfl, rfl, .inl (.inl eu), rfl, _, rfl, u2, _, _, _, rfl, rfl, .inl (.inl eu2), rfl, _, _, rfl, rfl, _, _, rfl, rfl, _, rfl, u, _, _, _, rfl, rfl, .inl (.inl eu), rfl, _, rfl, u2, _, _, _, rfl, rfl, .inl (.inl eu2), rfl, _, _, rfl, rfl, _, rfl, u, _, _, _, rfl, rfl, .inl (.inl eu), rfl, _, rfl, u2, _, _, _, rfl, rfl, .inl (.inl eu2), rfl, _, _, rfl, rfl, _, _, rfl, rfl, (by show 2 ≤ sizeLine; decide), fun T nT => ?_⟩
        have sT := same_upd (o := .tup [.int (Builtin.bitOr (Builtin.bitAnd (pr0 x) (pr0 y)) (Builtin.bitAnd (pr1 x) (pr1 y))), .int (Builtin.bitOr (Builtin.bitAnd (pr0 x) (pr1 y)) (Builtin.bitAnd (pr1 x) (pr0 y)))]) nT
        refine ⟨W, _, _, rfl, rfl, sT _ _ eW9.2.1, lus, ?_⟩
        refine fin _ T _ _ _ _ sT ?_
        rw [upd_same, (pr_unlike hx hy).1, (pr_unlike hx hy).2]
      have n3 : ¬ k = "unlike" := fun y => z (decide_eq_true (congrArg V.str y))
      have hk : k = "other" := by
        rcases okj.1 with ⟨z | z | z, _⟩ | ⟨z, _⟩
        · exact absurd z n1
        · exact absurd z n2
        · exact absurd z n3
        · exact z
      have hw : gsw x y k = turnS x := by
        unfold gsw
        rw [if_pos hk]
      rw [hw]
      refine ⟨_, rfl, .inl ⟨rfl, _, SqL.of eW9.2.1⟩, _, rfl, u, _, _, _, rfl, rfl, .inl (.inl eu), rfl, _, rfl, u, _, _, _, rfl, rfl, .inl (.inl eu), rfl, (by show 2 ≤ sizeLine; decide), fun T nT => ?_⟩
      have sT := same_upd (o := .tup [.int (pr1 x), .int (pr0 x)]) nT
      refine ⟨W, _, _, rfl, rfl, sT _ _ eW9.2.1, lus, ?_⟩
      refine fin _ T _ _ _ _ sT ?_
      rw [upd_same, (pr_turn hx).1, (pr_turn hx).2]
  · rintro σ H9 ⟨y4, y5, y6, us, rfl, k9, eW9⟩
    rw [List.length_map, List.take_of_length_le (by omega)] at eW9
    dsimp only [tSeq]
    have sg := sgs_sg sc lc ok
    have lss : (sgs cs gs).length = m + gs.length := by rw [sgs_len, lc]
    generalize sgs cs gs = ss at *
    have s9 : Same H H9 := fun y u e => k9 _ _ (s1 _ _ e) (nWx _ _ e)
    refine ⟨_, rfl, W, rfl, ⟨_, SqL.of eW9.2.1⟩, fun D nD => ?_⟩
    refine lc_it (walk_list (K := K) (a := W) (xs := us.map V.ref)) (fun i H5 => Same H9 H5 ∧ H5 D = some (.lst (ssV (ss.take i)))) ⟨same_upd nD, upd_same⟩ (fun i H5 _ ⟨s5, _⟩ => SqL.of (s5 _ _ eW9.2.1)) ?_ ?_
    · rintro j z H5 H6 hj ⟨s5, eD⟩ ⟨rfl, hz⟩
      rw [List.getElem?_map] at hz
      have hj' : j < us.length := by
        rw [List.length_map] at hj
        exact hj
      rw [List.getElem?_eq_getElem hj'] at hz
      cases hz
      obtain ⟨c, hcj⟩ : ∃ c, ss[j]? = some c := ⟨_, List.getElem?_eq_getElem (by rw [← eW9.1]; exact hj')⟩
      have hc := sg c (List.mem_of_getElem? hcj)
      have eu := s5 _ _ (eW9.2.2 j _ _ (List.getElem?_eq_getElem hj') hcj)
      refine ⟨rfl, yesT ?_⟩
      refine fun p np => ⟨(by show 2 ≤ sizeLine; decide), fun K1 nK1 => ⟨(by show 2 ≤ sizeLine; decide), fun K2 nK2 => ⟨(by show 2 ≤ sizeLine; decide), fun K3 nK3 => ?_⟩⟩⟩
      have t0 := same_upd (o := .dT []) np
      have t1 := same_upd (o := .tup [.int 1, .int 0]) nK1
      have t2 := same_upd (o := .tup [.int 0, .int 1]) nK2
      have t3 := same_upd (o := .tup [.int 1, .int 1]) nK3
      have ep := t3 _ _ (t2 _ _ (t1 _ _ (upd_same (H := H6) (a := p) (o := .dT []))))
      have e1 := t3 _ _ (t2 _ _ (upd_same (H := upd H6 p (.dT [])) (a := K1) (o := .tup [.int 1, .int 0])))
      have e2 := t3 _ _ (upd_same (H := upd (upd H6 p (.dT [])) K1 (.tup [.int 1, .int 0])) (a := K2) (o := .tup [.int 0, .int 1]))
      have e3 := upd_same (H := upd (upd (upd H6 p (.dT [])) K1 (.tup [.int 1, .int 0])) K2 (.tup [.int 0, .int 1])) (a := K3) (o := .tup [.int 1, .int 1])
      have tA : Same H6 _ := ((t0.trans t1).trans t2).trans t3
      refine ⟨ep, tab60, ⟨⟨K1, rfl, e1, rfl⟩, ⟨K2, rfl, e2, rfl⟩, ⟨K3, rfl, e3, rfl⟩, True.intro⟩, (by show 3 ≤ 15; decide), ?_⟩
      generalize upd (upd (upd (upd H6 p (.dT [])) K1 (.tup [.int 1, .int 0])) K2 (.tup [.int 0, .int 1])) K3 (.tup [.int 1, .int 1]) = HK at *
      have up : us[j] ≠ p := ne_of_none eu np
      have eu' : (upd HK p (.dT (mergeT [] tab60))) us[j] = some (.tup (([.inl (pr0 c), .inl (pr1 c)] : List Key).map kV)) := by
        rw [upd_ne up]
        exact tA _ _ eu
      have dg := DGet.t (kvs := mergeT [] tab60) (k := [.inl (pr0 c), .inl (pr1 c)]) (upd_same (H := HK) (a := p) (o := .dT (mergeT [] tab60))) eu'
      rw [tab_val hc] at dg
      refine ⟨_, rfl, p, _, rfl, dg, ?_⟩
      have Dp' : D ≠ p := ne_of_none eD np
      refine ⟨_, (by rw [upd_ne Dp']; exact tA _ _ eD), ?_, fun y u e => ?_, ?_⟩
      · unfold ssV
        rw [List.length_map, List.length_take]
        exact Nat.lt_of_le_of_lt (Nat.min_le_right _ _) (small1000 (by omega))
      · rw [upd_ne (ne_of_none e nD), upd_ne (ne_of_none (s5 _ _ e) np)]
        exact tA _ _ (s5 _ _ e)
      · rw [upd_same, List.take_add_one, hcj]
        unfold ssV
        rw [List.map_append]
        rfl
    rintro H5 ⟨s5, eD⟩
    rw [List.length_map, List.take_of_length_le (by rw [eW9.1]; exact Nat.le_refl _)] at eD
    dsimp only [gName]
    try simp only [L2.start, List.map_cons, List.map_nil, List.length_cons, List.length_nil, List.replicate_succ, List.replicate_zero, List.cons_append, List.nil_append, List.set_cons_succ, List.set_cons_zero, Nat.reduceAdd, Nat.reduceSub, Nat.zero_add]
    have sH5 : Same H H5 := s9.trans s5
    have eF5 := sH5 _ _ eF
    have key : ∀ (i : Nat) (t : Addr) (x : Str × List Nat), vs[i]? = some t → nm[i]? = some x → ∃ l, H5 t = some (.tup [.str x.1, .ref l]) ∧ H5 l = some (.lst (nts x.2)) ∧ x.2.length ≤ 4 ∧ ∀ a ∈ x.2, a < m + gs.length := fun i t x ht hx => by
      obtain ⟨_, l, _, _, q2, q3⟩ := hvs i t x.1 x.2 ht hx
      obtain ⟨b1, b2⟩ := gok.2 i x.1 x.2 hx
      exact ⟨l, sH5 _ _ q2, sH5 _ _ q3, b1, b2⟩
    have at1 : ∀ x ∈ vs.map V.ref, ∃ i t y, x = V.ref t ∧ vs[i]? = some t ∧ nm[i]? = some y := fun x hx => by
      obtain ⟨t, ht, rfl⟩ := List.mem_map.mp hx
      obtain ⟨i, hi, ei⟩ := List.getElem_of_mem ht
      exact ⟨i, t, _, rfl, by rw [List.getElem?_eq_getElem hi, ei], List.getElem?_eq_getElem (by omega)⟩
    refine ⟨_, rfl, F, vs.map V.ref, nmOf H5, rfl, SqL.of eF5, fun x hx => ?_, fun x hx y hy e => ?_, fun ys p hp hpw np => ?_⟩
    · obtain ⟨i, t, y, rfl, ht, hy⟩ := at1 x hx
      obtain ⟨l, q2, _⟩ := key i t y ht hy
      exact ⟨t, _, rfl, by rw [nmOf_at q2]; exact q2⟩
    · obtain ⟨i, t, u, rfl, ht, hu⟩ := at1 x hx
      obtain ⟨j, t', u', rfl, ht', hu'⟩ := at1 y hy
      obtain ⟨_, q2, _⟩ := key i t u ht hu
      obtain ⟨_, q2', _⟩ := key j t' u' ht' hu'
      rw [nmOf_at q2, nmOf_at q2'] at e
      have ij := gok.1 _ _ _ _ hu hu' e
      subst ij
      rw [ht] at ht'
      cases ht'
      rfl
    have hz0 : (vs.zip nm).map (fun z => V.ref z.1) = vs.map V.ref := by
      show (vs.zip nm).map (V.ref ∘ Prod.fst) = _
      rw [← List.map_map, List.map_fst_zip (by omega)]
    rw [← hz0] at hp
    obtain ⟨zs, pz, ez⟩ := perm_lift hp (vs.zip nm) rfl
    subst ez
    have kz : ∀ z ∈ zs, ∃ l, H5 z.1 = some (.tup [.str z.2.1, .ref l]) ∧ H5 l = some (.lst (nts z.2.2)) ∧ z.2.2.length ≤ 4 ∧ ∀ a ∈ z.2.2, a < m + gs.length := fun z hz => by
      obtain ⟨i, hi, ei⟩ := List.getElem_of_mem (pz.mem_iff.mp hz)
      have e0 := List.getElem?_eq_getElem hi
      rw [ei, List.getElem?_zip_eq_some] at e0
      exact key i z.1 z.2 e0.1 e0.2
    have pn : (zs.map Prod.snd).Perm nm := by
      have := pz.map Prod.snd
      rw [List.map_snd_zip (by omega)] at this
      exact this
    have pw : ((zs.map Prod.snd).map (·.1)).Pairwise (fun x y => x.cps.toList ≤ y.cps.toList) := by
      rw [List.map_map, List.pairwise_map]
      rw [List.pairwise_map] at hpw
      refine hpw.imp_of_mem fun {x y} hx hy e => ?_
      obtain ⟨_, q2, _⟩ := kz x hx
      obtain ⟨_, q2', _⟩ := kz y hy
      rw [nmOf_at q2, nmOf_at q2'] at e
      exact e
    have sp := same_upd (o := .lst (zs.map fun z => V.ref z.1)) np
    have ep : (upd H5 p (.lst (zs.map fun z => V.ref z.1))) p = some (.lst (zs.map fun z => V.ref z.1)) := upd_same
    have eDp := sp _ _ eD
    replace kz : ∀ z ∈ zs, ∃ l, (upd H5 p (.lst (zs.map fun z => V.ref z.1))) z.1 = some (.tup [.str z.2.1, .ref l]) ∧ (upd H5 p (.lst (zs.map fun z => V.ref z.1))) l = some (.lst (nts z.2.2)) ∧ z.2.2.length ≤ 4 ∧ ∀ a ∈ z.2.2, a < m + gs.length := fun z hz => by
      obtain ⟨l, q1, q2, q3⟩ := kz z hz
      exact ⟨l, sp _ _ q1, sp _ _ q2, q3⟩
    have sHp := sH5.trans sp
    generalize upd H5 p (.lst (zs.map fun z => V.ref z.1)) = Hp' at *
    refine ⟨p, rfl, ⟨_, SqL.of ep⟩, fun T nT => ?_⟩
    refine lc_it (walk_list (K := K) (a := p) (xs := zs.map fun z => V.ref z.1)) (fun i H6 => Same Hp' H6 ∧ ∃ ws : List Addr, ws.length = i ∧ H6 T = some (.lst (ws.map V.ref)) ∧ ∀ (k : Nat) (u : Addr) (n : Str) (tx : List Nat), ws[k]? = some u → (setR ss (zs.map Prod.snd))[k]? = some (n, tx) → H u = none ∧ H6 u = some (.tup [.str n, .str (SX.S tx)])) ⟨same_upd nT, [], rfl, upd_same, fun k u n tx h => by simp at h⟩ (fun i H6 _ ⟨s6, _⟩ => SqL.of (s6 _ _ ep)) ?_ ?_
    · rintro j z H6 H7 hj ⟨s6, ws, lw, eT, hws⟩ ⟨rfl, hz⟩
      rw [List.getElem?_map] at hz
      have hj' : j < zs.length := by
        rw [List.length_map] at hj
        exact hj
      obtain ⟨⟨t, n, as⟩, hy⟩ : ∃ x, zs[j]? = some x := ⟨_, List.getElem?_eq_getElem hj'⟩
      have hrow : (setR ss (zs.map Prod.snd))[j]? = some (n, as.map fun a => ss.getD a 0) := by
        unfold setR
        rw [List.getElem?_map, List.getElem?_map, hy]
        rfl
      rw [hy] at hz
      cases hz
      obtain ⟨l, q1, q2, q3, q4⟩ := kz _ (List.mem_of_getElem? hy)
      dsimp only at q1 q2 q3 q4
      have q1' := s6 _ _ q1
      have q2' := s6 _ _ q2
      refine ⟨t, _, rfl, .inl (.inl q1'), rfl, _, _, rfl, _, _, rfl, rfl, rfl, ?_⟩
      refine yesT ?_
      refine ⟨_, rfl, rfl, _, rfl, l, rfl, ⟨_, SqL.of q2'⟩, fun U nU => ?_⟩
      refine lc_it (walk_list (K := K) (a := l) (xs := nts as)) (fun i H8 => Same H7 H8 ∧ H8 U = some (.lst (ssV ((as.map fun a => ss.getD a 0).take i)))) ⟨same_upd nU, upd_same⟩ (fun i H8 _ ⟨s8, _⟩ => SqL.of (s8 _ _ q2')) ?_ ?_
      · rintro k z H8 H8' hk ⟨s8, eU⟩ ⟨rfl, hz⟩
        obtain ⟨a, ha, rfl⟩ := nts_at hz
        have la := q4 a (List.mem_of_getElem? ha)
        refine ⟨rfl, yesT ?_⟩
        refine ⟨_, rfl, _, rfl, D, _, _, _, rfl, rfl, SqL.of (s8 _ _ (s6 _ _ eDp)), at_getS (by rw [lss]; exact la), ?_⟩
        refine ⟨_, eU, ?_, fun y u e => ?_, ?_⟩
        · unfold ssV
          rw [List.length_map, List.length_take, List.length_map]
          exact Nat.lt_of_le_of_lt (Nat.min_le_right _ _) (small1000 (by omega))
        · rw [upd_ne (ne_of_none e nU)]
          exact s8 _ _ e
        · rw [upd_same, List.take_add_one, List.getElem?_map, ha]
          unfold ssV
          rw [List.map_append]
          rfl
      rintro H8 ⟨s8, eU⟩
      rw [nts_len, List.take_of_length_le (by rw [List.length_map]; exact Nat.le_refl _)] at eU
      have eT8 := s8 _ _ eT
      generalize htx : (as.map fun a => ss.getD a 0) = tx at *
      have ltx : tx.length ≤ 4 := by
        rw [← htx, List.length_map]
        exact q3
      refine ⟨_, U, tx.map fun c => SX.S [c], rfl, rfl, .inl (.inl (.inl ?_)), join_z tx (by omega), ?_⟩
      · rw [List.map_map]
        exact eU
      rw [join_1]
      refine ⟨(by show 2 ≤ sizeLine; decide), fun u nu => ?_⟩
      have su := same_upd (o := .tup [.str n, .str (SX.S tx)]) nu
      have nuT : u ≠ T := fun z => by
        rw [z, eT8] at nu
        cases nu
      have sA : Same H7 (upd H8 u (.tup [.str n, .str (SX.S tx)])) := s8.trans su
      have nu0 : H u = none := by
        cases e : H u with
        | none => rfl
        | some o =>
          have := s8 _ _ (s6 _ _ (sHp _ _ e))
          rw [nu] at this
          cases this
      refine ⟨_, su _ _ eT8, ?_, fun y o e => ?_, ws ++ [u], by rw [List.length_append, lw]; rfl, ?_, fun k u' x' tx' hu hx' => ?_⟩
      · rw [List.length_map, lw]
        exact small1000 (by
          have := pn.length_eq
          rw [List.length_map] at this
          omega)
      · rw [upd_ne (ne_of_none e nT)]
        exact sA _ _ (s6 _ _ e)
      · rw [upd_same, List.map_append]
        rfl
      · by_cases c : k < ws.length
        · rw [List.getElem?_append_left c] at hu
          obtain ⟨p1, p3⟩ := hws k u' x' tx' hu hx'
          refine ⟨p1, ?_⟩
          rw [upd_ne (fun z => by rw [z, eT] at p3; cases p3)]
          exact sA _ _ p3
        · have k0 : k = ws.length := by
            have := (List.getElem?_eq_some_iff.mp hu).1
            rw [List.length_append, List.length_cons, List.length_nil] at this
            omega
          rw [List.getElem?_append_right (by omega), k0, Nat.sub_self] at hu
          rw [k0, lw, hrow] at hx'
          cases hu
          cases hx'
          refine ⟨nu0, ?_⟩
          rw [upd_ne nuT]
          exact upd_same
    · rintro H6 ⟨s6, ws, lw, eT, hws⟩
      have nT0 : H T = none := by
        cases e : H T with
        | none => rfl
        | some o =>
          have := sHp _ _ e
          rw [nT] at this
          cases this
      exact q (zs.map Prod.snd) T H6 pn pw (sHp.trans s6) ⟨ws, by rw [lw, List.length_map]; unfold setR; rw [List.length_map, List.length_map], eT, nT0, fun k u n tx hu hx => hws k u n tx hu hx⟩
end
section
variable {P : Program} {w : World} {K : PySem.W.Frag} {mg : Str → Option Value} {base : Heap}
variable {C : Addr} {za : Nat → Addr} {zl : Nat → FuncData}
theorem walk_zx {x y : Str} {n : Nat} (hn : n = min x.cps.size y.cps.size) : Walk (Itzx x y) n (fun _ => True) (YPair (fun i => (x.cps[i]?).map fun c => .str ⟨#[c]⟩) (fun i => (y.cps[i]?).map fun c => .str ⟨#[c]⟩)) := by
  subst hn
  refine ⟨fun i _ hi _ => hi, fun _ _ => rfl, fun i H v H' _ _ z => ?_⟩
  obtain ⟨T, c, d, h1, h2, h3, h4, h5⟩ := z
  exact ⟨T, _, _, h1, h2, h3, by simp only [h4]; rfl, by simp only [h5]; rfl⟩
theorem walk_zS {x y : List Nat} {n : Nat} (hx : x.length = n) (hy : y.length = n) : Walk (Itzx (SX.S x) (SX.S y)) n (fun _ => True) (YPair (fun i => (x[i]?).map fun c => .str (SX.S [c])) (fun i => (y[i]?).map fun c => .str (SX.S [c]))) := by
  have w := walk_zx (x := SX.S x) (y := SX.S y) (n := n) (by show n = min x.toArray.size y.toArray.size; rw [List.size_toArray, List.size_toArray, hx, hy]; omega)
  refine ⟨w.goes, w.stops, fun i H v H' hi g z => ?_⟩
  obtain ⟨T, u, v', e1, e2, e3, e4, e5⟩ := w.yields i H v H' hi g z
  refine ⟨T, u, v', e1, e2, e3, ?_, ?_⟩
  · rw [← e4]
    show _ = (x.toArray[i]?).map _
    rw [List.getElem?_toArray]
  · rw [← e5]
    show _ = (y.toArray[i]?).map _
    rw [List.getElem?_toArray]
/-! ### told rows asked -/
def RwAt (H : Hp) (t : Addr) (rs : List (Str × List Nat)) : Prop := ∃ ts : List Addr, ts.length = rs.length ∧ H t = some (.lst (ts.map V.ref)) ∧ ∀ (i : Nat) (u : Addr) (n : Str) (tx : List Nat), ts[i]? = some u → rs[i]? = some (n, tx) → H u = some (.tup [.str n, .str (SX.S tx)])
theorem SetAt.rw {H0 H : Hp} {t : Addr} {rs : List (Str × List Nat)} (h : SetAt H0 H t rs) : RwAt H t rs := by
  obtain ⟨ts, h1, h2, _, h4⟩ := h
  exact ⟨ts, h1, h2, fun i u n tx hu hr => (h4 i u n tx hu hr).2⟩
theorem RwAt.same {H H' : Hp} {t : Addr} {rs : List (Str × List Nat)} (h : RwAt H t rs) (s : Same H H') : RwAt H' t rs := by
  obtain ⟨ts, h1, h2, h3⟩ := h
  exact ⟨ts, h1, s _ _ h2, fun i u n tx hu hr => s _ _ (h3 i u n tx hu hr)⟩
def opn (r : Str × List Nat) : Bool := decide (45 ∈ r.2)
def spOpen60 : Sp := fun vs H Q _ => ∃ (t : Addr) (rs : List (Str × List Nat)), vs = [.ref t] ∧ RwAt H t rs ∧ rs.length ≤ 4 ∧ ∀ H', Same H H' → Q (.bl (rs.any opn)) H'
theorem ok__law_is_open (B : Bl mg) (L : LL K mg C za zl) : FnOk P w K mg base CX0 1 (za 12) (zl 12) ["_law_told"] spOpen60 := by
  refine L.F__law_is_open.ok sc__law_is_open (fun vs H Q E h => ?_) (fun cdv A outer s H vs Q E hr h => ?_)
  · obtain ⟨t, rs, rfl, _⟩ := h
    rfl
  obtain ⟨t, rs, rfl, ⟨ts, lt, et, hts⟩, hl, q⟩ := h
  refine ⟨_, (pss_one (ps_ret (pe_callB (cr_any rfl) (by rfl) B.any boot_any (pa_cons (pe_lc (own := [("_law_name", 1), ("_law_text", 2)]) (g := gTup K 2 (gCons (gName 1) (gCons (gName 2) gNil))) (by rfl) sc__law_is_open.nd (pi_list (pv 0)) (blkOk_by (own := [("_law_name", 1), ("_law_text", 2)]) (N := ["_law_told", "_law_name", "_law_text"]) (sc := defScope s__law_is_open) (by decide +kernel)) (fun _ _ _ _ _ => pg_tup rfl (pgs_cons (pg_name (i := 1) sc__law_is_open.nd rfl (Or.inl rfl) (.inr rfl)) (pgs_cons (pg_name (i := 2) sc__law_is_open.nd rfl (Or.inl rfl) (.inr rfl)) pgs_nil))) (fun _ _ _ _ _ => pts_nil) (fun _ _ _ _ _ => (pe_cmpR op_in_sign pe_str (pv 2) (by rfl)))) pa_nil)))), ?_⟩
  refine ⟨_, rfl, t, rfl, ⟨_, SqL.of et⟩, fun D nD => ?_⟩
  refine lc_it (walk_list (K := K) (a := t) (xs := ts.map V.ref)) (fun i H6 => Same H H6 ∧ H6 D = some (.lst (((rs.map opn).take i).map V.bl))) ⟨same_upd nD, upd_same⟩ (fun i H6 _ ⟨s6, _⟩ => SqL.of (s6 _ _ et)) ?_ ?_
  · rintro j z H6 H7 hj ⟨s6, eD⟩ ⟨rfl, hz⟩
    rw [List.getElem?_map] at hz
    have hj' : j < ts.length := by
      rw [List.length_map] at hj
      exact hj
    rw [List.getElem?_eq_getElem hj'] at hz
    cases hz
    obtain ⟨⟨n, tx⟩, hr⟩ : ∃ x, rs[j]? = some x := ⟨_, List.getElem?_eq_getElem (by omega)⟩
    have eu := s6 _ _ (hts j _ _ _ (List.getElem?_eq_getElem hj') hr)
    refine ⟨ts[j], _, rfl, .inl (.inl eu), rfl, _, _, rfl, _, _, rfl, rfl, rfl, ?_⟩
    refine yesT ?_
    rw [mns]
    refine ⟨_, rfl, 45, _, rfl, rfl, ?_⟩
    refine ⟨_, eD, ?_, fun y u e => ?_, ?_⟩
    · rw [List.length_map, List.length_take, List.length_map]
      exact Nat.lt_of_le_of_lt (Nat.min_le_right _ _) (small1000 (by omega))
    · rw [upd_ne (ne_of_none e nD)]
      exact s6 _ _ e
    · rw [upd_same, List.take_add_one, List.getElem?_map, hr, List.map_append]
      rfl
  · rintro H6 ⟨s6, eD⟩
    rw [List.length_map, lt, List.take_of_length_le (by rw [List.length_map]; exact Nat.le_refl _)] at eD
    refine ⟨D, rs.map opn, rfl, SqL.of eD, ?_⟩
    rw [List.any_map]
    exact q H6 s6
def txs (rs : List (Str × List Nat)) : List Nat := (rs.map (·.2)).flatten
def KeptL (f g : List Nat) : Prop := f.length = g.length ∧ ∀ (i : Nat) (a c : Nat), f[i]? = some a → g[i]? = some c → a = 45 ∨ a = c
theorem dp_strs3 {H : Hp} : ∀ ds : List Str, DpAll K H (ds.map V.str) (ds.map PyData.str)
  | [] => .nil
  | d :: ds => .cons (.str d) (dp_strs3 ds)
def stD (ds : List Int) (n x y z : Int) (r : Int × List Str) : PyData := .list [.tuple [.str "fours", .list (ds.map PyData.int)], .tuple [.str "levels", .int n], .tuple [.str "pair", .int x, .int y], .tuple [.str "product", .int z], .tuple [.str "round", .int r.1, .tuple (r.2.map PyData.str)]]
theorem joinL_0 : ∀ l : List (List Nat), TL.joinL [] l = l.flatten
  | [] => rfl
  | [a] => by simp [TL.joinL]
  | a :: b :: l => by
    show a ++ ([] ++ TL.joinL [] (b :: l)) = _
    rw [joinL_0 (b :: l)]
    rfl
theorem join_txs (rs : List (Str × List Nat)) : Txt.join "" (rs.map fun r => SX.S r.2) = SX.S (txs rs) := by
  have e := SX.join_S [] (rs.map (·.2))
  rw [List.map_map, joinL_0] at e
  exact e
theorem sum_txs (rs : List (Str × List Nat)) (h : ∀ r ∈ rs, r.2.length ≤ 4) : ((rs.map fun r => SX.S r.2).map (·.length)).sum ≤ 4 * rs.length := by
  induction rs with
  | nil => exact Nat.le_refl _
  | cons r rs ih =>
    have a := ih fun x hx => h x (List.mem_cons_of_mem _ hx)
    have b := h r (List.mem_cons_self ..)
    rw [List.map_cons, List.map_cons, List.sum_cons, SX.S_len, List.length_cons]
    omega
theorem len_txs (rs : List (Str × List Nat)) (h : ∀ r ∈ rs, r.2.length ≤ 4) : (txs rs).length ≤ 4 * rs.length := by
  unfold txs
  induction rs with
  | nil => exact Nat.le_refl _
  | cons r rs ih =>
    have a := ih fun x hx => h x (List.mem_cons_of_mem _ hx)
    have b := h r (List.mem_cons_self ..)
    rw [List.map_cons, List.flatten_cons, List.length_append, List.length_cons]
    omega
def spKept60 : Sp := fun vs H Q _ => ∃ (t u : Addr) (rs ss : List (Str × List Nat)), vs = [.ref t, .ref u] ∧ RwAt H t rs ∧ RwAt H u ss ∧ rs.length ≤ 4 ∧ (∀ r ∈ rs, r.2.length ≤ 4) ∧ (∀ r ∈ ss, r.2.length ≤ 4) ∧ rs.map (·.1) = ss.map (·.1) ∧ KeptL (txs rs) (txs ss) ∧ ∀ H', Same H H' → Q (.bl true) H'
theorem ok__law_kept (B : Bl mg) (L : LL K mg C za zl) : FnOk P w K mg base CX0 1 (za 17) (zl 17) ["_law_one", "_law_other"] spKept60 := by
  refine L.F__law_kept.ok sc__law_kept (fun vs H Q E h => ?_) (fun cdv A outer s H vs Q E hr h => ?_)
  · obtain ⟨t, u, rs, ss, rfl, _⟩ := h
    rfl
  obtain ⟨t, u, rs, ss, rfl, ⟨ts, lt, et, hts⟩, ⟨us, lu, eu, hus⟩, hl, r4, s4q, hnn, kl, q⟩ := h
  refine ⟨_, (pss_cons (ps_if (pt_cmpR (op_nePl hr.units) (pe_lc (own := [("_law_name", 3), ("_law_text", 4)]) (g := gTup K 2 (gCons (gName 3) (gCons (gName 4) gNil))) (by rfl) sc__law_kept.nd (pi_list (pv 0)) (blkOk_by (own := [("_law_name", 3), ("_law_text", 4)]) (N := ["_law_one", "_law_other", "_law_signs", "_law_name", "_law_text", "_law_mine", "_law_its"]) (sc := defScope s__law_kept) (by decide +kernel)) (fun _ _ _ _ _ => pg_tup rfl (pgs_cons (pg_name (i := 3) sc__law_kept.nd rfl (Or.inl rfl) (.inr rfl)) (pgs_cons (pg_name (i := 4) sc__law_kept.nd rfl (Or.inl rfl) (.inr rfl)) pgs_nil))) (fun _ _ _ _ _ => pts_nil) (fun _ _ _ _ _ => (pv 3))) (pe_lc (own := [("_law_name", 3), ("_law_text", 4)]) (g := gTup K 2 (gCons (gName 3) (gCons (gName 4) gNil))) (by rfl) sc__law_kept.nd (pi_list (pv 1)) (blkOk_by (own := [("_law_name", 3), ("_law_text", 4)]) (N := ["_law_one", "_law_other", "_law_signs", "_law_name", "_law_text", "_law_mine", "_law_its"]) (sc := defScope s__law_kept) (by decide +kernel)) (fun _ _ _ _ _ => pg_tup rfl (pgs_cons (pg_name (i := 3) sc__law_kept.nd rfl (Or.inl rfl) (.inr rfl)) (pgs_cons (pg_name (i := 4) sc__law_kept.nd rfl (Or.inl rfl) (.inr rfl)) pgs_nil))) (fun _ _ _ _ _ => pts_nil) (fun _ _ _ _ _ => (pv 3))) (nomark _)) (pss_one (ps_ret pe_bl)) pss_nil)
    (pss_cons (ps_set (i := 2) sc__law_kept.nd rfl (.inl rfl) (pe_bm PySem.F.plainAttrs_str PySem.F.slot_str_join PySem.F.type_str_join mt_join pe_str (pa_cons (pe_lc (own := [("_law_name", 3), ("_law_text", 4)]) (g := gTup K 2 (gCons (gName 3) (gCons (gName 4) gNil))) (by rfl) sc__law_kept.nd (pi_list (pv 0)) (blkOk_by (own := [("_law_name", 3), ("_law_text", 4)]) (N := ["_law_one", "_law_other", "_law_signs", "_law_name", "_law_text", "_law_mine", "_law_its"]) (sc := defScope s__law_kept) (by decide +kernel)) (fun _ _ _ _ _ => pg_tup rfl (pgs_cons (pg_name (i := 3) sc__law_kept.nd rfl (Or.inl rfl) (.inr rfl)) (pgs_cons (pg_name (i := 4) sc__law_kept.nd rfl (Or.inl rfl) (.inr rfl)) pgs_nil))) (fun _ _ _ _ _ => pts_nil) (fun _ _ _ _ _ => (pv 4))) pa_nil)))
    (pss_one (ps_ret (pe_callB (cr_all rfl) (by rfl) B.all boot_all (pa_cons (pe_lc (own := [("_law_mine", 5), ("_law_its", 6)]) (g := gTup K 2 (gCons (gName 5) (gCons (gName 6) gNil))) (by rfl) sc__law_kept.nd (pi_zx (by rfl) B.zip (pa_cons (pv 2) (pa_cons (pe_bm PySem.F.plainAttrs_str PySem.F.slot_str_join PySem.F.type_str_join mt_join pe_str (pa_cons (pe_lc (own := [("_law_name", 3), ("_law_text", 4)]) (g := gTup K 2 (gCons (gName 3) (gCons (gName 4) gNil))) (by rfl) sc__law_kept.nd (pi_list (pv 1)) (blkOk_by (own := [("_law_name", 3), ("_law_text", 4)]) (N := ["_law_one", "_law_other", "_law_signs", "_law_name", "_law_text", "_law_mine", "_law_its"]) (sc := defScope s__law_kept) (by decide +kernel)) (fun _ _ _ _ _ => pg_tup rfl (pgs_cons (pg_name (i := 3) sc__law_kept.nd rfl (Or.inl rfl) (.inr rfl)) (pgs_cons (pg_name (i := 4) sc__law_kept.nd rfl (Or.inl rfl) (.inr rfl)) pgs_nil))) (fun _ _ _ _ _ => pts_nil) (fun _ _ _ _ _ => (pv 4))) pa_nil)) pa_nil))) (blkOk_by (own := [("_law_mine", 5), ("_law_its", 6)]) (N := ["_law_one", "_law_other", "_law_signs", "_law_name", "_law_text", "_law_mine", "_law_its"]) (sc := defScope s__law_kept) (by decide +kernel)) (fun _ _ _ _ _ => pg_tup rfl (pgs_cons (pg_name (i := 5) sc__law_kept.nd rfl (Or.inl rfl) (.inr rfl)) (pgs_cons (pg_name (i := 6) sc__law_kept.nd rfl (Or.inl rfl) (.inr rfl)) pgs_nil))) (fun _ _ _ _ _ => pts_nil) (fun _ _ _ _ _ => (pe_cmpR (op_in_seqK (K := K)) (pv 5) (pe_tup (pa_cons pe_str (pa_cons (pv 6) pa_nil))) (by rfl)))) pa_nil)))))), ?_⟩
  have lrs : rs.length = ss.length := by
    have := congrArg List.length hnn
    rw [List.length_map, List.length_map] at this
    exact this
  refine ⟨_, rfl, t, rfl, ⟨_, SqL.of et⟩, fun D1 nD1 => ?_⟩
  refine lc_it (walk_list (K := K) (a := t) (xs := ts.map V.ref)) (fun i H6 => Same H H6 ∧ H6 D1 = some (.lst ((rs.take i).map fun r => V.str r.1))) ⟨same_upd nD1, upd_same⟩ (fun i H6 _ ⟨s6, _⟩ => SqL.of (s6 _ _ et)) ?_ ?_
  · rintro j z H6 H7 hj ⟨s6, eD⟩ ⟨rfl, hz⟩
    rw [List.getElem?_map] at hz
    have hj' : j < ts.length := by
      rw [List.length_map] at hj
      exact hj
    rw [List.getElem?_eq_getElem hj'] at hz
    cases hz
    obtain ⟨⟨n, tx⟩, hr⟩ : ∃ x, rs[j]? = some x := ⟨_, List.getElem?_eq_getElem (by omega)⟩
    have eu' := s6 _ _ (hts j _ _ _ (List.getElem?_eq_getElem hj') hr)
    refine ⟨ts[j], _, rfl, .inl (.inl eu'), rfl, _, _, rfl, _, _, rfl, rfl, rfl, ?_⟩
    refine yesT ?_
    refine ⟨_, rfl, _, eD, ?_, fun y o e => ?_, ?_⟩
    · rw [List.length_map, List.length_take]
      exact Nat.lt_of_le_of_lt (Nat.min_le_right _ _) (small1000 (by omega))
    · rw [upd_ne (ne_of_none e nD1)]
      exact s6 _ _ e
    · rw [upd_same, List.take_add_one, hr, List.map_append]
      rfl
  rintro H1 ⟨s1, e1⟩
  rw [List.length_map, List.take_of_length_le (by omega)] at e1
  have hus1 : ∀ (i : Nat) (v : Addr) (n : Str) (tx : List Nat), us[i]? = some v → ss[i]? = some (n, tx) → H1 v = some (.tup [.str n, .str (SX.S tx)]) := fun i v n tx a c => s1 _ _ (hus i v n tx a c)
  have eu1 := s1 _ _ eu
  refine ⟨_, rfl, u, rfl, ⟨_, SqL.of eu1⟩, fun D2 nD2 => ?_⟩
  refine lc_it (walk_list (K := K) (a := u) (xs := us.map V.ref)) (fun i H6 => Same H1 H6 ∧ H6 D2 = some (.lst ((ss.take i).map fun r => V.str r.1))) ⟨same_upd nD2, upd_same⟩ (fun i H6 _ ⟨s6, _⟩ => SqL.of (s6 _ _ eu1)) ?_ ?_
  · rintro j z H6 H7 hj ⟨s6, eD⟩ ⟨rfl, hz⟩
    rw [List.getElem?_map] at hz
    have hj' : j < us.length := by
      rw [List.length_map] at hj
      exact hj
    rw [List.getElem?_eq_getElem hj'] at hz
    cases hz
    obtain ⟨⟨n, tx⟩, hr⟩ : ∃ x, ss[j]? = some x := ⟨_, List.getElem?_eq_getElem (by omega)⟩
    have eu' := s6 _ _ (hus1 j _ _ _ (List.getElem?_eq_getElem hj') hr)
    refine ⟨us[j], _, rfl, .inl (.inl eu'), rfl, _, _, rfl, _, _, rfl, rfl, rfl, ?_⟩
    refine yesT ?_
    refine ⟨_, rfl, _, eD, ?_, fun y o e => ?_, ?_⟩
    · rw [List.length_map, List.length_take]
      exact Nat.lt_of_le_of_lt (Nat.min_le_right _ _) (small1000 (by omega))
    · rw [upd_ne (ne_of_none e nD2)]
      exact s6 _ _ e
    · rw [upd_same, List.take_add_one, hr, List.map_append]
      rfl
  rintro H2 ⟨s2, e2⟩
  rw [List.length_map, List.take_of_length_le (by omega)] at e2
  have pls : ∀ l : List Str, (PyData.list (l.map PyData.str)).plain = true ∧ (PyData.list (l.map PyData.str)).depth ≤ 64 := fun l => pl_list fun d hd => by
    obtain ⟨y, _, rfl⟩ := List.mem_map.mp hd
    exact ⟨rfl, by simp [PyData.depth]⟩
  have f1 : rs.map (fun r => V.str r.1) = (rs.map (·.1)).map V.str := by rw [List.map_map]; rfl
  have f2 : ss.map (fun r => V.str r.1) = (rs.map (·.1)).map V.str := by rw [hnn, List.map_map]; rfl
  rw [f1] at e1
  rw [f2] at e2
  refine ⟨.list ((rs.map (·.1)).map PyData.str), .list ((rs.map (·.1)).map PyData.str), .lst (SqL.of (s2 _ _ e1)) (dp_strs3 _), .lst (SqL.of e2) (dp_strs3 _), (pls _).1, (pls _).1, (pls _).2, ?_⟩
  rw [PySem.SeqAt.eqv_refl_plain _ (pls _).1]
  refine ⟨_, rfl, ite2 (fun z => absurd z (by decide)) (fun _ => ?_)⟩
  dsimp only [tNext]
  have ht2 : ∀ (i : Nat) (v : Addr) (n : Str) (tx : List Nat), ts[i]? = some v → rs[i]? = some (n, tx) → H2 v = some (.tup [.str n, .str (SX.S tx)]) := fun i v n tx a c => s2 _ _ (s1 _ _ (hts i v n tx a c))
  have et2 := s2 _ _ (s1 _ _ et)
  refine ⟨rfl, _, rfl, t, rfl, ⟨_, SqL.of et2⟩, fun D3 nD3 => ?_⟩
  refine lc_it (walk_list (K := K) (a := t) (xs := ts.map V.ref)) (fun i H6 => Same H2 H6 ∧ H6 D3 = some (.lst ((rs.take i).map fun r => V.str (SX.S r.2)))) ⟨same_upd nD3, upd_same⟩ (fun i H6 _ ⟨s6, _⟩ => SqL.of (s6 _ _ et2)) ?_ ?_
  · rintro j z H6 H7 hj ⟨s6, eD⟩ ⟨rfl, hz⟩
    rw [List.getElem?_map] at hz
    have hj' : j < ts.length := by
      rw [List.length_map] at hj
      exact hj
    rw [List.getElem?_eq_getElem hj'] at hz
    cases hz
    obtain ⟨⟨n, tx⟩, hr⟩ : ∃ x, rs[j]? = some x := ⟨_, List.getElem?_eq_getElem (by omega)⟩
    have eu' := s6 _ _ (ht2 j _ _ _ (List.getElem?_eq_getElem hj') hr)
    refine ⟨ts[j], _, rfl, .inl (.inl eu'), rfl, _, _, rfl, _, _, rfl, rfl, rfl, ?_⟩
    refine yesT ?_
    refine ⟨_, rfl, _, eD, ?_, fun y o e => ?_, ?_⟩
    · rw [List.length_map, List.length_take]
      exact Nat.lt_of_le_of_lt (Nat.min_le_right _ _) (small1000 (by omega))
    · rw [upd_ne (ne_of_none e nD3)]
      exact s6 _ _ e
    · rw [upd_same, List.take_add_one, hr, List.map_append]
      rfl
  rintro H3 ⟨s3, e3⟩
  rw [List.length_map, List.take_of_length_le (by omega)] at e3
  refine ⟨_, D3, rs.map fun r => SX.S r.2, rfl, rfl, .inl (SqL.of ?_), ?_, ?_⟩
  · rw [List.map_map]
    exact e3
  · have := sum_txs rs r4
    rw [show ("" : Str).length = 0 from rfl]
    omega
  rw [join_txs]
  dsimp only [gName]
  try simp only [L2.start, List.map_cons, List.map_nil, List.length_cons, List.length_nil, List.replicate_succ, List.replicate_zero, List.cons_append, List.nil_append, List.set_cons_succ, List.set_cons_zero, Nat.reduceAdd, Nat.reduceSub, Nat.zero_add]
  have hu3 : ∀ (i : Nat) (v : Addr) (n : Str) (tx : List Nat), us[i]? = some v → ss[i]? = some (n, tx) → H3 v = some (.tup [.str n, .str (SX.S tx)]) := fun i v n tx a c => s3 _ _ (s2 _ _ (hus1 i v n tx a c))
  have eu3 := s3 _ _ (s2 _ _ eu1)
  refine ⟨_, rfl, rfl, _, rfl, u, rfl, ⟨_, SqL.of eu3⟩, fun D4 nD4 => ?_⟩
  refine lc_it (walk_list (K := K) (a := u) (xs := us.map V.ref)) (fun i H6 => Same H3 H6 ∧ H6 D4 = some (.lst ((ss.take i).map fun r => V.str (SX.S r.2)))) ⟨same_upd nD4, upd_same⟩ (fun i H6 _ ⟨s6, _⟩ => SqL.of (s6 _ _ eu3)) ?_ ?_
  · rintro j z H6 H7 hj ⟨s6, eD⟩ ⟨rfl, hz⟩
    rw [List.getElem?_map] at hz
    have hj' : j < us.length := by
      rw [List.length_map] at hj
      exact hj
    rw [List.getElem?_eq_getElem hj'] at hz
    cases hz
    obtain ⟨⟨n, tx⟩, hr⟩ : ∃ x, ss[j]? = some x := ⟨_, List.getElem?_eq_getElem (by omega)⟩
    have eu' := s6 _ _ (hu3 j _ _ _ (List.getElem?_eq_getElem hj') hr)
    refine ⟨us[j], _, rfl, .inl (.inl eu'), rfl, _, _, rfl, _, _, rfl, rfl, rfl, ?_⟩
    refine yesT ?_
    refine ⟨_, rfl, _, eD, ?_, fun y o e => ?_, ?_⟩
    · rw [List.length_map, List.length_take]
      exact Nat.lt_of_le_of_lt (Nat.min_le_right _ _) (small1000 (by omega))
    · rw [upd_ne (ne_of_none e nD4)]
      exact s6 _ _ e
    · rw [upd_same, List.take_add_one, hr, List.map_append]
      rfl
  rintro H4 ⟨s4, e4⟩
  rw [List.length_map, List.take_of_length_le (by omega)] at e4
  refine ⟨_, D4, ss.map fun r => SX.S r.2, rfl, rfl, .inl (SqL.of ?_), ?_, ?_⟩
  · rw [List.map_map]
    exact e4
  · have := sum_txs ss s4q
    rw [show ("" : Str).length = 0 from rfl]
    omega
  rw [join_txs]
  refine ⟨SX.S (txs rs), SX.S (txs ss), rfl, fun D nD => ?_⟩
  have sH4 : Same H H4 := ((s1.trans s2).trans s3).trans s4
  have lx := len_txs rs r4
  obtain ⟨kll, kl⟩ := kl
  generalize txs rs = f at *
  generalize txs ss = g at *
  refine lc_it (walk_zS (x := f) (y := g) (n := f.length) rfl kll.symm) (fun i H6 => Same H4 H6 ∧ H6 D = some (.lst ((List.replicate i true).map V.bl))) ⟨same_upd nD, upd_same⟩ (fun _ _ _ _ => trivial) ?_ ?_
  · rintro i v H6 H7 hi ⟨s6, eD⟩ ⟨T, u1, u2, rfl, nT, rfl, x1, x2⟩
    obtain ⟨a, g1, rfl⟩ := Option.map_eq_some_iff.mp x1
    obtain ⟨c, g2, rfl⟩ := Option.map_eq_some_iff.mp x2
    have sT := same_upd (o := .tup [.str (SX.S [a]), .str (SX.S [c])]) nT
    refine ⟨T, _, rfl, .inl (.inl upd_same), rfl, _, _, rfl, _, _, rfl, rfl, rfl, ?_⟩
    refine yesT ?_
    have eDT := sT _ _ eD
    generalize upd H6 T (.tup [.str (SX.S [a]), .str (SX.S [c])]) = H7 at *
    refine ⟨_, rfl, _, rfl, (by show 2 ≤ sizeLine; decide), fun U nU => ?_⟩
    have sU := same_upd (o := .tup [.str (Str.ofString "-"), .str (SX.S [c])]) nU
    refine ⟨U, _, rfl, .inr (.inl (.inl upd_same)), rfl, rfl, ?_⟩
    have hin : inV (.str (SX.S [a])) [.str (Str.ofString "-"), .str (SX.S [c])] = true := by
      rw [mns, in2]
      exact decide_eq_true ((kl i a c g1 g2).imp Eq.symm Eq.symm)
    rw [hin]
    refine ⟨_, sU _ _ eDT, ?_, fun y o e => ?_, ?_⟩
    · rw [List.length_map, List.length_replicate]
      exact small1000 (by omega)
    · rw [upd_ne (ne_of_none e nD)]
      exact sU _ _ (sT _ _ (s6 _ _ e))
    · rw [upd_same, List.replicate_succ', List.map_append]
      rfl
  · rintro H6 ⟨s6, eD⟩
    refine ⟨D, List.replicate f.length true, rfl, SqL.of eD, ?_⟩
    rw [show (List.replicate f.length true).all id = true from List.all_eq_true.mpr fun x hx => by rw [List.eq_of_mem_replicate hx]; rfl]
    exact q H6 (sH4.trans s6)
end
section
variable {P : Program} {w : World} {K : PySem.W.Frag} {mg : Str → Option Value} {base : Heap}
variable {C : Addr} {za : Nat → Addr} {zl : Nat → FuncData}
/-! ### shutting a place keeps what is settled -/
theorem kept_turn {a c : Nat} (ha : a = 45 ∨ a = 48 ∨ a = 49) (hc : c = 45 ∨ c = 48 ∨ c = 49) (h : a = 45 ∨ a = c) : turnS a = 45 ∨ turnS a = turnS c := by
  rcases h with rfl | rfl
  · exact .inl rfl
  · exact .inr rfl
theorem kept_ru {a b c d r : Nat} (hr : r = 48 ∨ r = 49) (ha : a = 45 ∨ a = 48 ∨ a = 49) (hb : b = 45 ∨ b = 48 ∨ b = 49) (hc : c = 45 ∨ c = 48 ∨ c = 49) (hd : d = 45 ∨ d = 48 ∨ d = 49) (h : a = 45 ∨ a = c) (k : b = 45 ∨ b = d) : ruS a b r = 45 ∨ ruS a b r = ruS c d r := by
  rcases hr with rfl | rfl <;> rcases ha with rfl | rfl | rfl <;> rcases hb with rfl | rfl | rfl <;> rcases hc with rfl | rfl | rfl <;> rcases hd with rfl | rfl | rfl <;> revert h k <;> decide
theorem kept_un {a b c d : Nat} (ha : a = 45 ∨ a = 48 ∨ a = 49) (hb : b = 45 ∨ b = 48 ∨ b = 49) (h : a = 45 ∨ a = c) (k : b = 45 ∨ b = d) : unS a b = 45 ∨ unS a b = unS c d := by
  rcases h with rfl | rfl
  · exact .inl (if_pos (.inl rfl))
  · rcases k with rfl | rfl
    · exact .inl (if_pos (.inr rfl))
    · exact .inr rfl
theorem KeptL.get {f g : List Nat} (h : KeptL f g) {a : Nat} (ha : a < f.length) : f.getD a 0 = 45 ∨ f.getD a 0 = g.getD a 0 := by
  have hb : a < g.length := by rw [← h.1]; exact ha
  have := h.2 a _ _ (List.getElem?_eq_getElem ha) (List.getElem?_eq_getElem hb)
  rw [List.getD, List.getD, List.getElem?_eq_getElem ha, List.getElem?_eq_getElem hb]
  exact this
theorem KeptL.snoc {f g : List Nat} {a c : Nat} (h : KeptL f g) (k : a = 45 ∨ a = c) : KeptL (f ++ [a]) (g ++ [c]) := by
  refine ⟨by rw [List.length_append, List.length_append, h.1]; rfl, fun i x y hx hy => ?_⟩
  by_cases d : i < f.length
  · rw [List.getElem?_append_left d] at hx
    rw [List.getElem?_append_left (by rw [← h.1]; exact d)] at hy
    exact h.2 i x y hx hy
  · have i0 : i = f.length := by
      have := (List.getElem?_eq_some_iff.mp hx).1
      rw [List.length_append, List.length_cons, List.length_nil] at this
      omega
    rw [List.getElem?_append_right (by omega), i0, Nat.sub_self] at hx
    rw [List.getElem?_append_right (by rw [← h.1]; omega), i0, h.1, Nat.sub_self] at hy
    cases hx
    cases hy
    exact k
theorem kept_gate {f g : List Nat} (sf : SgL f) (sg : SgL g) (h : KeptL f g) {gt : Gt} (ok : gt.ok f.length) : gsg f gt = 45 ∨ gsg f gt = gsg g gt := by
  cases gt with
  | fi b => exact .inr rfl
  | w k l =>
    show gsw (f.getD (l.getD 0 0) 0) (f.getD (l.getD 1 0) 0) k = 45 ∨ gsw (f.getD (l.getD 0 0) 0) (f.getD (l.getD 1 0) 0) k = gsw (g.getD (l.getD 0 0) 0) (g.getD (l.getD 1 0) 0) k
    have l0 : 0 < l.length := by
      rcases ok.1 with ⟨_, z⟩ | ⟨_, z⟩ <;> omega
    have la : l.getD 0 0 < f.length := by
      match l, l0, ok with
      | a :: l, _, ok => exact ok.2 a (by simp)
    have la' : l.getD 0 0 < g.length := by rw [← h.1]; exact la
    have k0 := h.get la
    have x1 := getD_sg sf la
    have x2 := getD_sg sg la'
    unfold gsw
    by_cases ko : k = "other"
    · rw [if_pos ko, if_pos ko]
      exact kept_turn x1 x2 k0
    rw [if_neg ko, if_neg ko]
    have l2 : l.length = 2 := by
      rcases ok.1 with ⟨_, z⟩ | ⟨z, _⟩
      · exact z
      · exact absurd z ko
    have lb : l.getD 1 0 < f.length := by
      match l, l2, ok with
      | [a, b], _, ok => exact ok.2 b (by simp)
    have lb' : l.getD 1 0 < g.length := by rw [← h.1]; exact lb
    have k1 := h.get lb
    have y1 := getD_sg sf lb
    have y2 := getD_sg sg lb'
    by_cases kb : k = "both"
    · rw [if_pos kb, if_pos kb]
      exact kept_ru (.inl rfl) x1 y1 x2 y2 k0 k1
    rw [if_neg kb, if_neg kb]
    by_cases ke : k = "either"
    · rw [if_pos ke, if_pos ke]
      exact kept_ru (.inr rfl) x1 y1 x2 y2 k0 k1
    rw [if_neg ke, if_neg ke]
    exact kept_un x1 y1 k0 k1
theorem kept_sgs {m : Nat} {f g : List Nat} (sf : SgL f) (sg : SgL g) (lf : f.length = m) (lg : g.length = m) (h : KeptL f g) {gs : List Gt} (ok : GsOk m gs) : KeptL (sgs f gs) (sgs g gs) := by
  have key : ∀ j, j ≤ gs.length → KeptL (sgs f (gs.take j)) (sgs g (gs.take j)) := by
    intro j
    induction j with
    | zero => exact fun _ => h
    | succ j ih =>
      intro hj
      have hg : gs[j]? = some gs[j] := List.getElem?_eq_getElem (by omega)
      have okj : GsOk m (gs.take j) := fun i g' h => ok i g' (by
        rw [List.getElem?_take] at h
        split at h
        · exact h
        · cases h)
      rw [List.take_add_one, hg]
      show KeptL (sgs f (gs.take j ++ [gs[j]])) (sgs g (gs.take j ++ [gs[j]]))
      rw [sgs_snoc, sgs_snoc]
      refine (ih (by omega)).snoc (kept_gate (sgs_sg sf lf okj) (sgs_sg sg lg okj) (ih (by omega)) ?_)
      rw [sgs_len, List.length_take, lf, Nat.min_eq_left (by omega)]
      exact ok j _ hg
  have k := key gs.length (Nat.le_refl _)
  rw [List.take_length] at k
  exact k
theorem kept_rows {f g : List Nat} (h : KeptL f g) : ∀ (nm : List (Str × List Nat)), (∀ x ∈ nm, ∀ a ∈ x.2, a < f.length) → KeptL (txs (setR f nm)) (txs (setR g nm)) := by
  have app : ∀ {a b c d : List Nat}, KeptL a c → KeptL b d → KeptL (a ++ b) (c ++ d) := fun {a b c d} p q => by
    refine ⟨by rw [List.length_append, List.length_append, p.1, q.1], fun i x y hx hy => ?_⟩
    by_cases l : i < a.length
    · rw [List.getElem?_append_left l] at hx
      rw [List.getElem?_append_left (by rw [← p.1]; exact l)] at hy
      exact p.2 i x y hx hy
    · rw [List.getElem?_append_right (by omega)] at hx
      rw [List.getElem?_append_right (by rw [← p.1]; omega), ← p.1] at hy
      exact q.2 _ x y hx hy
  intro nm
  induction nm with
  | nil => exact fun _ => ⟨rfl, fun i a c x => by cases x⟩
  | cons r nm ih =>
    intro hb
    refine app ⟨by rw [List.length_map, List.length_map], fun i x y hx hy => ?_⟩ (ih fun x hx => hb x (List.mem_cons_of_mem _ hx))
    rw [List.getElem?_map] at hx hy
    obtain ⟨a, e, rfl⟩ := Option.map_eq_some_iff.mp hx
    rw [e] at hy
    cases hy
    exact h.get (hb r (List.mem_cons_self ..) a (List.mem_of_getElem? e))
theorem ShutOf.kept {x y : List Nat} (h : ShutOf x y) : KeptL x y := by
  rcases h with ⟨rfl, _⟩ | ⟨p, c, hp, hc, rfl⟩
  · exact ⟨rfl, fun i a c x y => by rw [x] at y; cases y; exact .inr rfl⟩
  · refine ⟨by rw [List.length_set], fun i a d hx hy => ?_⟩
    by_cases e : p = i
    · subst e
      rw [hp] at hx
      cases hx
      exact .inl rfl
    · rw [List.getElem?_set_ne e, hx] at hy
      cases hy
      exact .inr rfl
/-! ### all shut: none open -/
theorem shut_gate {f : List Nat} (sf : SgL f) (no : 45 ∉ f) {gt : Gt} (ok : gt.ok f.length) : ¬ gsg f gt = 45 := by
  have at1 : ∀ a, a < f.length → f.getD a 0 = 48 ∨ f.getD a 0 = 49 := fun a ha => by
    rcases getD_sg sf ha with z | z | z
    · refine absurd ?_ no
      rw [← z, List.getD, List.getElem?_eq_getElem ha]
      exact List.getElem_mem ha
    · exact .inl z
    · exact .inr z
  cases gt with
  | fi b =>
    show ¬ (if b = 1 then 49 else 48) = 45
    split <;> decide
  | w k l =>
    show ¬ gsw (f.getD (l.getD 0 0) 0) (f.getD (l.getD 1 0) 0) k = 45
    have l0 : 0 < l.length := by
      rcases ok.1 with ⟨_, z⟩ | ⟨_, z⟩ <;> omega
    have hx := at1 (l.getD 0 0) (by
      match l, l0, ok with
      | a :: l, _, ok => exact ok.2 a (by simp))
    unfold gsw
    by_cases ko : k = "other"
    · rw [if_pos ko]
      rcases hx with z | z <;> rw [z] <;> decide
    rw [if_neg ko]
    have l2 : l.length = 2 := by
      rcases ok.1 with ⟨_, z⟩ | ⟨z, _⟩
      · exact z
      · exact absurd z ko
    have hy := at1 (l.getD 1 0) (by
      match l, l2, ok with
      | [a, b], _, ok => exact ok.2 b (by simp))
    split
    · rcases hx with z | z <;> rcases hy with w | w <;> rw [z, w] <;> decide
    split
    · rcases hx with z | z <;> rcases hy with w | w <;> rw [z, w] <;> decide
    · rcases hx with z | z <;> rcases hy with w | w <;> rw [z, w] <;> decide
theorem shut_sgs {m : Nat} {f : List Nat} (sf : SgL f) (no : 45 ∉ f) (lf : f.length = m) {gs : List Gt} (ok : GsOk m gs) : 45 ∉ sgs f gs := by
  have key : ∀ j, j ≤ gs.length → 45 ∉ sgs f (gs.take j) := by
    intro j
    induction j with
    | zero => exact fun _ => no
    | succ j ih =>
      intro hj
      have hg : gs[j]? = some gs[j] := List.getElem?_eq_getElem (by omega)
      have okj : GsOk m (gs.take j) := fun i g' h => ok i g' (by
        rw [List.getElem?_take] at h
        split at h
        · exact h
        · cases h)
      rw [List.take_add_one, hg]
      show 45 ∉ sgs f (gs.take j ++ [gs[j]])
      rw [sgs_snoc]
      intro hm
      rcases List.mem_append.mp hm with z | z
      · exact ih (by omega) z
      · refine shut_gate (sgs_sg sf lf okj) (ih (by omega)) ?_ (List.mem_singleton.mp z).symm
        rw [sgs_len, List.length_take, lf, Nat.min_eq_left (by omega)]
        exact ok j _ hg
  have k := key gs.length (Nat.le_refl _)
  rw [List.take_length] at k
  exact k
theorem shut_rows {f : List Nat} (no : 45 ∉ f) (nm : List (Str × List Nat)) (hb : ∀ x ∈ nm, ∀ a ∈ x.2, a < f.length) : (setR f nm).any opn = false := by
  rw [List.any_eq_false]
  intro r hr
  obtain ⟨x, hx, rfl⟩ := List.mem_map.mp hr
  intro z
  have z := of_decide_eq_true z
  obtain ⟨a, ha, e⟩ := List.mem_map.mp z
  have la := hb x hx a ha
  refine no ?_
  rw [← e, List.getD, List.getElem?_eq_getElem la]
  exact List.getElem_mem la
/-! ### what is drawn stands while the net grows -/
def GvS (S : List Addr) (H : Hp) (F : Addr) (nm : List (Str × List Nat)) : Prop := F ∉ S ∧ ∃ ts : List Addr, ts.length = nm.length ∧ H F = some (.lst (ts.map V.ref)) ∧ ∀ (i : Nat) (t : Addr) (n : Str) (ws : List Nat), ts[i]? = some t → nm[i]? = some (n, ws) → t ∉ S ∧ ∃ l, l ∉ S ∧ l ≠ F ∧ H t = some (.tup [.str n, .ref l]) ∧ H l = some (.lst (nts ws))
theorem GvAt.toS {b F : Addr} {S : List Addr} {H : Hp} {nm : List (Str × List Nat)} (h : GvAt b H F nm) (hS : ∀ y ∈ S, H y = none) : GvS (b :: S) H F nm := by
  obtain ⟨h0, ts, h1, h2, h3⟩ := h
  have no : ∀ {y : Addr} {o : HO}, H y = some o → y ≠ b → y ∉ b :: S := fun {y o} e n z => by
    rcases List.mem_cons.mp z with z | z
    · exact n z
    · rw [hS y z] at e
      cases e
  refine ⟨no h2 h0, ts, h1, h2, fun i t n ws ht hn => ?_⟩
  obtain ⟨q0, l, q1, qF, q2, q3⟩ := h3 i t n ws ht hn
  exact ⟨no q2 q0, l, no q3 q1, qF, q2, q3⟩
theorem GvS.keep {S T : List Addr} {F : Addr} {H H' : Hp} {nm : List (Str × List Nat)} (h : GvS S H F nm) (k : KeepS T H H') (hT : ∀ y ∈ T, y ∈ S) : GvS S H' F nm := by
  obtain ⟨h0, ts, h1, h2, h3⟩ := h
  have f : ∀ {y : Addr} {o : HO}, H y = some o → y ∉ S → H' y = some o := fun {y o} e n => k.1 y o e (fun z => n (hT y z))
  refine ⟨h0, ts, h1, f h2 h0, fun i t n ws ht hn => ?_⟩
  obtain ⟨q0, l, q1, qF, q2, q3⟩ := h3 i t n ws ht hn
  exact ⟨q0, l, q1, qF, f q2 q0, f q3 q1⟩
theorem GvS.at {b : Addr} {S : List Addr} {F : Addr} {H : Hp} {nm : List (Str × List Nat)} (h : GvS S H F nm) (hb : b ∈ S) : GvAt b H F nm := by
  obtain ⟨h0, ts, h1, h2, h3⟩ := h
  refine ⟨fun z => h0 (by rw [z]; exact hb), ts, h1, h2, fun i t n ws ht hn => ?_⟩
  obtain ⟨q0, l, q1, qF, q2, q3⟩ := h3 i t n ws ht hn
  exact ⟨fun z => q0 (by rw [z]; exact hb), l, fun z => q1 (by rw [z]; exact hb), qF, q2, q3⟩
def RwS (S : List Addr) (H : Hp) (R : Addr) (gs : List Gt) : Prop := R ∉ S ∧ ∃ ts : List Addr, ts.length = gs.length ∧ H R = some (.lst (ts.map V.ref)) ∧ ∀ (i : Nat) (t : Addr) (g : Gt), ts[i]? = some t → gs[i]? = some g → t ∉ S ∧ H t = some (.tup g.row)
theorem RwS.keep {S T : List Addr} {R : Addr} {H H' : Hp} {gs : List Gt} (h : RwS S H R gs) (k : KeepS T H H') (hT : ∀ y ∈ T, y ∈ S) : RwS S H' R gs := by
  obtain ⟨h0, ts, h1, h2, h3⟩ := h
  have f : ∀ {y : Addr} {o : HO}, H y = some o → y ∉ S → H' y = some o := fun {y o} e n => k.1 y o e (fun z => n (hT y z))
  refine ⟨h0, ts, h1, f h2 h0, fun i t g ht hg => ?_⟩
  obtain ⟨q0, q1⟩ := h3 i t g ht hg
  exact ⟨q0, f q1 q0⟩
theorem RwS.at {S : List Addr} {R : Addr} {H : Hp} {gs : List Gt} (h : RwS S H R gs) : RowsAt46 H R gs := by
  obtain ⟨_, ts, h1, h2, h3⟩ := h
  exact ⟨ts, h1, h2, fun i t g ht hg => (h3 i t g ht hg).2⟩
theorem RowsAt46.toS {b R : Addr} {c : Int} {S : List Addr} {H : Hp} {gs : List Gt} (h : RowsAt46 H R gs) (nb : R ≠ b) (hB : BoxAt c H b) (hS : ∀ y ∈ S, H y = none) : RwS (b :: S) H R gs := by
  obtain ⟨ts, h1, h2, h3⟩ := h
  have no : ∀ {y : Addr} {o : HO}, H y = some o → y ≠ b → y ∉ b :: S := fun {y o} e n z => by
    rcases List.mem_cons.mp z with z | z
    · exact n z
    · rw [hS y z] at e
      cases e
  refine ⟨no h2 nb, ts, h1, h2, fun i t g ht hg => ?_⟩
  have q := h3 i t g ht hg
  exact ⟨no q (fun z => by
    obtain ⟨_, _, _, eb, _⟩ := hB
    rw [z, eb] at q
    cases q), q⟩
end
section
variable {P : Program} {w : World} {K : PySem.W.Frag} {mg : Str → Option Value} {base : Heap}
variable {C : Addr} {za : Nat → Addr} {zl : Nat → FuncData}
theorem RowsAt46.ne {c : Int} {H : Hp} {R b : Addr} {gs : List Gt} (h : RowsAt46 H R gs) (B : BoxAt c H b) : R ≠ b := fun z => by
  obtain ⟨ts, lt, e, _⟩ := h
  obtain ⟨x0, x1, x2, eb, _⟩ := B
  rw [z, eb] at e
  have := HO.lst.inj (Option.some.inj e)
  cases ts with
  | nil => cases this
  | cons t ts => cases this
theorem RowsAt46.keep {T : List Addr} {H H' : Hp} {R : Addr} {gs : List Gt} (h : RowsAt46 H R gs) (k : KeepS T H H') (n : R ∉ T) (nt : ∀ y ∈ T, ∀ xs, H y ≠ some (.tup xs)) : RowsAt46 H' R gs := by
  obtain ⟨ts, lt, e, f⟩ := h
  exact ⟨ts, lt, k.1 _ _ e n, fun i t g hi hg => k.1 _ _ (f i t g hi hg) (fun z => nt t z _ (f i t g hi hg))⟩
theorem RowsAt46.same {H H' : Hp} {R : Addr} {gs : List Gt} (h : RowsAt46 H R gs) (s : Same H H') : RowsAt46 H' R gs := h.keep (T := []) (.ofSame s) (fun z => nomatch z) (fun _ z => nomatch z)
theorem RowsAt46.keepB {c : Int} {H H' : Hp} {R b : Addr} {gs : List Gt} (h : RowsAt46 H R gs) (k : Keep b H H') (B : BoxAt c H b) : RowsAt46 H' R gs := by
  have n := h.ne B
  obtain ⟨ts, lt, e, f⟩ := h
  exact ⟨ts, lt, k _ _ e n, fun i t g hi hg => k _ _ (f i t g hi hg) (fun z => by
    obtain ⟨_, _, _, eb, _⟩ := B
    have := f i t g hi hg
    rw [z, eb] at this
    cases this)⟩
theorem rise_pw : ∀ (ss : List Str) (p : Str), risingS p ss = true → (p :: ss).Pairwise fun x y => x.cps.toList ≤ y.cps.toList
  | [], p, _ => List.pairwise_singleton _ _
  | s :: ss, p, h => by
    unfold risingS at h
    obtain ⟨h1, h2⟩ := Bool.and_eq_true_iff.mp h
    have ih := rise_pw ss s h2
    have le : p.cps.toList ≤ s.cps.toList := by
      rw [ltCps_eq] at h1
      simpa using h1
    refine List.pairwise_cons.mpr ⟨fun y hy => ?_, ih⟩
    rcases List.mem_cons.mp hy with e | hy
    · rw [e]
      exact le
    · exact List.le_trans le ((List.pairwise_cons.mp ih).1 y hy)
def dInts (ws : List Nat) : List PyData := ws.map fun (a : Nat) => PyData.int (a : Int)
def dGt : Gt → PyData
  | .w k ws => .tuple (.str k :: dInts ws)
  | .fi b => .tuple [.str "fixed", .int (b : Int)]
theorem dpa_nts {H : Hp} : ∀ ws : List Nat, DpAll K H (nts ws) (dInts ws)
  | [] => .nil
  | a :: ws => .cons (.int _) (dpa_nts ws)
theorem dp_row {H : Hp} {t : Addr} {g : Gt} (h : H t = some (.tup g.row)) : Dp K H (.ref t) (dGt g) := by
  cases g with
  | w k ws => exact .tup (.inl (.inl h)) (.cons (.str _) (dpa_nts ws))
  | fi b => exact .tup (.inl (.inl h)) (.cons (.str _) (.cons (.int _) .nil))
theorem dpa_rows {H : Hp} : ∀ (ts : List Addr) (gs : List Gt), ts.length = gs.length → (∀ (i : Nat) (t : Addr) (g : Gt), ts[i]? = some t → gs[i]? = some g → H t = some (.tup g.row)) → DpAll K H (ts.map V.ref) (gs.map dGt)
  | [], [], _, _ => .nil
  | [], _ :: _, h, _ => by cases h
  | _ :: _, [], h, _ => by cases h
  | t :: ts, g :: gs, h, f => .cons (dp_row (f 0 t g rfl rfl)) (dpa_rows ts gs (Nat.succ.inj h) fun i a b h1 h2 => f (i + 1) a b h1 h2)
theorem lv0_ints (ws : List Nat) : ∀ d ∈ dInts ws, Lv 0 d := fun d hd => by
  obtain ⟨a, _, rfl⟩ := List.mem_map.mp hd
  exact True.intro
theorem lv_gt {n : Nat} {g : Gt} (h : g.ok n) : Lv 1 (dGt g) := by
  cases g with
  | w k ws =>
    refine ⟨by rw [List.length_cons]; unfold dInts; rw [List.length_map]; rcases h.1 with ⟨_, e⟩ | ⟨_, e⟩ <;> omega, fun d hd => ?_⟩
    rcases List.mem_cons.mp hd with e | hd
    · rw [e]; exact True.intro
    · exact lv0_ints ws d hd
  | fi b =>
    refine ⟨by show 2 ≤ 1000000; decide, fun d hd => ?_⟩
    simp only [List.mem_cons, List.not_mem_nil, or_false] at hd
    rcases hd with e | e <;> rw [e] <;> exact True.intro
/-! ### a gate and a name more -/
theorem rows_snoc60 {H : Hp} {P T : Addr} {gs : List Gt} {g : Gt} {ts : List Addr} (lt : ts.length = gs.length) (h : ∀ (i : Nat) (t : Addr) (g : Gt), ts[i]? = some t → gs[i]? = some g → H t = some (.tup g.row)) (eT : H T = some (.tup g.row)) (eP : H P = some (.lst (ts.map V.ref ++ [.ref T]))) : RowsAt46 H P (gs ++ [g]) := by
  refine ⟨ts ++ [T], by rw [List.length_append, List.length_append, lt]; rfl, by rw [eP, List.map_append]; rfl, fun i t g' ht hg => ?_⟩
  by_cases l : i < ts.length
  · rw [List.getElem?_append_left l] at ht
    rw [List.getElem?_append_left (by omega)] at hg
    exact h i t g' ht hg
  · have i0 : i = ts.length := by
      have := (List.getElem?_eq_some_iff.mp ht).1
      rw [List.length_append, List.length_cons, List.length_nil] at this
      omega
    rw [List.getElem?_append_right (by omega), i0, Nat.sub_self] at ht
    rw [List.getElem?_append_right (by omega), i0, lt, Nat.sub_self] at hg
    cases ht
    cases hg
    exact eT
theorem gv_snoc60 {b : Addr} {H : Hp} {P T L : Addr} {nm : List (Str × List Nat)} {n : Str} {ws : List Nat} {ts : List Addr} (lt : ts.length = nm.length) (h : ∀ (i : Nat) (t : Addr) (n : Str) (ws : List Nat), ts[i]? = some t → nm[i]? = some (n, ws) → t ≠ b ∧ ∃ l, l ≠ b ∧ l ≠ P ∧ H t = some (.tup [.str n, .ref l]) ∧ H l = some (.lst (nts ws)))
    (nP : P ≠ b) (nT : T ≠ b) (nL : L ≠ b) (nLP : L ≠ P) (eT : H T = some (.tup [.str n, .ref L])) (eL : H L = some (.lst (nts ws))) (eP : H P = some (.lst (ts.map V.ref ++ [.ref T]))) : GvAt b H P (nm ++ [(n, ws)]) := by
  refine ⟨nP, ts ++ [T], by rw [List.length_append, List.length_append, lt]; rfl, by rw [eP, List.map_append]; rfl, fun i t n' ws' ht hn => ?_⟩
  by_cases l : i < ts.length
  · rw [List.getElem?_append_left l] at ht
    rw [List.getElem?_append_left (by omega)] at hn
    exact h i t n' ws' ht hn
  · have i0 : i = ts.length := by
      have := (List.getElem?_eq_some_iff.mp ht).1
      rw [List.length_append, List.length_cons, List.length_nil] at this
      omega
    rw [List.getElem?_append_right (by omega), i0, Nat.sub_self] at ht
    rw [List.getElem?_append_right (by omega), i0, lt, Nat.sub_self] at hn
    cases ht
    cases hn
    exact ⟨nT, L, nL, nLP, eT, eL⟩
/-- told rows as data -/
def rwD (rs : List (Str × List Nat)) : PyData := .list (rs.map fun r => .tuple [.str r.1, .str (SX.S r.2)])
theorem RwAt.dp {H : Hp} {t : Addr} {rs : List (Str × List Nat)} (h : RwAt H t rs) : Dp K H (.ref t) (rwD rs) := by
  obtain ⟨ts, lt, et, hts⟩ := h
  refine .lst (SqL.of et) ?_
  clear et
  induction ts generalizing rs with
  | nil =>
    cases rs with
    | nil => exact .nil
    | cons r rs => cases lt
  | cons u ts ih =>
    cases rs with
    | nil => cases lt
    | cons r rs => exact .cons (.tup (.inl (.inl (hts 0 u r.1 r.2 rfl rfl))) (.cons (.str _) (.cons (.str _) .nil))) (ih (Nat.succ.inj lt) fun i u n tx a c => hts (i + 1) u n tx a c)
theorem lv_rw {rs : List (Str × List Nat)} (h : rs.length ≤ 100) : Lv 3 (rwD rs) := by
  refine ⟨by rw [List.length_map]; omega, fun d hd => ?_⟩
  obtain ⟨r, _, rfl⟩ := List.mem_map.mp hd
  refine ⟨by show 2 ≤ 1000000; decide, fun x hx => ?_⟩
  simp only [List.mem_cons, List.not_mem_nil, or_false] at hx
  rcases hx with e | e <;> rw [e] <;> exact True.intro
theorem sort_pw {l : List Str} (h : sortedS l = true) : l.Pairwise fun x y => x.cps.toList ≤ y.cps.toList := by
  cases l with
  | nil => exact .nil
  | cons x r => exact rise_pw r x h
def spGrown60 (C : Addr) : Sp := fun vs H Q _ => ∃ (Z : List Addr) (b R F D : Addr) (p : NetP) (c : Int) (m : Nat) (gs : List Gt) (nm : List (Str × List Nat)) (cs : List (List Nat)), vs = [.ref b, .ref p.x, .int (m : Int), .ref R, .ref F, .ref D] ∧ BoxAt c H b ∧ c ≤ 850000000 ∧ NetAt C Z H p m gs nm ∧ b ∈ Z ∧
  RwS [b, p.lm, p.ld, p.dn] H R gs ∧ GsOk m gs ∧ GvS [b, p.lm, p.ld, p.dn] H F nm ∧ GvOk (m + gs.length) nm ∧ 1 ≤ m ∧ m ≤ 20 ∧ gs.length ≤ 40 ∧ nm.length ≤ 3 ∧ H D = some (.lst (cs.map fun x => V.str (SX.S x))) ∧ D ∉ [b, p.lm, p.ld, p.dn] ∧ (∀ x ∈ cs, x.length = m ∧ SgL x) ∧ cs.length ≤ 10 ∧ ∀ H', KeepS [b, p.lm, p.ld, p.dn] H H' → Q (.bl true) H'
theorem ok__law_grown_right (B : Bl mg) (L : LL K mg C za zl) : FnOk P w K mg base CX0 8 (za 18) (zl 18) ["_law_box_here", "_law_net_here", "_law_first", "_law_rows", "_law_given_here", "_law_cubes"] (spGrown60 C) := by
  have G__law_take : FnOk P w K mg base CX0 7 (za 6) (zl 6) ["_law_box_here", "_law_size"] (spTake 1) := (ok_take L.F__law_take L.b__law_take L.m__law_take B 1).mono (by decide)
  have G_Net_unlike : FnOk P w K mg base CX0 7 (za 23) (zl 23) ["self", "a", "b"] (spG2 C "unlike") := (ok_Net_unlike B L).mono (by decide)
  have G_Net_give : FnOk P w K mg base CX0 7 (za 29) (zl 29) ["self", "name", "wires"] (spGive K C) := (ok_Net_give B L).mono (by decide)
  have G_settled : FnOk P w K mg base CX0 7 (za 1) (zl 1) ["net", "cube"] (spSettled C) := (ok_settled B L).mono (by decide)
  have G__law_settled : FnOk P w K mg base CX0 7 (za 11) (zl 11) ["_law_rows", "_law_given_here", "_law_cube_here"] spSett60 := (ok__law_settled B L).mono (by decide)
  have G__law_same : FnOk P w K mg base CX0 7 (za 8) (zl 8) ["_law_found", "_law_due"] (spSame K 4) := (ok_same L.F__law_same L.b__law_same L.m__law_same B 4).mono (by decide)
  refine L.F__law_grown_right.ok sc__law_grown_right (fun vs H Q E h => ?_) (fun cdv A outer s H vs Q E hr h => ?_)
  · obtain ⟨Z, b, R, F, D, p, c, m, gs, nm, cs, rfl, _⟩ := h
    rfl
  obtain ⟨Z, b, R, F, D, p, c, m, gs, nm, cs, rfl, hB, hc, hN, bZ, hR, ok, hF, gok, m1, m20, g40, n3, eD, nD, hcs, c10, q⟩ := h
  refine ⟨_, (pss_cons (ps_set (i := 6) sc__law_grown_right.nd rfl (.inl rfl) (pe_op op_add (pv 2) (pe_callB call_len_seq (by rfl) B.len PySem.boot_len (pa_cons (pv 3) pa_nil))))
    (pss_cons (ps_par (by rfl) sc__law_grown_right.nd (i := 7) (j := 8) rfl rfl (by decide) rfl rfl (pa_cons (pe_call G__law_take hr (by rfl) L.m__law_take L.F__law_take.kp L.b__law_take .nil pass0 (pa_cons (pv 0) (pa_cons (pv 6) pa_nil))) (pa_cons (pe_call G__law_take hr (by rfl) L.m__law_take L.F__law_take.kp L.b__law_take .nil pass0 (pa_cons (pv 0) (pa_cons (pv 6) pa_nil))) pa_nil)) (by rfl))
    (pss_cons (ps_expr (pe_meth (pv 1) L.T.cl L.M_Net_unlike G_Net_unlike hr L.b_Net_unlike .nil pass0 (pa_cons (pv 7) (pa_cons (pv 8) pa_nil))))
    (pss_cons (ps_expr (pe_meth (pv 1) L.T.cl L.M_Net_give G_Net_give hr L.b_Net_give .nil pass0 (pa_cons pe_str (pa_cons (pe_lst (pa_cons (pv 6) (pa_cons (pv 7) pa_nil))) pa_nil))))
    (pss_cons (ps_asg (pe_tup (pa_cons (pe_op op_cat (pv 3) (pe_lst (pa_cons (pe_tup (pa_cons pe_str (pa_cons (pv 7) (pa_cons (pv 8) pa_nil)))) pa_nil))) (pa_cons (pe_op op_cat (pv 4) (pe_lst (pa_cons (pe_tup (pa_cons pe_str (pa_cons (pe_lst (pa_cons (pv 6) (pa_cons (pv 7) pa_nil))) pa_nil))) pa_nil))) pa_nil))) (pg_tup (by rfl) (pgs_cons (pg_name (i := 9) sc__law_grown_right.nd rfl (.inr rfl)) (pgs_cons (pg_name (i := 10) sc__law_grown_right.nd rfl (.inr rfl)) pgs_nil))))
    (pss_one (ps_ret (pe_callB (cr_all rfl) (by rfl) B.all boot_all (pa_cons (pe_lc (own := [("_law_cube_here", 11)]) (by rfl) sc__law_grown_right.nd (pi_list (pv 5)) (blkOk_by (own := [("_law_cube_here", 11)]) (N := ["_law_box_here", "_law_net_here", "_law_first", "_law_rows", "_law_given_here", "_law_cubes", "_law_far", "_law_one", "_law_other", "_law_wider", "_law_names", "_law_cube_here"]) (sc := defScope s__law_grown_right) (by decide +kernel)) (fun _ _ _ _ _ => pg_name (i := 11) sc__law_grown_right.nd rfl (Or.inl rfl)) (fun _ _ _ _ _ => pts_nil) (fun _ _ _ _ _ => (pe_call G__law_same hr (by rfl) L.m__law_same L.F__law_same.kp L.b__law_same .nil pass0 (pa_cons (pe_call G_settled hr (by rfl) L.m_settled L.F_settled.kp L.b_settled .nil pass0 (pa_cons (pv 1) (pa_cons (pv 11) pa_nil))) (pa_cons (pe_call G__law_settled hr (by rfl) L.m__law_settled L.F__law_settled.kp L.b__law_settled .nil pass0 (pa_cons (pv 9) (pa_cons (pv 10) (pa_cons (pv 11) pa_nil)))) pa_nil))))) pa_nil))))))))), ?_⟩
  obtain ⟨nRS, ts, lt, eR, hts⟩ := id hR
  refine ⟨_, rfl, _, rfl, R, _, rfl, .inl (SqL.of eR), _, _, rfl, rfl, ?_⟩
  have hM : (m : Int) + ((ts.map V.ref).length : Nat) = ((m + gs.length : Nat) : Int) := by
    rw [List.length_map, lt]
    omega
  dsimp only [gName]
  rw [hM]
  try simp only [L2.start, List.map_cons, List.map_nil, List.length_cons, List.length_nil, List.replicate_succ, List.replicate_zero, List.cons_append, List.nil_append, List.set_cons_succ, List.set_cons_zero, Nat.reduceAdd, Nat.reduceSub, Nat.zero_add]
  refine ⟨_, rfl, _, rfl, b, _, _, rfl, hB, by omega, by omega, by omega, by omega, by decide, fun r1 H1 u1 v1 B1 k1 => ?_⟩
  replace B1 := bx1 B1
  refine ⟨_, rfl, _, rfl, b, _, _, rfl, B1, by omega, by omega, by omega, by omega, by decide, fun r2 H2 u2 v2 B2 k2 => ?_⟩
  replace B2 := bx1 B2
  refine ⟨_, _, rfl, ?_⟩
  try simp only [L2.start, List.map_cons, List.map_nil, List.length_cons, List.length_nil, List.replicate_succ, List.replicate_zero, List.cons_append, List.nil_append, List.set_cons_succ, List.set_cons_zero, Nat.reduceAdd, Nat.reduceSub, Nat.zero_add]
  obtain ⟨a1, rfl⟩ : ∃ a : Nat, r1 = (a : Int) := ⟨r1.toNat, by omega⟩
  obtain ⟨a2, rfl⟩ : ∃ a : Nat, r2 = (a : Int) := ⟨r2.toNat, by omega⟩
  have k12 : KeepS [b] H H2 := .ofKeep (k1.trans k2) (List.mem_singleton.mpr rfl) B2.some
  have N2 := hN.keep k12 (fun y hy => by rw [List.mem_singleton.mp hy]; exact bZ)
  have sub1 : ∀ y ∈ [b], y ∈ [b, p.lm, p.ld, p.dn] := fun y hy => by rw [List.mem_singleton.mp hy]; exact List.mem_cons_self
  have R2 := hR.keep k12 sub1
  have F2 := hF.keep k12 sub1
  have D2 := k12.1 _ _ eD (fun z => nD (sub1 _ z))
  obtain ⟨_, _, _, dx, _, _, e1, _⟩ := id N2
  refine ⟨_, rfl, p.x, dx, _, rfl, e1, rfl, _, rfl, _, rfl, Z, p, m, gs, nm, a1, a2, rfl, N2, by omega, by omega, by omega, fun H3 k3 N3 => ?_⟩
  have sub2 : ∀ y ∈ [p.lm, p.ld], y ∈ [b, p.lm, p.ld, p.dn] := fun y hy => by
    simp only [List.mem_cons, List.not_mem_nil, or_false] at hy ⊢
    rcases hy with z | z
    · exact .inr (.inl z)
    · exact .inr (.inr (.inl z))
  have R3 := R2.keep k3 sub2
  have F3 := F2.keep k3 sub2
  have D3 := k3.1 _ _ D2 (fun z => nD (sub2 _ z))
  try simp only [L2.start, List.map_cons, List.map_nil, List.length_cons, List.length_nil, List.replicate_succ, List.replicate_zero, List.cons_append, List.nil_append, List.set_cons_succ, List.set_cons_zero, Nat.reduceAdd, Nat.reduceSub, Nat.zero_add]
  obtain ⟨_, _, _, dx3, _, _, e3, _⟩ := id N3
  refine ⟨_, rfl, p.x, dx3, _, rfl, e3, rfl, _, rfl, _, rfl, (by show 2 ≤ sizeLine; decide), fun L nL => ?_⟩
  have sL := same_upd (o := .lst (nts [m + gs.length, a1])) nL
  have eL : (upd H3 L (.lst (nts [m + gs.length, a1]))) L = some (.lst (nts [m + gs.length, a1])) := upd_same
  have N3' := N3.same sL
  refine ⟨Z, p, m, _, nm, _, L, [m + gs.length, a1], rfl, N3', fun hx => ?_, .inl (SqL.of eL), fun a ha => ?_, by omega, fun H4 k4 N4 => ?_⟩
  · obtain ⟨⟨n', ws'⟩, hx1, hx2⟩ := List.mem_map.mp hx
    obtain ⟨i, hi, ei⟩ := List.getElem_of_mem hx1
    obtain ⟨⟨w, hw, ew⟩, _⟩ := gok i n' ws' (by rw [List.getElem?_eq_getElem hi, ei])
    exact wd_new hw (show i < 4 by omega) (ew.symm.trans hx2)
  · rw [List.length_append, List.length_cons, List.length_nil]
    simp only [List.mem_cons, List.not_mem_nil, or_false] at ha
    rcases ha with z | z <;> rw [z] <;> omega
  have sub4 : ∀ y ∈ [p.dn], y ∈ [b, p.lm, p.ld, p.dn] := fun y hy => by
    rw [List.mem_singleton.mp hy]
    simp
  have R4 := (R3.keep (.ofSame sL) (T := []) (fun _ z => nomatch z)).keep k4 sub4
  have F4 := (F3.keep (.ofSame sL) (T := []) (fun _ z => nomatch z)).keep k4 sub4
  have D4 := k4.1 _ _ (sL _ _ D3) (fun z => nD (sub4 _ z))
  try simp only [L2.start, List.map_cons, List.map_nil, List.length_cons, List.length_nil, List.replicate_succ, List.replicate_zero, List.cons_append, List.nil_append, List.set_cons_succ, List.set_cons_zero, Nat.reduceAdd, Nat.reduceSub, Nat.zero_add]
  obtain ⟨nR4, ts4, lt4, eR4, hts4⟩ := id R4
  obtain ⟨nF4, us4, lu4, eF4, hus4⟩ := id F4
  refine ⟨_, rfl, _, rfl, _, rfl, (by show 3 ≤ sizeLine; decide), fun T nT => ?_⟩
  have sT := same_upd (o := .tup [.str "unlike", .int (a1 : Int), .int (a2 : Int)]) nT
  refine ⟨(by show 1 ≤ sizeLine; decide), fun L1 nL1 => ?_⟩
  have sL1 := same_upd (o := .lst [.ref T]) nL1
  refine ⟨R, L1, _, _, rfl, rfl, sL1 _ _ (sT _ _ eR4), upd_same, ?_, fun P1 nP1 => ?_⟩
  · rw [List.length_map, lt4]
    exact Nat.le_of_lt (small1000 (show gs.length + 1 ≤ _ by omega))
  have eT1 := sL1 _ _ (upd_same (H := H4) (a := T) (o := .tup [.str "unlike", .int (a1 : Int), .int (a2 : Int)]))
  have sH1 : Same H4 (upd (upd H4 T (.tup [.str "unlike", .int (a1 : Int), .int (a2 : Int)])) L1 (.lst [.ref T])) := sT.trans sL1
  generalize upd (upd H4 T (.tup [.str "unlike", .int (a1 : Int), .int (a2 : Int)])) L1 (.lst [.ref T]) = H5 at *
  have sP1 := same_upd (o := .lst (ts4.map V.ref ++ [.ref T])) nP1
  have eP1 : (upd H5 P1 (.lst (ts4.map V.ref ++ [.ref T]))) P1 = some (.lst (ts4.map V.ref ++ [.ref T])) := upd_same
  have rows5 : RowsAt46 (upd H5 P1 (.lst (ts4.map V.ref ++ [.ref T]))) P1 (gs ++ [.w "unlike" [a1, a2]]) := rows_snoc60 lt4 (fun i t g ht hg => sP1 _ _ (sH1 _ _ (hts4 i t g ht hg).2)) (sP1 _ _ eT1) eP1
  have s46 := sH1.trans sP1
  generalize upd H5 P1 (.lst (ts4.map V.ref ++ [.ref T])) = H6 at *
  refine ⟨_, rfl, _, rfl, _, rfl, (by show 2 ≤ sizeLine; decide), fun La nLa => ?_⟩
  have sLa := same_upd (o := .lst [.int ((m + gs.length : Nat) : Int), .int (a1 : Int)]) nLa
  have eLa : (upd H6 La (.lst [.int ((m + gs.length : Nat) : Int), .int (a1 : Int)])) La = some (.lst (nts [m + gs.length, a1])) := upd_same
  have s47 := s46.trans sLa
  have rows7 := rows5.same sLa
  generalize upd H6 La (.lst [.int ((m + gs.length : Nat) : Int), .int (a1 : Int)]) = H7 at *
  refine ⟨(by show 2 ≤ sizeLine; decide), fun T2 nT2 => ?_⟩
  have sT2 := same_upd (o := .tup [.str "new", .ref La]) nT2
  have eT2 : (upd H7 T2 (.tup [.str "new", .ref La])) T2 = some (.tup [.str "new", .ref La]) := upd_same
  have s48 := s47.trans sT2
  have eLa8 := sT2 _ _ eLa
  have rows8 := rows7.same sT2
  generalize upd H7 T2 (.tup [.str "new", .ref La]) = H8 at *
  refine ⟨(by show 1 ≤ sizeLine; decide), fun L3 nL3 => ?_⟩
  have sL3 := same_upd (o := .lst [.ref T2]) nL3
  have eL3 : (upd H8 L3 (.lst [.ref T2])) L3 = some (.lst [.ref T2]) := upd_same
  have s49 := s48.trans sL3
  have eLa9 := sL3 _ _ eLa8
  have eT29 := sL3 _ _ eT2
  have rows9 := rows8.same sL3
  generalize upd H8 L3 (.lst [.ref T2]) = H9 at *
  refine ⟨F, L3, _, _, rfl, rfl, s49 _ _ eF4, eL3, ?_, fun P2 nP2 => ?_⟩
  · rw [List.length_map, lu4]
    exact Nat.le_of_lt (small1000 (show nm.length + 1 ≤ _ by omega))
  have sP2 := same_upd (o := .lst (us4.map V.ref ++ [.ref T2])) nP2
  have eP2 : (upd H9 P2 (.lst (us4.map V.ref ++ [.ref T2]))) P2 = some (.lst (us4.map V.ref ++ [.ref T2])) := upd_same
  have bH4 : H4 b ≠ none := N4.1 b bZ
  have nb : ∀ {y : Addr} {G : Hp}, Same H4 G → G y = none → y ≠ b := fun {y G} s n z => by
    cases e : H4 b with
    | none => exact bH4 e
    | some o =>
      rw [z, s _ _ e] at n
      cases n
  have gv10 : GvAt b (upd H9 P2 (.lst (us4.map V.ref ++ [.ref T2]))) P2 (nm ++ [((Str.ofString "new"), [m + gs.length, a1])]) := by
    refine gv_snoc60 lu4 (fun i t n ws ht hn => ?_) (nb s49 nP2) (nb s47 nT2) (nb s46 nLa) (ne_of_none eLa9 nP2) (sP2 _ _ eT29) (sP2 _ _ eLa9) eP2
    obtain ⟨q0, l, q1, qF, q2, q3⟩ := hus4 i t n ws ht hn
    exact ⟨fun z => q0 (by rw [z]; simp), l, fun z => q1 (by rw [z]; simp), ne_of_none (s49 _ _ q3) nP2, sP2 _ _ (s49 _ _ q2), sP2 _ _ (s49 _ _ q3)⟩
  have s410 := s49.trans sP2
  have rows10 := rows9.same sP2
  generalize upd H9 P2 (.lst (us4.map V.ref ++ [.ref T2])) = H10 at *
  refine ⟨(by show 2 ≤ sizeLine; decide), fun TT nTT => ?_⟩
  have sTT := same_upd (o := .tup [.ref P1, .ref P2]) nTT
  refine ⟨TT, _, rfl, .inl (.inl upd_same), rfl, ?_⟩
  refine ⟨_, _, rfl, ?_⟩
  dsimp only [gName]
  try simp only [L2.start, List.map_cons, List.map_nil, List.length_cons, List.length_nil, List.replicate_succ, List.replicate_zero, List.cons_append, List.nil_append, List.set_cons_succ, List.set_cons_zero, Nat.reduceAdd, Nat.reduceSub, Nat.zero_add]
  refine ⟨_, _, rfl, ?_⟩
  dsimp only [gName, gNil]
  try simp only [L2.start, List.map_cons, List.map_nil, List.length_cons, List.length_nil, List.replicate_succ, List.replicate_zero, List.cons_append, List.nil_append, List.set_cons_succ, List.set_cons_zero, Nat.reduceAdd, Nat.reduceSub, Nat.zero_add]
  have s411 := s410.trans sTT
  have eDT := s411 _ _ D4
  have NT := N4.same s411
  have rT := rows10.same sTT
  have gT := gv10.keep (.ofSame sTT)
  have k0T : KeepS [b, p.lm, p.ld, p.dn] H (upd H10 TT (.tup [.ref P1, .ref P2])) := ((((k12.mono sub1).trans (k3.mono sub2)).trans (.ofSame sL)).trans (k4.mono sub4)).trans (.ofSame s411)
  generalize upd H10 TT (.tup [.ref P1, .ref P2]) = H11 at *
  have ok2 : GsOk m (gs ++ [.w "unlike" [a1, a2]]) := fun i g hi => by
    by_cases d : i < gs.length
    · rw [List.getElem?_append_left d] at hi
      exact ok i g hi
    · have i0 : i = gs.length := by
        have := (List.getElem?_eq_some_iff.mp hi).1
        rw [List.length_append, List.length_cons, List.length_nil] at this
        omega
      rw [List.getElem?_append_right (by omega), i0, Nat.sub_self] at hi
      cases hi
      refine ⟨.inl ⟨.inr (.inr rfl), rfl⟩, fun a ha => ?_⟩
      simp only [List.mem_cons, List.not_mem_nil, or_false] at ha
      rcases ha with z | z <;> rw [z] <;> omega
  have l2 : (gs ++ [Gt.w "unlike" [a1, a2]]).length = gs.length + 1 := by
    rw [List.length_append]
    rfl
  have gin : GvIn (m + (gs ++ [Gt.w "unlike" [a1, a2]]).length) (nm ++ [((Str.ofString "new"), [m + gs.length, a1])]) := by
    rw [l2, ← Nat.add_assoc]
    refine gok.gnew n3 (by show 2 ≤ 4; decide) fun a ha => ?_
    simp only [List.mem_cons, List.not_mem_nil, or_false] at ha
    rcases ha with z | z <;> rw [z] <;> omega
  have ln : (nm ++ [((Str.ofString "new"), [m + gs.length, a1])]).length = nm.length + 1 := by
    rw [List.length_append]
    rfl
  have NT' : NetAt C Z H11 p m (gs ++ [.w "unlike" [a1, a2]]) (nm ++ [((Str.ofString "new"), [m + gs.length, a1])]) := NT
  clear NT N4 N3' N3
  generalize gs ++ [Gt.w "unlike" [a1, a2]] = gs2 at *
  generalize nm ++ [((Str.ofString "new"), [m + gs.length, a1])] = nm2 at *
  refine ⟨trivial, _, rfl, D, rfl, ⟨_, SqL.of eDT⟩, fun A1 nA1 => ?_⟩
  refine lc_it (walk_list (K := K) (a := D) (xs := cs.map fun x => V.str (SX.S x))) (fun i H9 => Same H11 H9 ∧ H9 A1 = some (.lst ((List.replicate i true).map V.bl))) ⟨same_upd nA1, upd_same⟩ (fun i H9 _ ⟨s9, _⟩ => SqL.of (s9 _ _ eDT)) ?_ ?_
  · rintro j z H12 H13 hj ⟨s12, eA⟩ ⟨rfl, hz⟩
    rw [List.getElem?_map] at hz
    obtain ⟨x, hx, rfl⟩ := Option.map_eq_some_iff.mp hz
    obtain ⟨lx, sx⟩ := hcs x (List.mem_of_getElem? hx)
    refine ⟨rfl, yesT ?_⟩
    refine ⟨_, rfl, _, rfl, Z, p, m, gs2, nm2, x, rfl, NT'.same s12, lx, by omega, by omega, ok2, fun y hy => ?_, fun nm' t1 HA pn1 ss1 sA S1 => ?_⟩
    · obtain ⟨i, hi, ei⟩ := List.getElem_of_mem hy
      obtain ⟨w1, w2⟩ := gin.2 i y.1 y.2 (by rw [List.getElem?_eq_getElem hi, ei])
      exact ⟨by omega, w2⟩
    refine ⟨_, rfl, _, rfl, _, rfl, P1, P2, b, m, gs2, nm2, x, rfl, rT.same (s12.trans sA), ok2, gT.keep (.ofSame (s12.trans sA)), gin, by omega, lx, sx, by omega, by omega, fun nm'' t2 HB pn2 pw2 sB S2 => ?_⟩
    obtain rfl : nm' = nm'' := rows_one gin.1 pn1 (sort_pw ss1) pn2 pw2
    refine ⟨_, _, rwD (setR (sgs x gs2) nm'), 3, rfl, rfl, lv_rw ?_, (S1.rw.same sB).dp, S2.rw.dp, fun HC sC => ?_⟩
    · unfold setR
      rw [List.length_map, pn1.length_eq]
      omega
    have sAC := (sA.trans sB).trans sC
    refine ⟨_, sAC _ _ eA, ?_, fun y o e => ?_, ?_⟩
    · rw [List.length_map, List.length_replicate]
      rw [List.length_map] at hj
      exact small1000 (by omega)
    · rw [upd_ne (ne_of_none e nA1)]
      exact sAC _ _ (s12 _ _ e)
    · rw [upd_same, List.replicate_succ', List.map_append]
      rfl
  · rintro H12 ⟨s12, eA⟩
    rw [List.length_map] at eA
    refine ⟨A1, List.replicate cs.length true, rfl, SqL.of eA, ?_⟩
    rw [all_repl]
    exact q _ (k0T.trans (.ofSame s12))
end
section
variable {P : Program} {w : World} {K : PySem.W.Frag} {mg : Str → Option Value} {base : Heap}
variable {C : Addr} {za : Nat → Addr} {zl : Nat → FuncData}
theorem NetAt.add {C : Addr} {Z : List Addr} {H : Hp} {p : NetP} {m : Nat} {gs : List Gt} {nm : List (Str × List Nat)} {D : Addr} {o : HO} (h : NetAt C Z H p m gs nm) (n : H D = none) : NetAt C (D :: Z) (upd H D o) p m gs nm := by
  have k := same_upd (o := o) n
  obtain ⟨a, b, ⟨c1, c2, c3, c4⟩, dx, ps, kvs, e1, e2, e3, e4, ⟨g1, g2⟩, n1, n2, n3⟩ := h
  have ne : ∀ {y : Addr} {u : HO}, H y = some u → y ≠ D := fun e z => by rw [z, n] at e; cases e
  have ni : ∀ {y : Addr} {u : HO}, H y = some u → y ∉ Z → y ∉ D :: Z := fun e z y => by
    rcases List.mem_cons.mp y with w | w
    · exact ne e w
    · exact z w
  refine ⟨fun z hz => ?_, b, ⟨ni e1 c1, ni e2 c2, ni e3 c3, ni e4 c4⟩, dx, ps, kvs, k _ _ e1, k _ _ e2, k _ _ e3, k _ _ e4, ⟨g1, fun i q g hi hg => ?_⟩, n1, n2, fun i k' v n' ws hi hn => ?_⟩
  · rcases List.mem_cons.mp hz with w | w
    · rw [w, upd_same]
      exact fun z => nomatch z
    · exact (KeepS.ofSame (S := []) k).2 z (a z w)
  · have := g2 i q g hi hg
    exact ⟨ni this.2 this.1, k _ _ this.2⟩
  · obtain ⟨ek, l, ev, l1, l2, l3, l4⟩ := n3 i k' v n' ws hi hn
    exact ⟨ek, l, ev, ni l4 l1, l2, l3, k _ _ l4⟩
theorem NetAt.put {C : Addr} {Z : List Addr} {H : Hp} {p : NetP} {m : Nat} {gs : List Gt} {nm : List (Str × List Nat)} {D : Addr} {o : HO} (h : NetAt C Z H p m gs nm) (hD : D ∈ Z) : NetAt C Z (upd H D o) p m gs nm := h.keep (S := [D]) (.upd (List.mem_singleton.mpr rfl)) (fun y hy => by rw [List.mem_singleton.mp hy]; exact hD)
/-! ### one box -/
def spLenN (C : Addr) : Sp := fun vs H Q _ => ∃ (Z : List Addr) (p : NetP) (m : Nat) (gs : List Gt) (nm : List (Str × List Nat)), vs = [.ref p.x] ∧ NetAt C Z H p m gs nm ∧ Q (.int (gs.length : Nat)) H
theorem ok_Net___len__ (B : Bl mg) (L : LL K mg C za zl) : FnOk P w K mg base CX0 1 (za 33) (zl 33) ["self"] (spLenN C) := by
  refine L.F_Net___len__.ok sc_Net___len__ (fun vs H Q E h => ?_) (fun cdv A outer s H vs Q E hr h => ?_)
  · obtain ⟨Z, p, m, gs, nm, rfl, _⟩ := h
    rfl
  obtain ⟨Z, p, m, gs, nm, rfl, hN, q⟩ := h
  refine ⟨_, (pss_one (ps_ret (pe_callB call_len_seq (by rfl) B.len PySem.boot_len (pa_cons (pe_fld (pv 0) rfl) pa_nil)))), ?_⟩
  obtain ⟨_, _, _, dx, ps, kvs, e1, e2, e3, _, ⟨g1, _⟩, _⟩ := id hN
  refine ⟨_, rfl, p.x, C, dx, _, _, rfl, e1, L.T.cl, L.T.n_made, rfl, p.lm, _, rfl, .inl (SqL.of e2), ?_⟩
  rw [List.length_map, g1]
  exact q
theorem RwS.mono {S T : List Addr} {H : Hp} {R : Addr} {gs : List Gt} (h : RwS S H R gs) (hT : ∀ y ∈ T, y ∈ S) : RwS T H R gs := by
  obtain ⟨h0, ts, h1, h2, h3⟩ := h
  refine ⟨fun z => h0 (hT _ z), ts, h1, h2, fun i t g ht hg => ?_⟩
  obtain ⟨q0, q1⟩ := h3 i t g ht hg
  exact ⟨fun z => q0 (hT _ z), q1⟩
theorem GvS.mono {S T : List Addr} {F : Addr} {H : Hp} {nm : List (Str × List Nat)} (h : GvS S H F nm) (hT : ∀ y ∈ T, y ∈ S) : GvS T H F nm := by
  obtain ⟨h0, ts, h1, h2, h3⟩ := h
  refine ⟨fun z => h0 (hT _ z), ts, h1, h2, fun i t n ws ht hn => ?_⟩
  obtain ⟨q0, l, q1, qF, q2, q3⟩ := h3 i t n ws ht hn
  exact ⟨fun z => q0 (hT _ z), l, fun z => q1 (hT _ z), qF, q2, q3⟩
theorem GvIn.all {M : Nat} {nm : List (Str × List Nat)} (h : GvIn M nm) : ∀ x ∈ nm, x.2.length ≤ 4 ∧ ∀ a ∈ x.2, a < M := fun x hx => by
  obtain ⟨i, hi, ei⟩ := List.getElem_of_mem hx
  exact h.2 i x.1 x.2 (by rw [List.getElem?_eq_getElem hi, ei])
theorem setR_names (f : List Nat) (nm : List (Str × List Nat)) : (setR f nm).map (·.1) = nm.map (·.1) := by
  unfold setR
  rw [List.map_map]
  rfl
theorem setR_four {f : List Nat} {nm : List (Str × List Nat)} (h : ∀ x ∈ nm, x.2.length ≤ 4) : ∀ r ∈ setR f nm, r.2.length ≤ 4 := fun r hr => by
  obtain ⟨x, hx, rfl⟩ := List.mem_map.mp hr
  show (x.2.map _).length ≤ 4
  rw [List.length_map]
  exact h x hx
theorem setR_len (f : List Nat) (nm : List (Str × List Nat)) : (setR f nm).length = nm.length := List.length_map ..
theorem BtL.sg {l : List Nat} (h : BtL l) : SgL l ∧ 45 ∉ l := ⟨fun c hc => .inr (h c hc), fun z => by
  rcases h 45 z with e | e <;> cases e⟩
theorem ShutOf.sg {x y : List Nat} (h : ShutOf x y) (sx : SgL x) : SgL y ∧ y.length = x.length := by
  rcases h with ⟨rfl, _⟩ | ⟨p, c, hp, hc, rfl⟩
  · exact ⟨sx, rfl⟩
  · refine ⟨fun a ha => ?_, List.length_set⟩
    rcases List.mem_or_eq_of_mem_set ha with z | z
    · exact sx a z
    · rw [z]
      exact .inr hc
theorem kept60 {m : Nat} {gs : List Gt} {nm0 nm : List (Str × List Nat)} {f g : List Nat} (ok : GsOk m gs) (gin : GvIn (m + gs.length) nm0) (pn : nm.Perm nm0) (sf : SgL f) (sg : SgL g) (lf : f.length = m) (lg : g.length = m) (h : KeptL f g) : (setR (sgs f gs) nm).map (·.1) = (setR (sgs g gs) nm).map (·.1) ∧ KeptL (txs (setR (sgs f gs) nm)) (txs (setR (sgs g gs) nm)) := by
  refine ⟨by rw [setR_names, setR_names], kept_rows (kept_sgs sf sg lf lg h ok) nm fun x hx a ha => ?_⟩
  rw [sgs_len, lf]
  exact (gin.all x (pn.mem_iff.mp hx)).2 a ha
theorem lv_rows60 {m : Nat} {gs : List Gt} (ok : GsOk m gs) (h : gs.length ≤ 200) : Lv 3 (.list (gs.map dGt)) := by
  refine ⟨by rw [List.length_map]; omega, fun d hd => ?_⟩
  obtain ⟨g, hg, rfl⟩ := List.mem_map.mp hd
  obtain ⟨i, hi⟩ := List.mem_iff_getElem?.mp hg
  have k := ok i g hi
  cases g with
  | w k' ws =>
    refine ⟨by rw [List.length_cons]; unfold dInts; rw [List.length_map]; rcases k.1 with ⟨_, e⟩ | ⟨_, e⟩ <;> omega, fun d hd => ?_⟩
    rcases List.mem_cons.mp hd with e | hd
    · rw [e]; exact True.intro
    · obtain ⟨a, _, rfl⟩ := List.mem_map.mp hd
      exact True.intro
  | fi b =>
    refine ⟨by show 2 ≤ 1000000; decide, fun d hd => ?_⟩
    simp only [List.mem_cons, List.not_mem_nil, or_false] at hd
    rcases hd with e | e <;> rw [e] <;> exact True.intro
theorem dne48 (a : Nat) : (!decide (V.str (SX.S [a]) = V.str (Str.ofString "-"))) = !decide (a = 45) := by
  rw [dM]
def spRight60 : Sp := fun vs H Q _ => ∃ (b : Addr) (c : Int), vs = [.ref b] ∧ BoxAt c H b ∧ c ≤ 100 ∧ ∀ H', Keep b H H' → Q (.bl true) H'
theorem ok__law_right (B : Bl mg) (L : LL K mg C za zl) : FnOk P w K mg base CX0 9 (za 19) (zl 19) ["_law_box_here"] spRight60 := by
  have G__law_take : FnOk P w K mg base CX0 8 (za 6) (zl 6) ["_law_box_here", "_law_size"] (spTake 1) := (ok_take L.F__law_take L.b__law_take L.m__law_take B 1).mono (by decide)
  have G__law_gate_rows : FnOk P w K mg base CX0 8 (za 9) (zl 9) ["_law_box_here", "_law_first", "_law_many"] spRows60 := (ok__law_gate_rows B L).mono (by decide)
  have G__law_given : FnOk P w K mg base CX0 8 (za 14) (zl 14) ["_law_box_here", "_law_far"] spGiven60 := (ok__law_given B L).mono (by decide)
  have G__law_net : FnOk P w K mg base CX0 8 (za 10) (zl 10) ["_law_first", "_law_rows", "_law_given_here"] (spNet60 C) := (ok__law_net B L).mono (by decide)
  have G__law_cube : FnOk P w K mg base CX0 8 (za 15) (zl 15) ["_law_box_here", "_law_many"] spCube60 := (ok__law_cube B L).mono (by decide)
  have G__law_settled : FnOk P w K mg base CX0 8 (za 11) (zl 11) ["_law_rows", "_law_given_here", "_law_cube_here"] spSett60 := (ok__law_settled B L).mono (by decide)
  have G_settled : FnOk P w K mg base CX0 8 (za 1) (zl 1) ["net", "cube"] (spSettled C) := (ok_settled B L).mono (by decide)
  have G__law_same : FnOk P w K mg base CX0 8 (za 8) (zl 8) ["_law_found", "_law_due"] (spSame K 4) := (ok_same L.F__law_same L.b__law_same L.m__law_same B 4).mono (by decide)
  have G__law_shut : FnOk P w K mg base CX0 8 (za 16) (zl 16) ["_law_box_here", "_law_cube_here"] spShut60 := (ok__law_shut B L).mono (by decide)
  have G__law_kept : FnOk P w K mg base CX0 8 (za 17) (zl 17) ["_law_one", "_law_other"] spKept60 := (ok__law_kept B L).mono (by decide)
  have G__law_is_open : FnOk P w K mg base CX0 8 (za 12) (zl 12) ["_law_told"] spOpen60 := (ok__law_is_open B L).mono (by decide)
  have G_Net_gates : FnOk P w K mg base CX0 8 (za 32) (zl 32) ["self"] (spGates C) := (ok_Net_gates B L).mono (by decide)
  have G_Net___len__ : FnOk P w K mg base CX0 8 (za 33) (zl 33) ["self"] (spLenN C) := (ok_Net___len__ B L).mono (by decide)
  have G__law_grown_right : FnOk P w K mg base CX0 8 (za 18) (zl 18) ["_law_box_here", "_law_net_here", "_law_first", "_law_rows", "_law_given_here", "_law_cubes"] (spGrown60 C) := (ok__law_grown_right B L).mono (by decide)
  refine L.F__law_right.ok sc__law_right (fun vs H Q E h => ?_) (fun cdv A outer s H vs Q E hr h => ?_)
  · obtain ⟨b, c, rfl, _⟩ := h
    rfl
  obtain ⟨b, c, rfl, hB, hc, q⟩ := h
  refine ⟨_, (pss_cons (ps_set (i := 1) sc__law_right.nd rfl (.inl rfl) (pe_op op_add pe_int (pe_call G__law_take hr (by rfl) L.m__law_take L.F__law_take.kp L.b__law_take .nil pass0 (pa_cons (pv 0) (pa_cons (pe_ix ix_list (pe_lst (pa_cons pe_int (pa_cons pe_int pa_nil))) (pe_call G__law_take hr (by rfl) L.m__law_take L.F__law_take.kp L.b__law_take .nil pass0 (pa_cons (pv 0) (pa_cons pe_int pa_nil))) (fun _ _ => rfl)) pa_nil)))))
    (pss_cons (ps_set (i := 2) sc__law_right.nd rfl (.inl rfl) (pe_call G__law_gate_rows hr (by rfl) L.m__law_gate_rows L.F__law_gate_rows.kp L.b__law_gate_rows .nil pass0 (pa_cons (pv 0) (pa_cons (pv 1) (pa_cons (pe_call G__law_take hr (by rfl) L.m__law_take L.F__law_take.kp L.b__law_take .nil pass0 (pa_cons (pv 0) (pa_cons pe_int pa_nil))) pa_nil)))))
    (pss_cons (ps_set (i := 3) sc__law_right.nd rfl (.inl rfl) (pe_call G__law_given hr (by rfl) L.m__law_given L.F__law_given.kp L.b__law_given .nil pass0 (pa_cons (pv 0) (pa_cons (pe_op op_add (pv 1) (pe_callB call_len_seq (by rfl) B.len PySem.boot_len (pa_cons (pv 2) pa_nil))) pa_nil))))
    (pss_cons (ps_par (by rfl) sc__law_right.nd (i := 4) (j := 5) rfl rfl (by decide) rfl rfl (pa_cons (pe_call G__law_net hr (by rfl) L.m__law_net L.F__law_net.kp L.b__law_net .nil pass0 (pa_cons (pv 1) (pa_cons (pv 2) (pa_cons (pv 3) pa_nil)))) (pa_cons (pe_lst pa_nil) pa_nil)) (by rfl))
    (pss_cons (ps_for PassesOwn.never rfl (pi_range1 (by rfl) B.range (pa_cons pe_int pa_nil)) (pg_name (i := 6) sc__law_right.nd rfl (.inl rfl)) (pss_cons (ps_set (i := 7) sc__law_right.nd rfl (.inl rfl) (pe_call G__law_cube hr (by rfl) L.m__law_cube L.F__law_cube.kp L.b__law_cube .nil pass0 (pa_cons (pv 0) (pa_cons (pv 1) pa_nil))))
    (pss_cons (ps_expr (pe_bm PySem.F.plainAttrs_list PySem.F.slot_list_append PySem.F.type_list_append mt_append (pv 5) (pa_cons (pv 7) pa_nil)))
    (pss_cons (ps_set (i := 8) sc__law_right.nd rfl (.inl rfl) (pe_call G__law_settled hr (by rfl) L.m__law_settled L.F__law_settled.kp L.b__law_settled .nil pass0 (pa_cons (pv 2) (pa_cons (pv 3) (pa_cons (pv 7) pa_nil)))))
    (pss_cons (ps_set (i := 9) sc__law_right.nd rfl (.inl rfl) (pe_call G_settled hr (by rfl) L.m_settled L.F_settled.kp L.b_settled .nil pass0 (pa_cons (pv 4) (pa_cons (pv 7) pa_nil))))
    (pss_cons (ps_if (PW.pt (pw_or (pt_not (pt_val (pe_call G__law_same hr (by rfl) L.m__law_same L.F__law_same.kp L.b__law_same .nil pass0 (pa_cons (pv 9) (pa_cons (pv 8) pa_nil))))) (pw_or1 (pt_not (pt_val (pe_call G__law_kept hr (by rfl) L.m__law_kept L.F__law_kept.kp L.b__law_kept .nil pass0 (pa_cons (pv 9) (pa_cons (pe_call G_settled hr (by rfl) L.m_settled L.F_settled.kp L.b_settled .nil pass0 (pa_cons (pv 4) (pa_cons (pe_call G__law_shut hr (by rfl) L.m__law_shut L.F__law_shut.kp L.b__law_shut .nil pass0 (pa_cons (pv 0) (pa_cons (pv 7) pa_nil))) pa_nil))) pa_nil)))))))) (pss_one (ps_ret pe_bl)) pss_nil)
    (pss_cons (ps_expr (pe_bm PySem.F.plainAttrs_list PySem.F.slot_list_append PySem.F.type_list_append mt_append (pv 9) (pa_cons pe_str pa_nil)))
    (pss_cons (ps_expr (pe_bm0 PySem.F.plainAttrs_list PySem.F.slot_list_reverse PySem.F.type_list_reverse mt_reverse (pv 9)))
    (pss_cons (ps_set (i := 10) sc__law_right.nd rfl (.inl rfl) (pe_bm PySem.F.plainAttrs_str PySem.F.slot_str_join PySem.F.type_str_join mt_join pe_str (pa_cons (pe_lc (own := [("_law_sign", 11)]) (by rfl) sc__law_right.nd (pi_str (pv 7)) (blkOk_by (own := [("_law_sign", 11)]) (N := ["_law_box_here", "_law_first", "_law_rows", "_law_given_here", "_law_net_here", "_law_cubes", "_law_turn", "_law_cube_here", "_law_due", "_law_found", "_law_bits", "_law_sign"]) (sc := defScope s__law_right) (by decide +kernel)) (fun _ _ _ _ _ => pg_name (i := 11) sc__law_right.nd rfl (Or.inl rfl)) (fun _ _ _ _ _ => pts_nil) (fun _ _ _ _ _ => (pe_ifExp (pt_cmpR op_ne (pv 11) pe_str (nomark _)) (pv 11) (pe_ix ix_str pe_str (pe_call G__law_take hr (by rfl) L.m__law_take L.F__law_take.kp L.b__law_take .nil pass0 (pa_cons (pv 0) (pa_cons pe_int pa_nil))) (fun _ _ => rfl))))) pa_nil)))
    (pss_cons (ps_if (PW.pt (pw_or (pt_not (pt_val (pe_call G__law_same hr (by rfl) L.m__law_same L.F__law_same.kp L.b__law_same .nil pass0 (pa_cons (pe_call G_settled hr (by rfl) L.m_settled L.F_settled.kp L.b_settled .nil pass0 (pa_cons (pv 4) (pa_cons (pv 7) pa_nil))) (pa_cons (pv 8) pa_nil))))) (pw_or1 (pt_val (pe_call G__law_is_open hr (by rfl) L.m__law_is_open L.F__law_is_open.kp L.b__law_is_open .nil pass0 (pa_cons (pe_call G_settled hr (by rfl) L.m_settled L.F_settled.kp L.b_settled .nil pass0 (pa_cons (pv 4) (pa_cons (pv 10) pa_nil))) pa_nil)))))) (pss_one (ps_ret pe_bl)) pss_nil)
    (pss_one (ps_if (pt_not (pt_val (pe_call G__law_kept hr (by rfl) L.m__law_kept L.F__law_kept.kp L.b__law_kept .nil pass0 (pa_cons (pv 8) (pa_cons (pe_call G_settled hr (by rfl) L.m_settled L.F_settled.kp L.b_settled .nil pass0 (pa_cons (pv 4) (pa_cons (pv 10) pa_nil))) pa_nil))))) (pss_one (ps_ret pe_bl)) pss_nil))))))))))))
    (pss_cons (ps_if (PW.pt (pw_or (pt_not (pt_val (pe_call G__law_same hr (by rfl) L.m__law_same L.F__law_same.kp L.b__law_same .nil pass0 (pa_cons (pe_meth0 (pv 4) L.T.cl L.M_Net_gates G_Net_gates hr L.b_Net_gates .nil pass0) (pa_cons (pv 2) pa_nil))))) (pw_or1 (pt_cmpR op_ne (pe_callB (call_lenOwn L.M_Net___len__ (ok_Net___len__ B L) L.b_Net___len__ (hr.mono (by decide)) pass0) (by rfl) B.len boot_len (pa_cons (pv 4) pa_nil)) (pe_callB call_len_seq (by rfl) B.len PySem.boot_len (pa_cons (pv 2) pa_nil)) (nomark _))))) (pss_one (ps_ret pe_bl)) pss_nil)
    (pss_one (ps_ret (pe_call G__law_grown_right hr (by rfl) L.m__law_grown_right L.F__law_grown_right.kp L.b__law_grown_right .nil pass0 (pa_cons (pv 0) (pa_cons (pv 4) (pa_cons (pv 1) (pa_cons (pv 2) (pa_cons (pv 3) (pa_cons (pv 5) pa_nil))))))))))))))), ?_⟩
  refine ⟨_, rfl, (by show 2 ≤ sizeLine; decide), fun K1 nK1 => ?_⟩
  have s1 := same_upd (o := .lst [.int 5, .int 12]) nK1
  have eK1 : (upd H K1 (.lst [.int 5, .int 12])) K1 = some (.lst [.int 5, .int 12]) := upd_same
  have nK1b : K1 ≠ b := (hB.ne nK1).symm
  refine ⟨_, rfl, b, _, _, rfl, hB.same s1, by decide, by decide, by decide, by omega, by decide, fun r1 H1 u1 v1 B1 k1 => ?_⟩
  replace B1 := bx1 B1
  obtain ⟨z1, ez1, hz1⟩ := at2i (x := 5) (y := 12) u1 v1
  refine ⟨K1, _, _, _, rfl, rfl, SqL.of (k1 _ _ eK1 nK1b), ez1, ?_⟩
  refine ⟨b, _, _, rfl, B1, by omega, by omega, by omega, by omega, by decide, fun r2 H2 u2 v2 B2 k2 => ?_⟩
  replace B2 := bx1 B2
  have k02 : Keep b H H2 := ((Keep.ofSame s1).trans k1).trans k2
  refine ⟨_, _, rfl, rfl, ?_⟩
  obtain ⟨m, em, m1, m12⟩ : ∃ m : Nat, 1 + r2 = (m : Int) ∧ 1 ≤ m ∧ m ≤ 12 := ⟨(1 + r2).toNat, by omega, by omega, by omega⟩
  dsimp only [gName]
  rw [em]
  try simp only [L2.start, List.map_cons, List.map_nil, List.length_cons, List.length_nil, List.replicate_succ, List.replicate_zero, List.cons_append, List.nil_append, List.set_cons_succ, List.set_cons_zero, Nat.reduceAdd, Nat.reduceSub, Nat.zero_add]
  refine ⟨_, rfl, _, rfl, _, rfl, b, _, _, rfl, B2, by decide, by decide, by decide, by omega, by decide, fun r3 H3 u3 v3 B3 k3 => ?_⟩
  replace B3 := bx1 B3
  obtain ⟨n, rfl⟩ : ∃ n : Nat, r3 = (n : Int) := ⟨r3.toNat, by omega⟩
  refine ⟨b, _, m, n, rfl, B3, by omega, m1, by omega, by omega, fun R gs H4 lg ok nRb rA B4 k4 => ?_⟩
  have k04 := (k02.trans k3).trans k4
  obtain ⟨ts, lt, eR, hts⟩ := id rA
  try simp only [L2.start, List.map_cons, List.map_nil, List.length_cons, List.length_nil, List.replicate_succ, List.replicate_zero, List.cons_append, List.nil_append, List.set_cons_succ, List.set_cons_zero, Nat.reduceAdd, Nat.reduceSub, Nat.zero_add]
  refine ⟨_, rfl, _, rfl, _, rfl, R, _, rfl, .inl (SqL.of eR), _, _, rfl, rfl, ?_⟩
  have hM : (m : Int) + ((ts.map V.ref).length : Nat) = ((m + gs.length : Nat) : Int) := by
    rw [List.length_map, lt]
    omega
  refine ⟨b, _, m + gs.length, (by show [V.ref b, V.int ((m : Int) + ((ts.map V.ref).length : Nat))] = _; rw [hM]), B4, by omega, by omega, by omega, fun F nm H5 n1 n3 gok gA B5 k5 => ?_⟩
  have k05 := k04.trans k5
  try simp only [L2.start, List.map_cons, List.map_nil, List.length_cons, List.length_nil, List.replicate_succ, List.replicate_zero, List.cons_append, List.nil_append, List.set_cons_succ, List.set_cons_zero, Nat.reduceAdd, Nat.reduceSub, Nat.zero_add]
  have eb5 : H5 b ≠ none := B5.some
  have rA5 : RowsAt46 H5 R gs := rA.keepB k5 B4
  refine ⟨_, rfl, _, rfl, _, rfl, [b], R, F, b, m, gs, nm, rfl, fun z hz => by rw [List.mem_singleton.mp hz]; exact eb5, rA5, ok, gA, gok, n3, by omega, by omega, fun p H6 s6 N6 ⟨w1, w2, w3, w4⟩ => ?_⟩
  refine ⟨(by show 0 ≤ sizeLine; decide), fun D nD => ?_⟩
  have sD := same_upd (o := .lst []) nD
  have s57 : Same H5 (upd H6 D (.lst [])) := s6.trans sD
  have nD5 : H5 D = none := by
    cases e : H5 D with
    | none => rfl
    | some o => rw [s6 _ _ e] at nD; cases nD
  have N7 := N6.add (o := .lst []) nD
  have B7 := B5.same s57
  have eD7 : (upd H6 D (.lst [])) D = some (.lst []) := upd_same
  have rS5 : RwS [b, D, p.lm, p.ld, p.dn] H5 R gs := rA5.toS (rA5.ne B5) B5 (fun y hy => by
    simp only [List.mem_cons, List.not_mem_nil, or_false] at hy
    rcases hy with z | z | z | z <;> rw [z] <;> assumption)
  have gS5 : GvS [b, D, p.lm, p.ld, p.dn] H5 F nm := gA.toS (fun y hy => by
    simp only [List.mem_cons, List.not_mem_nil, or_false] at hy
    rcases hy with z | z | z | z <;> rw [z] <;> assumption)
  have rS7 := rS5.keep (.ofSame s57) (T := []) (fun _ z => nomatch z)
  have gS7 := gS5.keep (.ofSame s57) (T := []) (fun _ z => nomatch z)
  have nDb : D ≠ b := (B5.ne nD5).symm
  have nDx : ∀ y ∈ [p.x, p.lm, p.ld, p.dn], D ≠ y := fun y hy z => by
    obtain ⟨_, _, ⟨c1, c2, c3, c4⟩, _⟩ := id N7
    simp only [List.mem_cons, List.not_mem_nil, or_false] at hy
    rcases hy with w | w | w | w
    · exact c1 (by rw [← w, ← z]; simp)
    · exact c2 (by rw [← w, ← z]; simp)
    · exact c3 (by rw [← w, ← z]; simp)
    · exact c4 (by rw [← w, ← z]; simp)
  have nDH : H D = none := k05.none nDb nD5
  have k07 : Keep b H (upd H6 D (.lst [])) := k05.trans (Keep.ofSame s57)
  have gin : GvIn (m + gs.length) nm := gok.gin (by omega)
  generalize upd H6 D (.lst []) = H7 at *
  try simp only [L2.start, List.map_cons, List.map_nil, List.length_cons, List.length_nil, List.replicate_succ, List.replicate_zero, List.cons_append, List.nil_append, List.set_cons_succ, List.set_cons_zero, Nat.reduceAdd, Nat.reduceSub, Nat.zero_add]
  refine ⟨_, _, rfl, ?_⟩
  try simp only [L2.start, List.map_cons, List.map_nil, List.length_cons, List.length_nil, List.replicate_succ, List.replicate_zero, List.cons_append, List.nil_append, List.set_cons_succ, List.set_cons_zero, Nat.reduceAdd, Nat.reduceSub, Nat.zero_add]
  refine ⟨8, rfl, by decide, by decide, ?_⟩
  refine for_range (n := 8) (fun j σ H9 => ∃ (y6 y7 y8 y9 y10 : Option V) (cs : List (List Nat)), σ = [some (.ref b), some (.int (m : Int)), some (.ref R), some (.ref F), some (.ref p.x), some (.ref D), y6, y7, y8, y9, y10, none] ∧ cs.length = j ∧ H9 D = some (.lst (cs.map fun x => V.str (SX.S x))) ∧ (∀ x ∈ cs, x.length = m ∧ SgL x) ∧ BoxAt (c + 600 + 100 * j) H9 b ∧ KeepS [b, D] H7 H9) ⟨_, _, _, _, _, [], rfl, rfl, eD7, (fun _ z => nomatch z), B7.mono (by omega), KeepS.refl _ _⟩ ?_ ?_
  · rintro j σ H9 hj ⟨y6, y7, y8, y9, y10, cs, rfl, lcs, eD9, hcs, B9, k9⟩
    have subS : ∀ y ∈ [b, D], y ∈ [b, D, p.lm, p.ld, p.dn] := fun y hy => by
      simp only [List.mem_cons, List.not_mem_nil, or_false] at hy ⊢
      rcases hy with z | z
      · exact .inl z
      · exact .inr (.inl z)
    have subN : ∀ y ∈ [b, D], y ∈ D :: [b] := fun y hy => by
      simp only [List.mem_cons, List.not_mem_nil, or_false] at hy ⊢
      exact hy.symm
    try simp only [L2.start, List.map_cons, List.map_nil, List.length_cons, List.length_nil, List.replicate_succ, List.replicate_zero, List.cons_append, List.nil_append, List.set_cons_succ, List.set_cons_zero, Nat.reduceAdd, Nat.reduceSub, Nat.zero_add]
    dsimp only [gName]
    try simp only [L2.start, List.map_cons, List.map_nil, List.length_cons, List.length_nil, List.replicate_succ, List.replicate_zero, List.cons_append, List.nil_append, List.set_cons_succ, List.set_cons_zero, Nat.reduceAdd, Nat.reduceSub, Nat.zero_add]
    refine ⟨_, rfl, _, rfl, b, m, _, rfl, B9, by omega, by omega, fun l H10 ll sl B10 k10 => ?_⟩
    try simp only [L2.start, List.map_cons, List.map_nil, List.length_cons, List.length_nil, List.replicate_succ, List.replicate_zero, List.cons_append, List.nil_append, List.set_cons_succ, List.set_cons_zero, Nat.reduceAdd, Nat.reduceSub, Nat.zero_add]
    have bD : D ∈ [b, D] := by simp
    have eD10 := k10 _ _ eD9 nDb
    refine ⟨_, rfl, .inl ⟨rfl, _, SqL.of eD10⟩, _, rfl, D, _, _, rfl, rfl, eD10, ?_, ?_⟩
    · rw [List.length_map, lcs]
      exact small1000 (by omega)
    have k911 : KeepS [b, D] H9 (upd H10 D (.lst (cs.map (fun x => V.str (SX.S x)) ++ [.str (SX.S l)]))) := (KeepS.ofKeep k10 (by simp) B10.some).trans (.upd bD)
    have eD11 : (upd H10 D (.lst (cs.map (fun x => V.str (SX.S x)) ++ [.str (SX.S l)]))) D = some (.lst ((cs ++ [l]).map fun x => V.str (SX.S x))) := by
      rw [upd_same, List.map_append]
      rfl
    have B11 := B10.at (H' := upd H10 D (.lst (cs.map (fun x => V.str (SX.S x)) ++ [.str (SX.S l)]))) (upd_ne nDb.symm)
    have k711 := k9.trans k911
    generalize upd H10 D (.lst (cs.map (fun x => V.str (SX.S x)) ++ [.str (SX.S l)])) = H11 at *
    try simp only [L2.start, List.map_cons, List.map_nil, List.length_cons, List.length_nil, List.replicate_succ, List.replicate_zero, List.cons_append, List.nil_append, List.set_cons_succ, List.set_cons_zero, Nat.reduceAdd, Nat.reduceSub, Nat.zero_add]
    have hb5 : b ∈ [b, D, p.lm, p.ld, p.dn] := by simp
    have r11 := rS7.keep k711 subS
    have g11 := gS7.keep k711 subS
    have N11 := N7.keep k711 subN
    refine ⟨_, rfl, _, rfl, _, rfl, R, F, b, m, gs, nm, l, rfl, r11.at, ok, g11.at hb5, gin, by omega, ll, sl, by omega, by omega, fun nm1 t1 H12 pn1 pw1 s12 S1 => ?_⟩
    try simp only [L2.start, List.map_cons, List.map_nil, List.length_cons, List.length_nil, List.replicate_succ, List.replicate_zero, List.cons_append, List.nil_append, List.set_cons_succ, List.set_cons_zero, Nat.reduceAdd, Nat.reduceSub, Nat.zero_add]
    have N12 := N11.same s12
    have wide : ∀ y ∈ nm, y.2.length ≤ 900 ∧ ∀ a ∈ y.2, a < m + gs.length := fun y hy => ⟨by have := (gin.all y hy).1; omega, (gin.all y hy).2⟩
    refine ⟨_, rfl, _, rfl, D :: [b], p, m, gs, nm, l, rfl, N12, ll, by omega, by omega, ok, wide, fun nm2 t2 H13 pn2 ss2 s13 S2 => ?_⟩
    obtain rfl : nm2 = nm1 := rows_one gin.1 pn2 (sort_pw ss2) pn1 pw1
    try simp only [L2.start, List.map_cons, List.map_nil, List.length_cons, List.length_nil, List.replicate_succ, List.replicate_zero, List.cons_append, List.nil_append, List.set_cons_succ, List.set_cons_zero, Nat.reduceAdd, Nat.reduceSub, Nat.zero_add]
    have lnm : nm2.length = nm.length := pn2.length_eq
    have lvr : ∀ f : List Nat, Lv 3 (rwD (setR f nm2)) := fun f => lv_rw (by rw [setR_len]; omega)
    have four : ∀ (f : List Nat), ∀ r ∈ setR f nm2, r.2.length ≤ 4 := fun f => setR_four fun x hx => (gin.all x (pn2.mem_iff.mp hx)).1
    have D1 := S1.rw.same s13
    refine ⟨_, rfl, _, rfl, _, _, rwD (setR (sgs l gs) nm2), 3, rfl, rfl, lvr _, S2.rw.dp, D1.dp, fun H14 s14 => ?_⟩
    refine ⟨_, rfl, iteF ?_⟩
    have B14 := B11.same ((s12.trans s13).trans s14)
    have R2a := S2.rw.same s14
    have N14 := N12.same (s13.trans s14)
    refine ⟨_, rfl, _, rfl, _, rfl, _, rfl, b, _, l, rfl, B14, by omega, by omega, sl, fun y H15 hy B15 k15 => ?_⟩
    obtain ⟨sy, ly⟩ := hy.sg sl
    have ly : y.length = m := by rw [ly, ll]
    have N15 := N14.keepB k15 B15.some (by simp)
    have dropT : ∀ {rs : List (Str × List Nat)} {t : Addr} {G G' : Hp} {cc : Int}, BoxAt cc G b → RwAt G t rs → Keep b G G' → RwAt G' t rs := fun {rs t G G' cc} BG h k => by
      obtain ⟨us, lu, eu, hu⟩ := h
      obtain ⟨_, _, _, eb, _⟩ := BG
      refine ⟨us, lu, k _ _ eu (fun z => ?_), fun i u n tx a c' => k _ _ (hu i u n tx a c') (fun z => ?_)⟩
      · rw [z, eb] at eu
        have := HO.lst.inj (Option.some.inj eu)
        cases us with
        | nil => cases this
        | cons u us => cases this
      · have := hu i u n tx a c'
        rw [z, eb] at this
        cases this
    have R2b := dropT B14 R2a k15
    have D1b := dropT B14 (D1.same s14) k15
    refine ⟨D :: [b], p, m, gs, nm, y, rfl, N15, ly, by omega, by omega, ok, wide, fun nm3 t3 H16 pn3 ss3 s16 S3 => ?_⟩
    obtain rfl : nm3 = nm2 := rows_one gin.1 pn3 (sort_pw ss3) pn1 pw1
    have kk := kept60 ok gin pn1 sl sy ll ly hy.kept
    refine ⟨t2, t3, _, _, rfl, R2b.same s16, S3.rw, by rw [setR_len]; omega, four _, four _, kk.1, kk.2, fun H17 s17 => ?_⟩
    refine ⟨_, rfl, iteF ?_⟩
    dsimp only [tNext]
    try simp only [L2.start, List.map_cons, List.map_nil, List.length_cons, List.length_nil, List.replicate_succ, List.replicate_zero, List.cons_append, List.nil_append, List.set_cons_succ, List.set_cons_zero, Nat.reduceAdd, Nat.reduceSub, Nat.zero_add]
    obtain ⟨us, lu, eus, _⟩ := id (R2b.same (s16.trans s17))
    have nt2 : H12 t2 = none := by
      obtain ⟨_, _, _, h0, _⟩ := S2
      exact h0
    have k1217 : Keep b H12 H17 := ((Keep.ofSame (s13.trans s14)).trans k15).trans (Keep.ofSame (s16.trans s17))
    have B17 := B15.same (s16.trans s17)
    have nt2b : t2 ≠ b := ((B11.same s12).ne nt2).symm
    refine ⟨_, rfl, .inl ⟨rfl, _, SqL.of eus⟩, t2, _, _, rfl, rfl, eus, ?_, ?_⟩
    · rw [List.length_map, lu, setR_len]
      exact small1000 (by omega)
    have k1218 : Keep b H12 (upd H17 t2 (.lst (us.map V.ref ++ [V.str (Str.ofString "more")]))) := fun y o e n => by
      rw [upd_ne (ne_of_none e nt2)]
      exact k1217 y o e n
    have B18 := B17.at (H' := upd H17 t2 (.lst (us.map V.ref ++ [V.str (Str.ofString "more")]))) (upd_ne nt2b.symm)
    have e18 : (upd H17 t2 (.lst (us.map V.ref ++ [V.str (Str.ofString "more")]))) t2 = some (.lst (us.map V.ref ++ [V.str (Str.ofString "more")])) := upd_same
    generalize upd H17 t2 (.lst (us.map V.ref ++ [V.str (Str.ofString "more")])) = H18 at *
    try simp only [L2.start, List.map_cons, List.map_nil, List.length_cons, List.length_nil, List.replicate_succ, List.replicate_zero, List.cons_append, List.nil_append, List.set_cons_succ, List.set_cons_zero, Nat.reduceAdd, Nat.reduceSub, Nat.zero_add]
    refine ⟨_, rfl, .inl ⟨rfl, _, SqL.of e18⟩, t2, _, rfl, rfl, e18, ?_⟩
    have k1219 : Keep b H12 (upd H18 t2 (.lst (us.map V.ref ++ [V.str (Str.ofString "more")]).reverse)) := fun y o e n => by
      rw [upd_ne (ne_of_none e nt2)]
      exact k1218 y o e n
    have B19 := B18.at (H' := upd H18 t2 (.lst (us.map V.ref ++ [V.str (Str.ofString "more")]).reverse)) (upd_ne nt2b.symm)
    generalize upd H18 t2 (.lst (us.map V.ref ++ [V.str (Str.ofString "more")]).reverse) = H19 at *
    try simp only [L2.start, List.map_cons, List.map_nil, List.length_cons, List.length_nil, List.replicate_succ, List.replicate_zero, List.cons_append, List.nil_append, List.set_cons_succ, List.set_cons_zero, Nat.reduceAdd, Nat.reduceSub, Nat.zero_add]
    have B12 := B11.same s12
    have N19 := N12.keepB k1219 B19.some (by simp)
    have D19 := dropT B12 S1.rw k1219
    refine ⟨rfl, _, rfl, SX.S l, rfl, fun W nW => ?_⟩
    have nWb : W ≠ b := (B19.ne nW).symm
    refine lc_it (walk_S (x := l)) (fun i H7 => Keep b H19 H7 ∧ BoxAt (c + 600 + 100 * j + 30 + m + i) H7 b ∧ ∃ bs : List Nat, bs.length = i ∧ BtL bs ∧ (∀ (k a d : Nat), l[k]? = some a → bs[k]? = some d → a = 45 ∨ a = d) ∧ H7 W = some (.lst (s1s bs))) ⟨Keep.new nW, (B19.same (same_upd nW)).mono (by omega), [], rfl, (fun _ z => nomatch z), (fun _ _ _ _ z => by simp at z), upd_same⟩ (fun _ _ _ _ => trivial) ?_ ?_
    · rintro i v H20 H21 hi ⟨k20, B20, bs, lb, hb, hkb, eW⟩ ⟨rfl, a, ha, rfl⟩
      refine ⟨rfl, yesT ?_⟩
      refine if_ev (fun z H' => ∃ d : Nat, z = .str (SX.S [d]) ∧ (d = 48 ∨ d = 49) ∧ (a = 45 ∨ a = d) ∧ Keep b H21 H' ∧ BoxAt (c + 600 + 100 * j + 30 + m + i + 1) H' b) (fun Q' q' => ?_) ?_
      · refine ⟨_, rfl, rfl, _, rfl, ite2 (fun z => ?_) (fun z => ?_)⟩
        · rw [dne48] at z
          refine ⟨_, rfl, q' _ _ ⟨a, rfl, ?_, .inr rfl, Keep.refl _ _, B20.mono (by omega)⟩⟩
          rcases sl a (List.mem_of_getElem? ha) with w | w
          · rw [w] at z
            cases z
          · exact w
        · rw [dne48] at z
          refine ⟨_, rfl, b, _, _, rfl, B20, by decide, by decide, by decide, by omega, by decide, fun r H22 u v B22 k22 => ?_⟩
          replace B22 := bx1 B22
          obtain ⟨d, ed, hd⟩ := at2 u v
          refine ⟨_, _, d, rfl, rfl, ln2, ed, q' _ _ ⟨d, rfl, hd, .inl ?_, k22, B22⟩⟩
          simpa using z
      rintro _ H22 ⟨d, rfl, hd, had, k22, B22⟩
      refine ⟨_, k22 _ _ eW nWb, ?_, fun y o e n => ?_, BoxAt.mono (B22.at (upd_ne nWb.symm)) (by omega), bs ++ [d], by rw [List.length_append, lb]; rfl, bt_snoc hb hd, fun k x w hx hw => ?_, ?_⟩
      · rw [s1s_len, lb]
        exact small1000 (by omega)
      · rw [upd_ne (ne_of_none e nW)]
        exact k22 _ _ (k20 _ _ e n) n
      · by_cases kl : k < bs.length
        · rw [List.getElem?_append_left kl] at hw
          exact hkb k x w hx hw
        · have k0 : k = bs.length := by
            have := (List.getElem?_eq_some_iff.mp hw).1
            rw [List.length_append, List.length_cons, List.length_nil] at this
            omega
          rw [List.getElem?_append_right (by omega), k0, Nat.sub_self] at hw
          rw [k0, lb, ha] at hx
          cases hw
          cases hx
          exact had
      · rw [upd_same]
        exact congrArg (fun z => some (HO.lst z)) (s1s_snoc bs d)
    rintro H20 ⟨k20, B20, bs, lb, hb, hkb, eW⟩
    rw [ll] at lb B20
    refine ⟨_, W, _, rfl, rfl, .inl (SqL.of eW), join_z bs (by omega), ?_⟩
    rw [join_1]
    try simp only [L2.start, List.map_cons, List.map_nil, List.length_cons, List.length_nil, List.replicate_succ, List.replicate_zero, List.cons_append, List.nil_append, List.set_cons_succ, List.set_cons_zero, Nat.reduceAdd, Nat.reduceSub, Nat.zero_add]
    have N20 := N19.keepB k20 B20.some (by simp)
    have D20 := dropT B19 D19 k20
    dsimp only [gName]
    try simp only [L2.start, List.map_cons, List.map_nil, List.length_cons, List.length_nil, List.replicate_succ, List.replicate_zero, List.cons_append, List.nil_append, List.set_cons_succ, List.set_cons_zero, Nat.reduceAdd, Nat.reduceSub, Nat.zero_add]
    obtain ⟨sbs, nbs⟩ := hb.sg
    have klb : KeptL l bs := ⟨by rw [ll, lb], hkb⟩
    refine ⟨_, rfl, _, rfl, D :: [b], p, m, gs, nm, l, rfl, N20, ll, by omega, by omega, ok, wide, fun nm4 t4 H21 pn4 ss4 s21 S4 => ?_⟩
    obtain rfl : nm4 = nm3 := rows_one gin.1 pn4 (sort_pw ss4) pn1 pw1
    refine ⟨_, rfl, _, _, rwD (setR (sgs l gs) nm4), 3, rfl, rfl, lvr _, S4.rw.dp, (D20.same s21).dp, fun H22 s22 => ?_⟩
    refine ⟨_, rfl, iteF ?_⟩
    have N22 := N20.same (s21.trans s22)
    refine ⟨_, rfl, _, rfl, D :: [b], p, m, gs, nm, bs, rfl, N22, lb, by omega, by omega, ok, wide, fun nm5 t5 H23 pn5 ss5 s23 S5 => ?_⟩
    obtain rfl : nm5 = nm4 := rows_one gin.1 pn5 (sort_pw ss5) pn1 pw1
    refine ⟨t5, _, rfl, S5.rw, by rw [setR_len]; omega, fun H24 s24 => ?_⟩
    rw [shut_rows (shut_sgs sbs nbs lb ok) nm5 (fun x hx a ha => by rw [sgs_len, lb]; exact (gin.all x (pn1.mem_iff.mp hx)).2 a ha)]
    refine ⟨_, rfl, iteF ?_⟩
    dsimp only [tNext]
    have N24 := N22.same (s23.trans s24)
    have D24 := D20.same (((s21.trans s22).trans s23).trans s24)
    refine ⟨_, rfl, _, rfl, _, rfl, D :: [b], p, m, gs, nm, bs, rfl, N24, lb, by omega, by omega, ok, wide, fun nm6 t6 H25 pn6 ss6 s25 S6 => ?_⟩
    obtain rfl : nm6 = nm5 := rows_one gin.1 pn6 (sort_pw ss6) pn1 pw1
    have kb := kept60 ok gin pn1 sl sbs ll lb klb
    refine ⟨t1, t6, _, _, rfl, D24.same s25, S6.rw, by rw [setR_len]; omega, four _, four _, kb.1, kb.2, fun H26 s26 => ?_⟩
    refine ⟨_, rfl, iteF ?_⟩
    dsimp only [tNext]
    have kf : Keep b H12 H26 := (k1219.trans k20).trans (Keep.ofSame (((((s21.trans s22).trans s23).trans s24).trans s25).trans s26))
    have kf11 : Keep b H11 H26 := (Keep.ofSame s12).trans kf
    have B26 := B20.same (((((s21.trans s22).trans s23).trans s24).trans s25).trans s26)
    refine ⟨_, _, _, _, _, cs ++ [l], rfl, by rw [List.length_append, lcs]; rfl, kf11 _ _ eD11 nDb, fun x hx => ?_, B26.mono (by omega), k711.trans (.ofKeep kf11 (by simp) B26.some)⟩
    rcases List.mem_append.mp hx with z | z
    · exact hcs x z
    · rw [List.mem_singleton.mp z]
      exact ⟨ll, sl⟩
  · rintro σ H9 ⟨y6, y7, y8, y9, y10, cs, rfl, lcs, eD9, hcs, B9, k9⟩
    have subS : ∀ y ∈ [b, D], y ∈ [b, D, p.lm, p.ld, p.dn] := fun y hy => by
      simp only [List.mem_cons, List.not_mem_nil, or_false] at hy ⊢
      rcases hy with z | z
      · exact .inl z
      · exact .inr (.inl z)
    have subN : ∀ y ∈ [b, D], y ∈ D :: [b] := fun y hy => by
      simp only [List.mem_cons, List.not_mem_nil, or_false] at hy ⊢
      exact hy.symm
    have N9 := N7.keep k9 subN
    have r9 := rS7.keep k9 subS
    have g9 := gS7.keep k9 subS
    obtain ⟨_, _, _, dx9, _, _, f9, _⟩ := id N9
    dsimp only [tSeq]
    refine ⟨_, rfl, p.x, dx9, _, rfl, f9, rfl, D :: [b], p, m, gs, nm, rfl, N9, fun G ps nG lp hps => ?_⟩
    have sG := same_upd (o := .lst (ps.map V.ref)) nG
    have eG : (upd H9 G (.lst (ps.map V.ref))) G = some (.lst (ps.map V.ref)) := upd_same
    obtain ⟨_, ts9, lt9, eR9, hts9⟩ := id r9
    refine ⟨_, rfl, _, _, .list (gs.map dGt), 3, rfl, rfl, lv_rows60 ok (by omega), .lst (SqL.of eG) (dpa_rows _ _ lp fun i t g a c => sG _ _ (hps i t g a c)), .lst (SqL.of (sG _ _ eR9)) (dpa_rows _ _ lt9 fun i t g a c => sG _ _ (hts9 i t g a c).2), fun H10 s10 => ?_⟩
    refine ⟨_, rfl, iteF ?_⟩
    have s910 := sG.trans s10
    have N10 := N9.same s910
    obtain ⟨_, _, _, dxA, _, _, fA, _⟩ := id N10
    refine ⟨_, rfl, p.x, dxA, _, rfl, fA, D :: [b], p, m, gs, nm, rfl, N10, _, rfl, by omega, by omega, ?_⟩
    refine ⟨_, rfl, R, _, rfl, .inl (SqL.of (s910 _ _ eR9)), ?_⟩
    rw [List.length_map, lt9]
    refine ⟨rfl, _, rfl, ite2 (fun z => by simp at z) (fun _ => ?_)⟩
    dsimp only [tNext]
    have g10 := g9.keep (.ofSame s910) (T := []) (fun _ z => nomatch z)
    have r10 := r9.keep (.ofSame s910) (T := []) (fun _ z => nomatch z)
    have sub4 : ∀ y ∈ [b, p.lm, p.ld, p.dn], y ∈ [b, D, p.lm, p.ld, p.dn] := fun y hy => by
      simp only [List.mem_cons, List.not_mem_nil, or_false] at hy ⊢
      rcases hy with z | z | z | z
      · exact .inl z
      · exact .inr (.inr (.inl z))
      · exact .inr (.inr (.inr (.inl z)))
      · exact .inr (.inr (.inr (.inr z)))
    refine ⟨_, rfl, _, rfl, _, rfl, _, rfl, _, rfl, _, rfl, D :: [b], b, R, F, D, p, _, m, gs, nm, cs, rfl, B9.same s910, by omega, N10, by simp, r10.mono sub4, ok, g10.mono sub4, gok, m1, by omega, by omega, n3, s910 _ _ eD9, fun z => ?_, hcs, by omega, fun H11 k11 => ?_⟩
    · simp only [List.mem_cons, List.not_mem_nil, or_false] at z
      rcases z with z | z | z | z
      · exact nDb z
      · exact nDx _ (by simp) z
      · exact nDx _ (by simp) z
      · exact nDx _ (by simp) z
    · refine q H11 fun y o e n => ?_
      have yD := ne_of_none e nDH
      have y7 := k07 y o e n
      have no : ∀ {w : Addr}, H5 w = none → y ≠ w := fun {w} hw z => by
        have e5 := k05 y o e n
        rw [z, hw] at e5
        cases e5
      refine k11.1 _ _ (s910 _ _ (k9.1 _ _ y7 fun z => ?_)) fun z => ?_
      · simp only [List.mem_cons, List.not_mem_nil, or_false] at z
        rcases z with z | z
        · exact n z
        · exact yD z
      · simp only [List.mem_cons, List.not_mem_nil, or_false] at z
        rcases z with z | z | z | z
        · exact n z
        · exact no w2 z
        · exact no w3 z
        · exact no w4 z
end
section
variable {P : Program} {w : World} {K : PySem.W.Frag} {mg : Str → Option Value} {base : Heap}
variable {C : Addr} {za : Nat → Addr} {zl : Nat → FuncData}
def spLaw (K : PySem.W.Frag) : Sp := fun vs H Q _ => ∃ (a : Addr) (ns : List Int), vs = [.ref a] ∧ SqL K H a (ns.map V.int) ∧ ns.length ≤ 63 ∧ ∀ H', Q (.bl true) H'
theorem ok_law {f : Addr} {fd : FuncData} (F : Fun K "law" "law" s_law f fd) (B : Bl mg) (L : LL K mg C za zl) : FnOk P w K mg base CX0 12 f fd ["_law_script"] (spLaw K) := by
  have G__law_folded : FnOk P w K mg base CX0 11 (za 7) (zl 7) ["_law_script", "_law_size"] (spFolded K) := ok_folded L.F__law_folded B
  have G__law_box : FnOk P w K mg base CX0 11 (za 5) (zl 5) ["_law_script", "_law_k"] (spBox K) := ok_box L.F__law_box B
  have G__law_right : FnOk P w K mg base CX0 11 (za 19) (zl 19) ["_law_box_here"] spRight60 := (ok__law_right B L).mono (by decide)
  refine F.ok sc_law (fun vs H Q E h => ?_) (fun cdv A outer s H vs Q E hr h => ?_)
  · obtain ⟨a, ns, rfl, _⟩ := h
    rfl
  obtain ⟨a, ns, rfl, hS, h63, q⟩ := h
  refine ⟨_, (pss_cons (ps_set (i := 1) sc_law.nd rfl (.inr rfl) (pe_call G__law_folded hr (by rfl) L.m__law_folded L.F__law_folded.kp L.b__law_folded .nil pass0 (pa_cons (pv 0) (pa_cons pe_int pa_nil))))
    (pss_one (ps_ret (pe_callB (cr_all rfl) (by rfl) B.all boot_all (pa_cons (pe_lc (own := [("_law_k", 2)]) (by rfl) sc_law.nd (pi_range1 (by rfl) B.range (pa_cons (pe_callB (call_max2 rfl) (by rfl) B.max boot_max (pa_cons pe_int (pa_cons (pe_callB call_len_seq (by rfl) B.len PySem.boot_len (pa_cons (pv 1) pa_nil)) pa_nil))) pa_nil)) (blkOk_by (own := [("_law_k", 2)]) (N := ["_law_script", "_law_cells", "_law_k"]) (sc := defScope s_law) (by decide +kernel)) (fun _ _ _ _ _ => pg_name (i := 2) sc_law.nd rfl (Or.inl rfl)) (fun _ _ _ _ _ => pts_nil) (fun _ _ _ _ _ => (pe_call G__law_right hr (by rfl) L.m__law_right L.F__law_right.kp L.b__law_right .nil pass0 (pa_cons (pe_call G__law_box hr (by rfl) L.m__law_box L.F__law_box.kp L.b__law_box .nil pass0 (pa_cons (pv 1) (pa_cons (pv 2) pa_nil))) pa_nil)))) pa_nil))))), ?_⟩
  refine ⟨_, rfl, a, ns, 3, rfl, hS, h63, by decide, by decide, fun p H1 zs np s1 ep lz => ?_⟩
  have lz2 : zs.length ≤ 3 := by omega
  refine ⟨_, rfl, p, _, rfl, .inl (SqL.of ep), _, _, rfl, ?_⟩
  obtain ⟨n, en, hn⟩ : ∃ n : Nat, (if (((zs.map V.int).length : Nat) : Int) > 1 then (((zs.map V.int).length : Nat) : Int) else 1) = (n : Int) ∧ n ≤ 3 := by
    rw [List.length_map]
    split
    · exact ⟨zs.length, rfl, lz2⟩
    · exact ⟨1, rfl, by decide⟩
  rw [en]
  refine ⟨_, rfl, by omega, by omega, fun D nD => ?_⟩
  rw [Int.toNat_natCast]
  refine lc_range (n := n) (fun j H7 => Same H1 H7 ∧ H7 D = some (.lst (List.replicate j (.bl true)))) ⟨same_upd nD, upd_same⟩ ?_ ?_
  · rintro j H7 hj ⟨s7, eD⟩
    refine ⟨rfl, yesT ?_⟩
    refine ⟨_, rfl, _, rfl, p, zs, _, rfl, SqL.of (s7 _ _ ep), by omega, by omega, fun b H8 nb s8 B8 => ?_⟩
    refine ⟨b, _, rfl, B8, by omega, fun H9 k9 => ?_⟩
    have nDb : D ≠ b := ne_of_none eD nb
    refine ⟨_, k9 _ _ (s8 _ _ eD) nDb, ?_, fun x u e => ?_, ?_⟩
    · rw [List.length_replicate]
      exact small1000 (by omega)
    · rw [upd_ne (ne_of_none e nD)]
      exact k9 _ _ (s8 _ _ (s7 _ _ e)) (ne_of_none (s7 _ _ e) nb)
    · rw [upd_same, repl_snoc]
  · rintro H7 ⟨s7, eD⟩
    refine ⟨D, List.replicate n true, rfl, .inl (.inl (by rw [List.map_replicate]; exact eD)), ?_⟩
    rw [all_repl]
    exact q _
end
theorem all_mk {l : PySem.W.OpenLaw} {w : World} {K : PySem.W.Frag} {h : Heap} {mg : Str → Option Value} {fa f1 f2 f3 f4 f5 f6 f7 f8 f9 f10 f11 f12 f13 f14 f15 f16 f17 f18 f19 f20 f21 f22 f23 f24 f25 f26 f27 f28 f29 f30 f31 f32 f33 f34 C : Addr} (X : K.In h) (G : h.Ns mainGlobals mg) (hfa : mg "law" = some (.ref fa))
    {od1 an1 od2 an2 od3 an3 od4 an4 od5 an5 od6 an6 od7 an7 od8 an8 od9 an9 od10 an10 od11 an11 od12 an12 od13 an13 od14 an14 od15 an15 od16 an16 od17 an17 od18 an18 od19 an19 od20 an20 od21 an21 od22 an22 od23 an23 od24 an24 od25 an25 od26 an26 od27 an27 od28 an28 od29 an29 od30 an30 od31 an31 od32 an32 od33 an33 od34 an34 : Option Addr} {sl1 sl2 sl3 sl4 sl5 sl6 sl7 sl8 sl9 sl10 sl11 sl12 sl13 sl14 sl15 sl16 sl17 sl18 sl19 sl20 sl21 sl22 sl23 sl24 sl25 sl26 sl27 sl28 sl29 sl30 sl31 sl32 sl33 sl34 : Array (Option Value)} {oc1 kV1 dc1 pm1 cd1 ct1 oc2 kV2 dc2 pm2 cd2 ct2 oc3 kV3 dc3 pm3 cd3 ct3 oc4 kV4 dc4 pm4 cd4 ct4 oc5 kV5 dc5 pm5 cd5 ct5 oc6 kV6 dc6 pm6 cd6 ct6 oc7 kV7 dc7 pm7 cd7 ct7 oc8 kV8 dc8 pm8 cd8 ct8 oc9 kV9 dc9 pm9 cd9 ct9 oc10 kV10 dc10 pm10 cd10 ct10 oc11 kV11 dc11 pm11 cd11 ct11 oc12 kV12 dc12 pm12 cd12 ct12 oc13 kV13 dc13 pm13 cd13 ct13 oc14 kV14 dc14 pm14 cd14 ct14 oc15 kV15 dc15 pm15 cd15 ct15 oc16 kV16 dc16 pm16 cd16 ct16 oc17 kV17 dc17 pm17 cd17 ct17 oc18 kV18 dc18 pm18 cd18 ct18 oc19 kV19 dc19 pm19 cd19 ct19 oc20 kV20 dc20 pm20 cd20 ct20 oc21 kV21 dc21 pm21 cd21 ct21 oc22 kV22 dc22 pm22 cd22 ct22 oc23 kV23 dc23 pm23 cd23 ct23 oc24 kV24 dc24 pm24 cd24 ct24 oc25 kV25 dc25 pm25 cd25 ct25 oc26 kV26 dc26 pm26 cd26 ct26 oc27 kV27 dc27 pm27 cd27 ct27 oc28 kV28 dc28 pm28 cd28 ct28 oc29 kV29 dc29 pm29 cd29 ct29 oc30 kV30 dc30 pm30 cd30 ct30 oc31 kV31 dc31 pm31 cd31 ct31 oc32 kV32 dc32 pm32 cd32 ct32 oc33 kV33 dc33 pm33 cd33 ct33 oc34 kV34 dc34 pm34 cd34 ct34 : Value}
    (a1 : PySem.W.nsIn K mainGlobals "settled" = some (some (.ref f1))) (l1 : K.lookup f1 = some ⟨oc1, od1, .func (PySem.W.fnOf "settled" "settled" (defArgs s_settled) (defBody s_settled) (defScope s_settled) .none kV1 dc1 pm1 an1 cd1 ct1), sl1⟩) (c1 : PySem.W.codeIn K cd1 "settled" = true) (k1 : PySem.W.keepIn K (.ref f1) = true)
    (a2 : PySem.W.nsIn K mainGlobals "gate_sign" = some (some (.ref f2))) (l2 : K.lookup f2 = some ⟨oc2, od2, .func (PySem.W.fnOf "gate_sign" "gate_sign" (defArgs s_gate_sign) (defBody s_gate_sign) (defScope s_gate_sign) .none kV2 dc2 pm2 an2 cd2 ct2), sl2⟩) (c2 : PySem.W.codeIn K cd2 "gate_sign" = true) (k2 : PySem.W.keepIn K (.ref f2) = true)
    (a3 : PySem.W.nsIn K mainGlobals "turned_sign" = some (some (.ref f3))) (l3 : K.lookup f3 = some ⟨oc3, od3, .func (PySem.W.fnOf "turned_sign" "turned_sign" (defArgs s_turned_sign) (defBody s_turned_sign) (defScope s_turned_sign) .none kV3 dc3 pm3 an3 cd3 ct3), sl3⟩) (c3 : PySem.W.codeIn K cd3 "turned_sign" = true) (k3 : PySem.W.keepIn K (.ref f3) = true)
    (a4 : PySem.W.nsIn K mainGlobals "ruled_sign" = some (some (.ref f4))) (l4 : K.lookup f4 = some ⟨oc4, od4, .func (PySem.W.fnOf "ruled_sign" "ruled_sign" (defArgs s_ruled_sign) (defBody s_ruled_sign) (defScope s_ruled_sign) .none kV4 dc4 pm4 an4 cd4 ct4), sl4⟩) (c4 : PySem.W.codeIn K cd4 "ruled_sign" = true) (k4 : PySem.W.keepIn K (.ref f4) = true)
    (a5 : PySem.W.nsIn K mainGlobals "_law_box" = some (some (.ref f5))) (l5 : K.lookup f5 = some ⟨oc5, od5, .func (PySem.W.fnOf "_law_box" "_law_box" (defArgs sBox) (defBody sBox) (defScope sBox) .none kV5 dc5 pm5 an5 cd5 ct5), sl5⟩) (c5 : PySem.W.codeIn K cd5 "_law_box" = true) (k5 : PySem.W.keepIn K (.ref f5) = true)
    (a6 : PySem.W.nsIn K mainGlobals "_law_take" = some (some (.ref f6))) (l6 : K.lookup f6 = some ⟨oc6, od6, .func (PySem.W.fnOf "_law_take" "_law_take" (defArgs sTake) (defBody sTake) (defScope sTake) .none kV6 dc6 pm6 an6 cd6 ct6), sl6⟩) (c6 : PySem.W.codeIn K cd6 "_law_take" = true) (k6 : PySem.W.keepIn K (.ref f6) = true)
    (a7 : PySem.W.nsIn K mainGlobals "_law_folded" = some (some (.ref f7))) (l7 : K.lookup f7 = some ⟨oc7, od7, .func (PySem.W.fnOf "_law_folded" "_law_folded" (defArgs sFolded) (defBody sFolded) (defScope sFolded) .none kV7 dc7 pm7 an7 cd7 ct7), sl7⟩) (c7 : PySem.W.codeIn K cd7 "_law_folded" = true) (k7 : PySem.W.keepIn K (.ref f7) = true)
    (a8 : PySem.W.nsIn K mainGlobals "_law_same" = some (some (.ref f8))) (l8 : K.lookup f8 = some ⟨oc8, od8, .func (PySem.W.fnOf "_law_same" "_law_same" (defArgs sSame) (defBody sSame) (defScope sSame) .none kV8 dc8 pm8 an8 cd8 ct8), sl8⟩) (c8 : PySem.W.codeIn K cd8 "_law_same" = true) (k8 : PySem.W.keepIn K (.ref f8) = true)
    (a9 : PySem.W.nsIn K mainGlobals "_law_gate_rows" = some (some (.ref f9))) (l9 : K.lookup f9 = some ⟨oc9, od9, .func (PySem.W.fnOf "_law_gate_rows" "_law_gate_rows" (defArgs s__law_gate_rows) (defBody s__law_gate_rows) (defScope s__law_gate_rows) .none kV9 dc9 pm9 an9 cd9 ct9), sl9⟩) (c9 : PySem.W.codeIn K cd9 "_law_gate_rows" = true) (k9 : PySem.W.keepIn K (.ref f9) = true)
    (a10 : PySem.W.nsIn K mainGlobals "_law_net" = some (some (.ref f10))) (l10 : K.lookup f10 = some ⟨oc10, od10, .func (PySem.W.fnOf "_law_net" "_law_net" (defArgs s__law_net) (defBody s__law_net) (defScope s__law_net) .none kV10 dc10 pm10 an10 cd10 ct10), sl10⟩) (c10 : PySem.W.codeIn K cd10 "_law_net" = true) (k10 : PySem.W.keepIn K (.ref f10) = true)
    (a11 : PySem.W.nsIn K mainGlobals "_law_settled" = some (some (.ref f11))) (l11 : K.lookup f11 = some ⟨oc11, od11, .func (PySem.W.fnOf "_law_settled" "_law_settled" (defArgs s__law_settled) (defBody s__law_settled) (defScope s__law_settled) .none kV11 dc11 pm11 an11 cd11 ct11), sl11⟩) (c11 : PySem.W.codeIn K cd11 "_law_settled" = true) (k11 : PySem.W.keepIn K (.ref f11) = true)
    (a12 : PySem.W.nsIn K mainGlobals "_law_is_open" = some (some (.ref f12))) (l12 : K.lookup f12 = some ⟨oc12, od12, .func (PySem.W.fnOf "_law_is_open" "_law_is_open" (defArgs s__law_is_open) (defBody s__law_is_open) (defScope s__law_is_open) .none kV12 dc12 pm12 an12 cd12 ct12), sl12⟩) (c12 : PySem.W.codeIn K cd12 "_law_is_open" = true) (k12 : PySem.W.keepIn K (.ref f12) = true)
    (a13 : PySem.W.nsIn K mainGlobals "_law_word_of" = some (some (.ref f13))) (l13 : K.lookup f13 = some ⟨oc13, od13, .func (PySem.W.fnOf "_law_word_of" "_law_word_of" (defArgs s__law_word_of) (defBody s__law_word_of) (defScope s__law_word_of) .none kV13 dc13 pm13 an13 cd13 ct13), sl13⟩) (c13 : PySem.W.codeIn K cd13 "_law_word_of" = true) (k13 : PySem.W.keepIn K (.ref f13) = true)
    (a14 : PySem.W.nsIn K mainGlobals "_law_given" = some (some (.ref f14))) (l14 : K.lookup f14 = some ⟨oc14, od14, .func (PySem.W.fnOf "_law_given" "_law_given" (defArgs s__law_given) (defBody s__law_given) (defScope s__law_given) .none kV14 dc14 pm14 an14 cd14 ct14), sl14⟩) (c14 : PySem.W.codeIn K cd14 "_law_given" = true) (k14 : PySem.W.keepIn K (.ref f14) = true)
    (a15 : PySem.W.nsIn K mainGlobals "_law_cube" = some (some (.ref f15))) (l15 : K.lookup f15 = some ⟨oc15, od15, .func (PySem.W.fnOf "_law_cube" "_law_cube" (defArgs s__law_cube) (defBody s__law_cube) (defScope s__law_cube) .none kV15 dc15 pm15 an15 cd15 ct15), sl15⟩) (c15 : PySem.W.codeIn K cd15 "_law_cube" = true) (k15 : PySem.W.keepIn K (.ref f15) = true)
    (a16 : PySem.W.nsIn K mainGlobals "_law_shut" = some (some (.ref f16))) (l16 : K.lookup f16 = some ⟨oc16, od16, .func (PySem.W.fnOf "_law_shut" "_law_shut" (defArgs s__law_shut) (defBody s__law_shut) (defScope s__law_shut) .none kV16 dc16 pm16 an16 cd16 ct16), sl16⟩) (c16 : PySem.W.codeIn K cd16 "_law_shut" = true) (k16 : PySem.W.keepIn K (.ref f16) = true)
    (a17 : PySem.W.nsIn K mainGlobals "_law_kept" = some (some (.ref f17))) (l17 : K.lookup f17 = some ⟨oc17, od17, .func (PySem.W.fnOf "_law_kept" "_law_kept" (defArgs s__law_kept) (defBody s__law_kept) (defScope s__law_kept) .none kV17 dc17 pm17 an17 cd17 ct17), sl17⟩) (c17 : PySem.W.codeIn K cd17 "_law_kept" = true) (k17 : PySem.W.keepIn K (.ref f17) = true)
    (a18 : PySem.W.nsIn K mainGlobals "_law_grown_right" = some (some (.ref f18))) (l18 : K.lookup f18 = some ⟨oc18, od18, .func (PySem.W.fnOf "_law_grown_right" "_law_grown_right" (defArgs s__law_grown_right) (defBody s__law_grown_right) (defScope s__law_grown_right) .none kV18 dc18 pm18 an18 cd18 ct18), sl18⟩) (c18 : PySem.W.codeIn K cd18 "_law_grown_right" = true) (k18 : PySem.W.keepIn K (.ref f18) = true)
    (a19 : PySem.W.nsIn K mainGlobals "_law_right" = some (some (.ref f19))) (l19 : K.lookup f19 = some ⟨oc19, od19, .func (PySem.W.fnOf "_law_right" "_law_right" (defArgs s__law_right) (defBody s__law_right) (defScope s__law_right) .none kV19 dc19 pm19 an19 cd19 ct19), sl19⟩) (c19 : PySem.W.codeIn K cd19 "_law_right" = true) (k19 : PySem.W.keepIn K (.ref f19) = true)
    (a20 : PySem.W.nsIn K mainGlobals "law" = some (some (.ref f20))) (l20 : K.lookup f20 = some ⟨oc20, od20, .func (PySem.W.fnOf "law" "law" (defArgs s_law) (defBody s_law) (defScope s_law) .none kV20 dc20 pm20 an20 cd20 ct20), sl20⟩) (c20 : PySem.W.codeIn K cd20 "law" = true) (k20 : PySem.W.keepIn K (.ref f20) = true)
    (aC : PySem.W.nsIn K mainGlobals "Net" = some (some (.ref C)))
    (pgC : PySem.W.plainGet K C Str.empty = true) (hdC : PySem.W.hasDictIn K C = true) (poC : PySem.W.plainOver K C = true) (saC : PySem.W.findIn K (.ref C) "__setattr__" = some (some (.builtin "object.__setattr__"))) (mkC : PySem.W.makesIn K C = true) (kcC : PySem.W.keepIn K (.ref C) = true)
    (naC0 : PySem.W.findIn K (.ref C) "input_count" = some none)
    (naC1 : PySem.W.findIn K (.ref C) "made" = some none)
    (naC2 : PySem.W.findIn K (.ref C) "depths" = some none)
    (naC3 : PySem.W.findIn K (.ref C) "by_name" = some none)
    (a21 : PySem.W.findIn K (.ref C) "__init__" = some (some (.ref f21))) (i21 : PySem.W.isFn K (.ref f21) = true) (l21 : K.lookup f21 = some ⟨oc21, od21, .func (PySem.W.fnOf "__init__" "Net.__init__" (defArgs s_Net___init__) (defBody s_Net___init__) (defScope s_Net___init__) .none kV21 dc21 pm21 an21 cd21 ct21), sl21⟩) (c21 : PySem.W.codeIn K cd21 "Net.__init__" = true) (k21 : PySem.W.keepIn K (.ref f21) = true)
    (a22 : PySem.W.findIn K (.ref C) "both" = some (some (.ref f22))) (i22 : PySem.W.isFn K (.ref f22) = true) (l22 : K.lookup f22 = some ⟨oc22, od22, .func (PySem.W.fnOf "both" "Net.both" (defArgs s_Net_both) (defBody s_Net_both) (defScope s_Net_both) .none kV22 dc22 pm22 an22 cd22 ct22), sl22⟩) (c22 : PySem.W.codeIn K cd22 "Net.both" = true) (k22 : PySem.W.keepIn K (.ref f22) = true)
    (a23 : PySem.W.findIn K (.ref C) "either" = some (some (.ref f23))) (i23 : PySem.W.isFn K (.ref f23) = true) (l23 : K.lookup f23 = some ⟨oc23, od23, .func (PySem.W.fnOf "either" "Net.either" (defArgs s_Net_either) (defBody s_Net_either) (defScope s_Net_either) .none kV23 dc23 pm23 an23 cd23 ct23), sl23⟩) (c23 : PySem.W.codeIn K cd23 "Net.either" = true) (k23 : PySem.W.keepIn K (.ref f23) = true)
    (a24 : PySem.W.findIn K (.ref C) "unlike" = some (some (.ref f24))) (i24 : PySem.W.isFn K (.ref f24) = true) (l24 : K.lookup f24 = some ⟨oc24, od24, .func (PySem.W.fnOf "unlike" "Net.unlike" (defArgs s_Net_unlike) (defBody s_Net_unlike) (defScope s_Net_unlike) .none kV24 dc24 pm24 an24 cd24 ct24), sl24⟩) (c24 : PySem.W.codeIn K cd24 "Net.unlike" = true) (k24 : PySem.W.keepIn K (.ref f24) = true)
    (a25 : PySem.W.findIn K (.ref C) "other" = some (some (.ref f25))) (i25 : PySem.W.isFn K (.ref f25) = true) (l25 : K.lookup f25 = some ⟨oc25, od25, .func (PySem.W.fnOf "other" "Net.other" (defArgs s_Net_other) (defBody s_Net_other) (defScope s_Net_other) .none kV25 dc25 pm25 an25 cd25 ct25), sl25⟩) (c25 : PySem.W.codeIn K cd25 "Net.other" = true) (k25 : PySem.W.keepIn K (.ref f25) = true)
    (a26 : PySem.W.findIn K (.ref C) "fixed" = some (some (.ref f26))) (i26 : PySem.W.isFn K (.ref f26) = true) (l26 : K.lookup f26 = some ⟨oc26, od26, .func (PySem.W.fnOf "fixed" "Net.fixed" (defArgs s_Net_fixed) (defBody s_Net_fixed) (defScope s_Net_fixed) .none kV26 dc26 pm26 an26 cd26 ct26), sl26⟩) (c26 : PySem.W.codeIn K cd26 "Net.fixed" = true) (k26 : PySem.W.keepIn K (.ref f26) = true)
    (a27 : PySem.W.findIn K (.ref C) "put" = some (some (.ref f27))) (i27 : PySem.W.isFn K (.ref f27) = true) (l27 : K.lookup f27 = some ⟨oc27, od27, .func (PySem.W.fnOf "put" "Net.put" (defArgs s_Net_put) (defBody s_Net_put) (defScope s_Net_put) .none kV27 dc27 pm27 an27 cd27 ct27), sl27⟩) (c27 : PySem.W.codeIn K cd27 "Net.put" = true) (k27 : PySem.W.keepIn K (.ref f27) = true)
    (a28 : PySem.W.findIn K (.ref C) "put_gate" = some (some (.ref f28))) (i28 : PySem.W.isFn K (.ref f28) = true) (l28 : K.lookup f28 = some ⟨oc28, od28, .func (PySem.W.fnOf "put_gate" "Net.put_gate" (defArgs s_Net_put_gate) (defBody s_Net_put_gate) (defScope s_Net_put_gate) .none kV28 dc28 pm28 an28 cd28 ct28), sl28⟩) (c28 : PySem.W.codeIn K cd28 "Net.put_gate" = true) (k28 : PySem.W.keepIn K (.ref f28) = true)
    (a29 : PySem.W.findIn K (.ref C) "need" = some (some (.ref f29))) (i29 : PySem.W.isFn K (.ref f29) = true) (l29 : K.lookup f29 = some ⟨oc29, od29, .func (PySem.W.fnOf "need" "Net.need" (defArgs s_Net_need) (defBody s_Net_need) (defScope s_Net_need) .none kV29 dc29 pm29 an29 cd29 ct29), sl29⟩) (c29 : PySem.W.codeIn K cd29 "Net.need" = true) (k29 : PySem.W.keepIn K (.ref f29) = true)
    (a30 : PySem.W.findIn K (.ref C) "give" = some (some (.ref f30))) (i30 : PySem.W.isFn K (.ref f30) = true) (l30 : K.lookup f30 = some ⟨oc30, od30, .func (PySem.W.fnOf "give" "Net.give" (defArgs s_Net_give) (defBody s_Net_give) (defScope s_Net_give) .none kV30 dc30 pm30 an30 cd30 ct30), sl30⟩) (c30 : PySem.W.codeIn K cd30 "Net.give" = true) (k30 : PySem.W.keepIn K (.ref f30) = true)
    (a31 : PySem.W.findIn K (.ref C) "given" = some (some (.ref f31))) (i31 : PySem.W.isFn K (.ref f31) = true) (l31 : K.lookup f31 = some ⟨oc31, od31, .func (PySem.W.fnOf "given" "Net.given" (defArgs s_Net_given) (defBody s_Net_given) (defScope s_Net_given) .none kV31 dc31 pm31 an31 cd31 ct31), sl31⟩) (c31 : PySem.W.codeIn K cd31 "Net.given" = true) (k31 : PySem.W.keepIn K (.ref f31) = true)
    (a32 : PySem.W.findIn K (.ref C) "names" = some (some (.ref f32))) (i32 : PySem.W.isFn K (.ref f32) = true) (l32 : K.lookup f32 = some ⟨oc32, od32, .func (PySem.W.fnOf "names" "Net.names" (defArgs s_Net_names) (defBody s_Net_names) (defScope s_Net_names) .none kV32 dc32 pm32 an32 cd32 ct32), sl32⟩) (c32 : PySem.W.codeIn K cd32 "Net.names" = true) (k32 : PySem.W.keepIn K (.ref f32) = true)
    (a33 : PySem.W.findIn K (.ref C) "gates" = some (some (.ref f33))) (i33 : PySem.W.isFn K (.ref f33) = true) (l33 : K.lookup f33 = some ⟨oc33, od33, .func (PySem.W.fnOf "gates" "Net.gates" (defArgs s_Net_gates) (defBody s_Net_gates) (defScope s_Net_gates) .none kV33 dc33 pm33 an33 cd33 ct33), sl33⟩) (c33 : PySem.W.codeIn K cd33 "Net.gates" = true) (k33 : PySem.W.keepIn K (.ref f33) = true)
    (a34 : PySem.W.findIn K (.ref C) "__len__" = some (some (.ref f34))) (i34 : PySem.W.isFn K (.ref f34) = true) (l34 : K.lookup f34 = some ⟨oc34, od34, .func (PySem.W.fnOf "__len__" "Net.__len__" (defArgs s_Net___len__) (defBody s_Net___len__) (defScope s_Net___len__) .none kV34 dc34 pm34 an34 cd34 ct34), sl34⟩) (c34 : PySem.W.codeIn K cd34 "Net.__len__" = true) (k34 : PySem.W.keepIn K (.ref f34) = true)
    (z1 : PySem.W.nsIn K mainGlobals "len" = some none)
    (z2 : PySem.W.nsIn K mainGlobals "abs" = some none)
    (z3 : PySem.W.nsIn K mainGlobals "int" = some none)
    (z4 : PySem.W.nsIn K mainGlobals "divmod" = some none)
    (z5 : PySem.W.nsIn K mainGlobals "list" = some none)
    (z6 : PySem.W.nsIn K mainGlobals "enumerate" = some none)
    (z7 : PySem.W.nsIn K mainGlobals "isinstance" = some none)
    (z8 : PySem.W.nsIn K mainGlobals "tuple" = some none)
    (z9 : PySem.W.nsIn K mainGlobals "str" = some none)
    (z10 : PySem.W.nsIn K mainGlobals "bool" = some none)
    (z11 : PySem.W.nsIn K mainGlobals "zip" = some none)
    (z12 : PySem.W.nsIn K mainGlobals "all" = some none)
    (z13 : PySem.W.nsIn K mainGlobals "range" = some none)
    (z14 : PySem.W.nsIn K mainGlobals "max" = some none)
    (z15 : PySem.W.nsIn K mainGlobals "any" = some none)
    (z16 : PySem.W.nsIn K mainGlobals "min" = some none)
    (z17 : PySem.W.nsIn K mainGlobals "sum" = some none)
    (zsorted : PySem.W.nsIn K mainGlobals "sorted" = some none)
    : ∃ fd : FuncData, (∀ (s : Shared) (v : Value), BindsTo s fd ⟨[v], []⟩ [("_law_script", v)]) ∧ ∀ base : Heap, K.In base → base.Ns mainGlobals mg → FnOk l.prog w K mg base CX0 12 fa fd ["_law_script"] (spLaw K) := by
  have e := hfa.symm.trans (PySem.W.mg_of X G a20)
  cases e
  have F1 := fun_mk (st := s_settled) l1 c1 k1
  have b1 := F1.binds (ps := ["net", "cube"]) fun _ _ _ _ _ _ us hl => match us, hl with | [_, _], _ => rfl
  have m1 := PySem.W.mg_of X G a1
  have F2 := fun_mk (st := s_gate_sign) l2 c2 k2
  have b2 := F2.binds (ps := ["gate", "signs"]) fun _ _ _ _ _ _ us hl => match us, hl with | [_, _], _ => rfl
  have m2 := PySem.W.mg_of X G a2
  have F3 := fun_mk (st := s_turned_sign) l3 c3 k3
  have b3 := F3.binds (ps := ["sign"]) fun _ _ _ _ _ _ us hl => match us, hl with | [_], _ => rfl
  have m3 := PySem.W.mg_of X G a3
  have F4 := fun_mk (st := s_ruled_sign) l4 c4 k4
  have b4 := F4.binds (ps := ["one", "other", "ruling"]) fun _ _ _ _ _ _ us hl => match us, hl with | [_, _, _], _ => rfl
  have m4 := PySem.W.mg_of X G a4
  have F5 := fun_mk (st := sBox) l5 c5 k5
  have b5 := F5.binds (ps := ["_law_script", "_law_k"]) fun _ _ _ _ _ _ us hl => match us, hl with | [_, _], _ => rfl
  have m5 := PySem.W.mg_of X G a5
  have F6 := fun_mk (st := sTake) l6 c6 k6
  have b6 := F6.binds (ps := ["_law_box_here", "_law_size"]) fun _ _ _ _ _ _ us hl => match us, hl with | [_, _], _ => rfl
  have m6 := PySem.W.mg_of X G a6
  have F7 := fun_mk (st := sFolded) l7 c7 k7
  have b7 := F7.binds (ps := ["_law_script", "_law_size"]) fun _ _ _ _ _ _ us hl => match us, hl with | [_, _], _ => rfl
  have m7 := PySem.W.mg_of X G a7
  have F8 := fun_mk (st := sSame) l8 c8 k8
  have b8 := F8.binds (ps := ["_law_found", "_law_due"]) fun _ _ _ _ _ _ us hl => match us, hl with | [_, _], _ => rfl
  have m8 := PySem.W.mg_of X G a8
  have F9 := fun_mk (st := s__law_gate_rows) l9 c9 k9
  have b9 := F9.binds (ps := ["_law_box_here", "_law_first", "_law_many"]) fun _ _ _ _ _ _ us hl => match us, hl with | [_, _, _], _ => rfl
  have m9 := PySem.W.mg_of X G a9
  have F10 := fun_mk (st := s__law_net) l10 c10 k10
  have b10 := F10.binds (ps := ["_law_first", "_law_rows", "_law_given_here"]) fun _ _ _ _ _ _ us hl => match us, hl with | [_, _, _], _ => rfl
  have m10 := PySem.W.mg_of X G a10
  have F11 := fun_mk (st := s__law_settled) l11 c11 k11
  have b11 := F11.binds (ps := ["_law_rows", "_law_given_here", "_law_cube_here"]) fun _ _ _ _ _ _ us hl => match us, hl with | [_, _, _], _ => rfl
  have m11 := PySem.W.mg_of X G a11
  have F12 := fun_mk (st := s__law_is_open) l12 c12 k12
  have b12 := F12.binds (ps := ["_law_told"]) fun _ _ _ _ _ _ us hl => match us, hl with | [_], _ => rfl
  have m12 := PySem.W.mg_of X G a12
  have F13 := fun_mk (st := s__law_word_of) l13 c13 k13
  have b13 := F13.binds (ps := ["_law_box_here", "_law_some"]) fun _ _ _ _ _ _ us hl => match us, hl with | [_, _], _ => rfl
  have m13 := PySem.W.mg_of X G a13
  have F14 := fun_mk (st := s__law_given) l14 c14 k14
  have b14 := F14.binds (ps := ["_law_box_here", "_law_far"]) fun _ _ _ _ _ _ us hl => match us, hl with | [_, _], _ => rfl
  have m14 := PySem.W.mg_of X G a14
  have F15 := fun_mk (st := s__law_cube) l15 c15 k15
  have b15 := F15.binds (ps := ["_law_box_here", "_law_many"]) fun _ _ _ _ _ _ us hl => match us, hl with | [_, _], _ => rfl
  have m15 := PySem.W.mg_of X G a15
  have F16 := fun_mk (st := s__law_shut) l16 c16 k16
  have b16 := F16.binds (ps := ["_law_box_here", "_law_cube_here"]) fun _ _ _ _ _ _ us hl => match us, hl with | [_, _], _ => rfl
  have m16 := PySem.W.mg_of X G a16
  have F17 := fun_mk (st := s__law_kept) l17 c17 k17
  have b17 := F17.binds (ps := ["_law_one", "_law_other"]) fun _ _ _ _ _ _ us hl => match us, hl with | [_, _], _ => rfl
  have m17 := PySem.W.mg_of X G a17
  have F18 := fun_mk (st := s__law_grown_right) l18 c18 k18
  have b18 := F18.binds (ps := ["_law_box_here", "_law_net_here", "_law_first", "_law_rows", "_law_given_here", "_law_cubes"]) fun _ _ _ _ _ _ us hl => match us, hl with | [_, _, _, _, _, _], _ => rfl
  have m18 := PySem.W.mg_of X G a18
  have F19 := fun_mk (st := s__law_right) l19 c19 k19
  have b19 := F19.binds (ps := ["_law_box_here"]) fun _ _ _ _ _ _ us hl => match us, hl with | [_], _ => rfl
  have m19 := PySem.W.mg_of X G a19
  have F20 := fun_mk (st := s_law) l20 c20 k20
  have F21 := fun_mk (st := s_Net___init__) l21 c21 k21
  have b21 := F21.binds (ps := ["self", "many"]) fun _ _ _ _ _ _ us hl => match us, hl with | [_, _], _ => rfl
  have M21 : Meth K C "__init__" f21 := ⟨a21, i21, k21⟩
  have F22 := fun_mk (st := s_Net_both) l22 c22 k22
  have b22 := F22.binds (ps := ["self", "a", "b"]) fun _ _ _ _ _ _ us hl => match us, hl with | [_, _, _], _ => rfl
  have M22 : Meth K C "both" f22 := ⟨a22, i22, k22⟩
  have F23 := fun_mk (st := s_Net_either) l23 c23 k23
  have b23 := F23.binds (ps := ["self", "a", "b"]) fun _ _ _ _ _ _ us hl => match us, hl with | [_, _, _], _ => rfl
  have M23 : Meth K C "either" f23 := ⟨a23, i23, k23⟩
  have F24 := fun_mk (st := s_Net_unlike) l24 c24 k24
  have b24 := F24.binds (ps := ["self", "a", "b"]) fun _ _ _ _ _ _ us hl => match us, hl with | [_, _, _], _ => rfl
  have M24 : Meth K C "unlike" f24 := ⟨a24, i24, k24⟩
  have F25 := fun_mk (st := s_Net_other) l25 c25 k25
  have b25 := F25.binds (ps := ["self", "a"]) fun _ _ _ _ _ _ us hl => match us, hl with | [_, _], _ => rfl
  have M25 : Meth K C "other" f25 := ⟨a25, i25, k25⟩
  have F26 := fun_mk (st := s_Net_fixed) l26 c26 k26
  have b26 := F26.binds (ps := ["self", "bit"]) fun _ _ _ _ _ _ us hl => match us, hl with | [_, _], _ => rfl
  have M26 : Meth K C "fixed" f26 := ⟨a26, i26, k26⟩
  have F27 := fun_mk (st := s_Net_put) l27 c27 k27
  have b27 := F27.binds (ps := ["self", "kind", "wires"]) fun _ _ _ _ _ _ us hl => match us, hl with | [_, _, _], _ => rfl
  have M27 : Meth K C "put" f27 := ⟨a27, i27, k27⟩
  have F28 := fun_mk (st := s_Net_put_gate) l28 c28 k28
  have b28 := F28.binds (ps := ["self", "gate", "depth"]) fun _ _ _ _ _ _ us hl => match us, hl with | [_, _, _], _ => rfl
  have M28 : Meth K C "put_gate" f28 := ⟨a28, i28, k28⟩
  have F29 := fun_mk (st := s_Net_need) l29 c29 k29
  have b29 := F29.binds (ps := ["self", "wires"]) fun _ _ _ _ _ _ us hl => match us, hl with | [_, _], _ => rfl
  have M29 : Meth K C "need" f29 := ⟨a29, i29, k29⟩
  have F30 := fun_mk (st := s_Net_give) l30 c30 k30
  have b30 := F30.binds (ps := ["self", "name", "wires"]) fun _ _ _ _ _ _ us hl => match us, hl with | [_, _, _], _ => rfl
  have M30 : Meth K C "give" f30 := ⟨a30, i30, k30⟩
  have F31 := fun_mk (st := s_Net_given) l31 c31 k31
  have b31 := F31.binds (ps := ["self", "name"]) fun _ _ _ _ _ _ us hl => match us, hl with | [_, _], _ => rfl
  have M31 : Meth K C "given" f31 := ⟨a31, i31, k31⟩
  have F32 := fun_mk (st := s_Net_names) l32 c32 k32
  have b32 := F32.binds (ps := ["self"]) fun _ _ _ _ _ _ us hl => match us, hl with | [_], _ => rfl
  have M32 : Meth K C "names" f32 := ⟨a32, i32, k32⟩
  have F33 := fun_mk (st := s_Net_gates) l33 c33 k33
  have b33 := F33.binds (ps := ["self"]) fun _ _ _ _ _ _ us hl => match us, hl with | [_], _ => rfl
  have M33 : Meth K C "gates" f33 := ⟨a33, i33, k33⟩
  have F34 := fun_mk (st := s_Net___len__) l34 c34 k34
  have b34 := F34.binds (ps := ["self"]) fun _ _ _ _ _ _ us hl => match us, hl with | [_], _ => rfl
  have M34 : Meth K C "__len__" f34 := ⟨a34, i34, k34⟩
  have clC : Cls K C := ⟨pgC, hdC, poC, saC⟩
  have mgC := PySem.W.mg_of X G aC
  have B : Bl mg := ⟨PySem.W.mg_none_of X G z1, PySem.W.mg_none_of X G z2, PySem.W.mg_none_of X G z3, PySem.W.mg_none_of X G z4, PySem.W.mg_none_of X G z5, PySem.W.mg_none_of X G z6, PySem.W.mg_none_of X G z7, PySem.W.mg_none_of X G z8, PySem.W.mg_none_of X G z9, PySem.W.mg_none_of X G z10, PySem.W.mg_none_of X G z11, PySem.W.mg_none_of X G z12, PySem.W.mg_none_of X G z13, PySem.W.mg_none_of X G z14, PySem.W.mg_none_of X G z15, PySem.W.mg_none_of X G z16, PySem.W.mg_none_of X G z17⟩
  refine ⟨PySem.W.fnOf "law" "law" (defArgs s_law) (defBody s_law) (defScope s_law) .none kV20 dc20 pm20 an20 cd20 ct20, fun s v => .of_eq rfl, fun base _ _ => ?_⟩
  have L : LL K mg C (pkz f1 [f2, f3, f4, f5, f6, f7, f8, f9, f10, f11, f12, f13, f14, f15, f16, f17, f18, f19, f21, f22, f23, f24, f25, f26, f27, f28, f29, f30, f31, f32, f33, f34]) (pkz _ [_, _, _, _, _, _, _, _, _, _, _, _, _, _, _, _, _, _, _, _, _, _, _, _, _, _, _, _, _, _, _, _])  := ⟨F1, m1, b1, F2, m2, b2, F3, m3, b3, F4, m4, b4, F5, m5, b5, F6, m6, b6, F7, m7, b7, F8, m8, b8, F9, m9, b9, F10, m10, b10, F11, m11, b11, F12, m12, b12, F13, m13, b13, F14, m14, b14, F15, m15, b15, F16, m16, b16, F17, m17, b17, F18, m18, b18, F19, m19, b19, ⟨clC, naC0, naC1, naC2, naC3, mgC⟩, ⟨mkC, a21, i21, kcC⟩, F21, b21, F22, b22, M22, F23, b23, M23, F24, b24, M24, F25, b25, M25, F26, b26, M26, F27, b27, M27, F28, b28, M28, F29, b29, M29, F30, b30, M30, F31, b31, M31, F32, b32, M32, F33, b33, M33, F34, b34, M34, PySem.W.mg_none_of X G zsorted⟩
  exact ok_law F20 B L
end GZ
open PySem PySem.W PyProof.Rows
set_option maxRecDepth 100000 in
set_option maxHeartbeats 0 in
theorem PySem.Challenge.cw_guessedzeros_k60_settled_wires_holds : PySem.Challenge.rw_guessedzeros_k60_settled_wires.Holds := by
  w_on; o_law; k_headLK; (case hw => w_witness2)
  k_fill
  refine L2.walk_of (l := PySem.Challenge.rw_guessedzeros_k60_settled_wires) (n := 63) (k := 12) (x := "_law_script") (CX := fun _ => L2.CX0) (sp := fun w => GZ.spLaw _) rfl (by decide) rfl ⟨rfl, by decide, by decide⟩ (fun w h Y => PySem.W.kIn_of Y) ?F (fun _ _ a ns hl _ hS => ⟨a, ns, rfl, hS, hl, fun _ => rfl⟩) (fun _ _ _ _ _ h => h)
  case F =>
    intro w mg fa h KX G hmg
    refine' GZ.all_mk KX G hmg ?a1 ?l1 ?c1 ?k1 ?a2 ?l2 ?c2 ?k2 ?a3 ?l3 ?c3 ?k3 ?a4 ?l4 ?c4 ?k4 ?a5 ?l5 ?c5 ?k5 ?a6 ?l6 ?c6 ?k6 ?a7 ?l7 ?c7 ?k7 ?a8 ?l8 ?c8 ?k8 ?a9 ?l9 ?c9 ?k9 ?a10 ?l10 ?c10 ?k10 ?a11 ?l11 ?c11 ?k11 ?a12 ?l12 ?c12 ?k12 ?a13 ?l13 ?c13 ?k13 ?a14 ?l14 ?c14 ?k14 ?a15 ?l15 ?c15 ?k15 ?a16 ?l16 ?c16 ?k16 ?a17 ?l17 ?c17 ?k17 ?a18 ?l18 ?c18 ?k18 ?a19 ?l19 ?c19 ?k19 ?a20 ?l20 ?c20 ?k20 ?aC ?pgC ?hdC ?poC ?saC ?mkC ?kcC ?naC0 ?naC1 ?naC2 ?naC3 ?a21 ?i21 ?l21 ?c21 ?k21 ?a22 ?i22 ?l22 ?c22 ?k22 ?a23 ?i23 ?l23 ?c23 ?k23 ?a24 ?i24 ?l24 ?c24 ?k24 ?a25 ?i25 ?l25 ?c25 ?k25 ?a26 ?i26 ?l26 ?c26 ?k26 ?a27 ?i27 ?l27 ?c27 ?k27 ?a28 ?i28 ?l28 ?c28 ?k28 ?a29 ?i29 ?l29 ?c29 ?k29 ?a30 ?i30 ?l30 ?c30 ?k30 ?a31 ?i31 ?l31 ?c31 ?k31 ?a32 ?i32 ?l32 ?c32 ?k32 ?a33 ?i33 ?l33 ?c33 ?k33 ?a34 ?i34 ?l34 ?c34 ?k34 ?z1 ?z2 ?z3 ?z4 ?z5 ?z6 ?z7 ?z8 ?z9 ?z10 ?z11 ?z12 ?z13 ?z14 ?z15 ?z16 ?z17 ?zsorted
    (case a1 => k_is)
    (case l1 => k_is)
    (case c1 => k_is)
    (case k1 => k_is)
    (case a2 => k_is)
    (case l2 => k_is)
    (case c2 => k_is)
    (case k2 => k_is)
    (case a3 => k_is)
    (case l3 => k_is)
    (case c3 => k_is)
    (case k3 => k_is)
    (case a4 => k_is)
    (case l4 => k_is)
    (case c4 => k_is)
    (case k4 => k_is)
    (case a5 => k_is)
    (case l5 => k_is)
    (case c5 => k_is)
    (case k5 => k_is)
    (case a6 => k_is)
    (case l6 => k_is)
    (case c6 => k_is)
    (case k6 => k_is)
    (case a7 => k_is)
    (case l7 => k_is)
    (case c7 => k_is)
    (case k7 => k_is)
    (case a8 => k_is)
    (case l8 => k_is)
    (case c8 => k_is)
    (case k8 => k_is)
    (case a9 => k_is)
    (case l9 => k_is)
    (case c9 => k_is)
    (case k9 => k_is)
    (case a10 => k_is)
    (case l10 => k_is)
    (case c10 => k_is)
    (case k10 => k_is)
    (case a11 => k_is)
    (case l11 => k_is)
    (case c11 => k_is)
    (case k11 => k_is)
    (case a12 => k_is)
    (case l12 => k_is)
    (case c12 => k_is)
    (case k12 => k_is)
    (case a13 => k_is)
    (case l13 => k_is)
    (case c13 => k_is)
    (case k13 => k_is)
    (case a14 => k_is)
    (case l14 => k_is)
    (case c14 => k_is)
    (case k14 => k_is)
    (case a15 => k_is)
    (case l15 => k_is)
    (case c15 => k_is)
    (case k15 => k_is)
    (case a16 => k_is)
    (case l16 => k_is)
    (case c16 => k_is)
    (case k16 => k_is)
    (case a17 => k_is)
    (case l17 => k_is)
    (case c17 => k_is)
    (case k17 => k_is)
    (case a18 => k_is)
    (case l18 => k_is)
    (case c18 => k_is)
    (case k18 => k_is)
    (case a19 => k_is)
    (case l19 => k_is)
    (case c19 => k_is)
    (case k19 => k_is)
    (case a20 => k_is)
    (case l20 => k_is)
    (case c20 => k_is)
    (case k20 => k_is)
    (case aC => k_is)
    (case pgC => k_is)
    (case hdC => k_is)
    (case poC => k_is)
    (case saC => k_is)
    (case mkC => k_is)
    (case kcC => k_is)
    (case naC0 => k_is)
    (case naC1 => k_is)
    (case naC2 => k_is)
    (case naC3 => k_is)
    (case a21 => k_is)
    (case i21 => k_is)
    (case l21 => k_is)
    (case c21 => k_is)
    (case k21 => k_is)
    (case a22 => k_is)
    (case i22 => k_is)
    (case l22 => k_is)
    (case c22 => k_is)
    (case k22 => k_is)
    (case a23 => k_is)
    (case i23 => k_is)
    (case l23 => k_is)
    (case c23 => k_is)
    (case k23 => k_is)
    (case a24 => k_is)
    (case i24 => k_is)
    (case l24 => k_is)
    (case c24 => k_is)
    (case k24 => k_is)
    (case a25 => k_is)
    (case i25 => k_is)
    (case l25 => k_is)
    (case c25 => k_is)
    (case k25 => k_is)
    (case a26 => k_is)
    (case i26 => k_is)
    (case l26 => k_is)
    (case c26 => k_is)
    (case k26 => k_is)
    (case a27 => k_is)
    (case i27 => k_is)
    (case l27 => k_is)
    (case c27 => k_is)
    (case k27 => k_is)
    (case a28 => k_is)
    (case i28 => k_is)
    (case l28 => k_is)
    (case c28 => k_is)
    (case k28 => k_is)
    (case a29 => k_is)
    (case i29 => k_is)
    (case l29 => k_is)
    (case c29 => k_is)
    (case k29 => k_is)
    (case a30 => k_is)
    (case i30 => k_is)
    (case l30 => k_is)
    (case c30 => k_is)
    (case k30 => k_is)
    (case a31 => k_is)
    (case i31 => k_is)
    (case l31 => k_is)
    (case c31 => k_is)
    (case k31 => k_is)
    (case a32 => k_is)
    (case i32 => k_is)
    (case l32 => k_is)
    (case c32 => k_is)
    (case k32 => k_is)
    (case a33 => k_is)
    (case i33 => k_is)
    (case l33 => k_is)
    (case c33 => k_is)
    (case k33 => k_is)
    (case a34 => k_is)
    (case i34 => k_is)
    (case l34 => k_is)
    (case c34 => k_is)
    (case k34 => k_is)
    (case z1 => k_is)
    (case z2 => k_is)
    (case z3 => k_is)
    (case z4 => k_is)
    (case z5 => k_is)
    (case z6 => k_is)
    (case z7 => k_is)
    (case z8 => k_is)
    (case z9 => k_is)
    (case z10 => k_is)
    (case z11 => k_is)
    (case z12 => k_is)
    (case z13 => k_is)
    (case z14 => k_is)
    (case z15 => k_is)
    (case z16 => k_is)
    (case z17 => k_is)
    (case zsorted => k_is)

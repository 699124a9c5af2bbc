import PyProof.Rows.All
import Wide.All
import OpenK.AllK
import Wide.FinOn
import HandS.ForMost
import HandS.Codes
import HandS.IsInst
import HandS.More
import HandS.EndBits
import PySem.Challenge.RW_hermitcell_k21_words_of_tables
set_option Elab.async false
set_option maxRecDepth 100000
set_option maxHeartbeats 4000000
set_option linter.all false
namespace Hc
open PySem PySem.Spec PyProof.Rows L2
/-! ### words over the layer -/
theorem bt_type : bootBuiltins "type" = some (.type "type") := by decide +kernel
theorem bt_int : bootBuiltins "int" = some (.type "int") := by decide +kernel
theorem bt_str : bootBuiltins "str" = some (.type "str") := by decide +kernel
theorem bt_bool : bootBuiltins "bool" = some (.type "bool") := by decide +kernel
theorem bt_tuple : bootBuiltins "tuple" = some (.type "tuple") := by decide +kernel
theorem bt_list : bootBuiltins "list" = some (.type "list") := by decide +kernel
theorem bt_len : bootBuiltins "len" = some (.builtin "len") := by decide +kernel
theorem bt_abs : bootBuiltins "abs" = some (.builtin "abs") := by decide +kernel
theorem bt_isinstance : bootBuiltins "isinstance" = some (.builtin "isinstance") := by decide +kernel
/-- the kind's name of plain data -/
def tn : PyData → String
  | .none => "NoneType" | .bool _ => "bool" | .int _ => "int" | .str _ => "str" | .list _ => "list" | .tuple _ => "tuple" | .dict _ => "dict"
section
variable {K : PySem.W.Frag} {H H' : Hp}
theorem dp_ty {x : V} {d : PyData} (h : Dp K H x d) : TyB K H x (tn d) := by
  cases h with
  | non => exact .non
  | bl b => exact .bl b
  | int i => exact .int i
  | str s => exact .str s
  | lst h _ => exact .lst h
  | tup h _ => exact .tup h
theorem dp_tyX {x : V} {d : PyData} (h : Dp K H x d) : TyX K H x (.type (tn d)) := by
  cases h with
  | non => exact .base .non
  | bl b => exact .base (.bl b)
  | int i => exact .base (.int i)
  | str s => exact .base (.str s)
  | lst h _ =>
    rcases h with (h | ⟨o, h⟩) | ⟨o, its, n, h1, h2, _⟩
    · exact .base (.lst h)
    · exact .base (.frz h)
    · exact .kList h1 h2
  | tup h _ =>
    rcases h with (h | ⟨o, h⟩) | ⟨o, its, n, h1, h2, _⟩
    · exact .base (.tup h)
    · exact .fTuple h
    · exact .kTuple h1 h2
theorem same_t {a : Addr} {xs : List V} (e : Same H H') (h : SqT K H a xs) : SqT K H' a xs := by
  rcases h with (h | ⟨o, h⟩) | h
  · exact .inl (.inl (e _ _ h))
  · exact .inl (.inr ⟨o, e _ _ h⟩)
  · exact .inr h
/-- type(x) -/
def rTyD (K : PySem.W.Frag) : List V → Hp → VK → Prop := fun xs H Q => ∃ x d, xs = [x] ∧ Dp K H x d ∧ Q (.ty (tn d)) H
/-- isinstance(x, T) of a built-in T -/
def rIsD (K : PySem.W.Frag) : List V → Hp → VK → Prop := fun xs H Q => ∃ x n d b, xs = [x, .ty n] ∧ Dp K H x d ∧ kitB (tn d) n = some b ∧ Q (.bl b) H
/-- len of a list or a tuple -/
def rLn (K : PySem.W.Frag) : List V → Hp → VK → Prop := fun xs H Q => ∃ p ys, xs = [.ref p] ∧ (SqL K H p ys ∨ SqT K H p ys) ∧ Q (.int ys.length) H
/-- xs[i] of a list, by values, for xs[i] op= e -/
def rGetL (K : PySem.W.Frag) : V → V → Hp → VK → Prop := fun x y H Q => ∃ p xs j v, x = .ref p ∧ y = .int ((j : Nat) : Int) ∧ SqL K H p xs ∧ xs[j]? = some v ∧ Q v H
end
section
variable {X : Cx}
theorem call_typeD : CallR X (.type "type") (rTyD X.K) := fun pins s σ H xs us Q I r h => by
  obtain ⟨x, d, e, t, q⟩ := h
  exact call_type1 pins s σ H xs us Q I r ⟨x, tn d, e, dp_ty t, q⟩
theorem call_isiD : CallR X (.builtin "isinstance") (rIsD X.K) := fun pins s σ H xs us Q I r h => by
  obtain ⟨x, n, d, b, e, t, k, q⟩ := h
  exact call_isi pins s σ H xs us Q I r ⟨x, .ty n, _, _, b, e, .ty n, dp_tyX t, kit_ty k, q⟩
theorem call_lenS : CallR X (.builtin "len") (rLn X.K) := call_len_seq
theorem op_isTyD : OpR X (compareOp .Is) (fun x y H Q => ∃ m n, x = .ty m ∧ y = .ty n ∧ Q (.bl (decide (m = n))) H) := op_isTy
theorem pget_list : PGet X (rGetL X.K) := by
  intro pins s σ H o i ov iv Q I ro ri h
  obtain ⟨p, xs, j, v, rfl, rfl, hq, he, q⟩ := h
  cases ro
  obtain ⟨t, rfl⟩ := ri
  obtain ⟨its, r, pl, hz⟩ := I.list hq
  obtain ⟨w, ew, rw'⟩ := r.get he
  have hj := (List.getElem?_eq_some_iff.mp he).1
  have hn := line63
  exact wpAny_getItem_list pl.isList (by omega) (by omega) (by simpa using ew) ⟨v, H, I, rw', q⟩
end
end Hc

namespace Hc
open PySem PySem.Spec PyProof.Rows L2
def top (i : Nat) : Stmt := PySem.Challenge.pw_hermitcell_k21_words_of_tables.main.body.getD i (.Pass ⟨0, 0, 0, 0⟩)
theorem ifT {p A B : Prop} [Decidable p] (hp : p) (h : A) : if decide p = true then A else B := by
  rw [decide_eq_true hp]; exact iteT h
theorem ifF {p A B : Prop} [Decidable p] (hp : ¬ p) (h : B) : if decide p = true then A else B := by
  rw [decide_eq_false hp]; exact iteF h
theorem bT {b : Bool} {A B : Prop} (hb : b = true) (h : A) : if b = true then A else B := by
  rw [hb]; exact iteT h
theorem bF {b : Bool} {A B : Prop} (hb : b = false) (h : B) : if b = true then A else B := by
  rw [hb]; exact iteF h
/-! ### what the defs tell, of plain data -/
def isNum : PyData → Bool | .int i => decide (-2147483648 ≤ i) && decide (i ≤ 2147483647) | _ => false
def isBelow (d : PyData) (m : Int) : Bool := match d with | .int i => decide (0 ≤ i) && decide (i < m) | _ => false
def isStr (d : PyData) (s : Str) : Bool := match d with | .str t => decide (t = s) | _ => false
def isForm (d : PyData) (s : Str) (m : Int) : Bool := match d with | .tuple (e :: r) => decide (((r.length + 1 : Nat) : Int) = m) && isStr e s | _ => false
def isGran (d : PyData) : Bool := isBelow d 24
def isOneP : PyData → Bool | .int i => isNum (.int i) && decide (0 < i) | _ => false
def isOneL : PyData → Bool | .int i => decide (0 < i) | _ => false
def isNone : PyData → Bool | .none => true | _ => false
def isPair (d : PyData) (s : Str) : Bool := match d with | .tuple [e, g] => isStr e s && isGran g | _ => false
def leav (one : PyData → Bool) (d : PyData) : Bool := match d with | .tuple [e, g, n] => isStr e "leaving" && isGran g && (isNone n || one n) | _ => false
def outs (one : PyData → Bool) (d : PyData) : Bool := match d with | .tuple [e, n] => isStr e "out" && one n | _ => false
def granV (s : Str) : PyData → V | .tuple [e, .int g] => if (isStr e s && isGran (.int g)) = true then .int g else .non | _ => .non
abbrev leafV : PyData → V := granV "table"
def isRoot (one : PyData → Bool) (d : PyData) : Bool := isNone d || isPair d "table" || leav one d
def isEntry (one : PyData → Bool) (d : PyData) : Bool := isNone d || isPair d "data" || isPair d "shared" || leav one d || outs one d || isStr d "destroyed"
/-! ### what the top has -/
structure Txt (mg : Str → Option Value) : Prop where
  z_type : mg "type" = none
  z_int : mg "int" = none
  z_str : mg "str" = none
  z_bool : mg "bool" = none
  z_tuple : mg "tuple" = none
  z_list : mg "list" = none
  z_len : mg "len" = none
  z_abs : mg "abs" = none
  z_range : mg "range" = none
  z_isinstance : mg "isinstance" = none
  c_LEAST : ∃ u, mg "LEAST" = some u ∧ RelV (.int (-2147483648)) u
  c_GREATEST : ∃ u, mg "GREATEST" = some u ∧ RelV (.int 2147483647) u
  c_GRANULES : ∃ u, mg "GRANULES" = some u ∧ RelV (.int 24) u
  c_WORDS : ∃ u, mg "WORDS" = some u ∧ RelV (.int 4) u
def spB (K : PySem.W.Frag) (f : PyData → Bool) : Sp := fun vs H Q _ => ∃ x d, vs = [x] ∧ Dp K H x d ∧ Q (.bl (f d)) H
def spForm (K : PySem.W.Frag) : Sp := fun vs H Q _ => ∃ x d s m, vs = [x, .str s, .int m] ∧ Dp K H x d ∧ 0 < m ∧ Q (.bl (isForm d s m)) H
def spBelow (K : PySem.W.Frag) : Sp := fun vs H Q _ => ∃ x d m, vs = [x, .int m] ∧ Dp K H x d ∧ Q (.bl (isBelow d m)) H
def spGran (K : PySem.W.Frag) : Sp := fun vs H Q _ => ∃ x d s, vs = [x, .str s] ∧ Dp K H x d ∧ Q (granV s d) H
def spLeaf (K : PySem.W.Frag) : Sp := fun vs H Q _ => ∃ x d, vs = [x] ∧ Dp K H x d ∧ Q (leafV d) H
section
variable {P : Program} {w : World} {K : PySem.W.Frag} {mg : Str → Option Value} {base : Heap} {f : Addr} {fd : FuncData}
theorem dpa_len {H : Hp} : ∀ {xs : List V} {ds : List PyData}, DpAll K H xs ds → xs.length = ds.length
  | _, _, .nil => rfl
  | _, _, .cons _ t => congrArg (· + 1) (dpa_len t)
abbrev s_is_number : Stmt := top 3
theorem sc_is_number : FnScope ["value"] ["value"] (C8.fnScope s_is_number) := C8.fnScope_by (by decide +kernel)
theorem ok_is_number (F : C8.Def K mg "is_number" s_is_number f fd) (b : Binds K fd ["value"] []) (T : Txt mg) : C8.Cal P w K mg base 1 "is_number" (spB K isNum) [] := by
  refine C8.cal0 F b .nil sc_is_number (fun vs H Q E h => ?_) (fun cdv A outer s H vs Q E hr h => ?_)
  · obtain ⟨x, d, rfl, _⟩ := h; rfl
  obtain ⟨x, d, rfl, hx, q⟩ := h
  refine ⟨_, (pss_one (ps_ret (pe_and (pe_cmpR op_isTyD (pe_callTy call_typeD rfl T.z_type bt_type (pa_cons (pv 0) pa_nil)) (pe_bltn (v := .ty "int") rfl T.z_int bt_int rfl) (nomark _)) (pe_one (pe_chain op_le op_le (C8.pe_gc rfl T.c_LEAST) (pv 0) (C8.pe_gc rfl T.c_GREATEST)))))), ?_⟩
  refine ⟨x, rfl, x, d, rfl, hx, _, _, rfl, rfl, _, rfl, ?_⟩
  cases hx with
  | int i =>
    refine ifT rfl ⟨_, rfl, _, _, rfl, rfl, _, rfl, ite2 (fun c => ?_) (fun c => ?_)⟩
    · refine ⟨_, _, rfl, rfl, ?_⟩
      have e : isNum (.int i) = decide (i ≤ 2147483647) := by simp [isNum, of_decide_eq_true c]
      rw [e] at q; exact q
    · have e : isNum (.int i) = false := by simp [isNum] at c ⊢; omega
      rw [e] at q; exact q
  | _ => exact ifF (by simp [tn]) q
abbrev s__is_below : Stmt := top 9
theorem sc__is_below : FnScope ["value", "many"] ["value", "many"] (C8.fnScope s__is_below) := C8.fnScope_by (by decide +kernel)
theorem ok__is_below (F : C8.Def K mg "_is_below" s__is_below f fd) (b : Binds K fd ["value", "many"] []) (T : Txt mg) : C8.Cal P w K mg base 1 "_is_below" (spBelow K) [] := by
  refine C8.cal0 F b .nil sc__is_below (fun vs H Q E h => ?_) (fun cdv A outer s H vs Q E hr h => ?_)
  · obtain ⟨x, d, m, rfl, _⟩ := h; rfl
  obtain ⟨x, d, m, rfl, hx, q⟩ := h
  refine ⟨_, (pss_one (ps_ret (pe_and (pe_cmpR op_isTyD (pe_callTy call_typeD rfl T.z_type bt_type (pa_cons (pv 0) pa_nil)) (pe_bltn (v := .ty "int") rfl T.z_int bt_int rfl) (nomark _)) (pe_one (pe_chain op_le op_lt pe_int (pv 0) (pv 1)))))), ?_⟩
  refine ⟨x, rfl, x, d, rfl, hx, _, _, rfl, rfl, _, rfl, ?_⟩
  cases hx with
  | int i =>
    refine ifT rfl ⟨_, rfl, _, _, rfl, rfl, _, rfl, ite2 (fun c => ?_) (fun c => ?_)⟩
    · refine ⟨_, rfl, _, _, rfl, rfl, ?_⟩
      have e : isBelow (.int i) m = decide (i < m) := by simp [isBelow, of_decide_eq_true c]
      rw [e] at q; exact q
    · have e : isBelow (.int i) m = false := by simp [isBelow] at c ⊢; omega
      rw [e] at q; exact q
  | _ => exact ifF (by simp [tn]) q
abbrev s_is_form : Stmt := top 4
theorem sc_is_form : FnScope ["value", "name", "many"] ["value", "name", "many"] (C8.fnScope s_is_form) := C8.fnScope_by (by decide +kernel)
theorem ok_is_form (F : C8.Def K mg "is_form" s_is_form f fd) (b : Binds K fd ["value", "name", "many"] []) (T : Txt mg) : C8.Cal P w K mg base 1 "is_form" (spForm K) [] := by
  refine C8.cal0 F b .nil sc_is_form (fun vs H Q E h => ?_) (fun cdv A outer s H vs Q E hr h => ?_)
  · obtain ⟨x, d, s, m, rfl, _⟩ := h; rfl
  obtain ⟨x, d, z, m, rfl, hx, hm, q⟩ := h
  refine ⟨_, (pss_one (ps_ret (pe_and (pe_cmpR op_isTyD (pe_callTy call_typeD rfl T.z_type bt_type (pa_cons (pv 0) pa_nil)) (pe_bltn (v := .ty "tuple") rfl T.z_tuple bt_tuple rfl) (nomark _)) (pe_and (pe_cmpR op_eq (pe_callB call_lenS rfl T.z_len bt_len (pa_cons (pv 0) pa_nil)) (pv 2) (nomark _)) (pe_and (pe_cmpR op_isTyD (pe_callTy call_typeD rfl T.z_type bt_type (pa_cons (pe_ix ix_tup (pv 0) pe_int (fun _ _ => rfl)) pa_nil)) (pe_bltn (v := .ty "str") rfl T.z_str bt_str rfl) (nomark _)) (pe_one (pe_cmpR op_eq (pe_ix ix_tup (pv 0) pe_int (fun _ _ => rfl)) (pv 1) (nomark _)))))))), ?_⟩
  refine ⟨x, rfl, x, d, rfl, hx, _, _, rfl, rfl, _, rfl, ?_⟩
  cases hx with
  | @tup a xs ds ht ha =>
    refine ifT rfl ⟨_, rfl, a, xs, rfl, .inr ht, _, rfl, rfl, _, rfl, ite2 (fun c => ?_) (fun c => ?_)⟩
    · have c' : ((xs.length : Nat) : Int) = m := V.int.inj (of_decide_eq_true c)
      cases ha with
      | nil => simp at c'; omega
      | @cons v vs e r he hr' =>
        have hl := dpa_len hr'
        refine ⟨_, rfl, a, _, 0, _, rfl, rfl, ht, atI_nat (j := 0) rfl, v, e, rfl, he, _, _, rfl, rfl, _, rfl, ?_⟩
        cases he with
        | str t =>
          refine ifT rfl ⟨_, rfl, a, _, 0, _, rfl, rfl, ht, atI_nat (j := 0) rfl, _, rfl, rfl, ?_⟩
          have e2 : isForm (.tuple (.str t :: r)) z m = decide (V.str t = V.str z) := by
            simp only [isForm, isStr]
            rw [decide_eq_true (by rw [← c', List.length_cons, hl])]
            simp
          rw [e2] at q; exact q
        | _ => exact ifF (by simp [tn]) (by simpa [isForm, isStr] using q)
    · have e : isForm (.tuple ds) z m = false := by
        cases ha with
        | nil => rfl
        | @cons v vs e r he hr' =>
          have hl := dpa_len hr'
          simp only [isForm]
          rw [decide_eq_false (fun z => c (decide_eq_true (by rw [← z, List.length_cons, hl])))]
          rfl
      rw [e] at q; exact q
  | _ => exact ifF (by simp [tn]) q
end
end Hc

namespace Hc
open PySem PySem.Spec PyProof.Rows L2
theorem form_inv {d : PyData} {s : Str} {m : Int} (h : isForm d s m = true) : ∃ e r, d = .tuple (e :: r) ∧ ((r.length + 1 : Nat) : Int) = m ∧ isStr e s = true := by
  unfold isForm at h
  split at h
  · rename_i e r
    rw [Bool.and_eq_true, decide_eq_true_eq] at h
    exact ⟨e, r, rfl, h.1, h.2⟩
  · cases h
theorem form2 {d : PyData} {s : Str} (h : isForm d s 2 = true) : ∃ e g, d = .tuple [e, g] ∧ isStr e s = true := by
  obtain ⟨e, r, rfl, hl, hs⟩ := form_inv h
  match r, hl with
  | [g], _ => exact ⟨e, g, rfl, hs⟩
  | [], hl => simp at hl
  | _ :: _ :: _, hl => simp at hl; omega
theorem form3 {d : PyData} {s : Str} (h : isForm d s 3 = true) : ∃ e g n, d = .tuple [e, g, n] ∧ isStr e s = true := by
  obtain ⟨e, r, rfl, hl, hs⟩ := form_inv h
  match r, hl with
  | [g, n], _ => exact ⟨e, g, n, rfl, hs⟩
  | [], hl => simp at hl
  | [_], hl => simp at hl
  | _ :: _ :: _ :: _, hl => simp at hl; omega
section
variable {K : PySem.W.Frag} {H : Hp}
theorem dp2 {x : V} {e g : PyData} (h : Dp K H x (.tuple [e, g])) : ∃ a y z, x = .ref a ∧ SqT K H a [y, z] ∧ Dp K H y e ∧ Dp K H z g := by
  cases h with
  | tup h t =>
    cases t with
    | cons h1 t =>
      cases t with
      | cons h2 t => cases t; exact ⟨_, _, _, rfl, h, h1, h2⟩
theorem dp3 {x : V} {e g n : PyData} (h : Dp K H x (.tuple [e, g, n])) : ∃ a y z u, x = .ref a ∧ SqT K H a [y, z, u] ∧ Dp K H y e ∧ Dp K H z g ∧ Dp K H u n := by
  cases h with
  | tup h t =>
    cases t with
    | cons h1 t =>
      cases t with
      | cons h2 t =>
        cases t with
        | cons h3 t => cases t; exact ⟨_, _, _, _, rfl, h, h1, h2, h3⟩
/-- x is None -/
theorem dp_non {x : V} {d : PyData} (h : Dp K H x d) : decide (x = V.non) = isNone d := by
  cases h <;> simp [isNone]
end
theorem gran_pair (s : Str) (d : PyData) : (!decide (granV s d = V.non)) = isPair d s := by
  have h : granV s d = .non ↔ isPair d s = false := by
    unfold granV
    split
    · rename_i e' g
      show _ ↔ (isStr e' s && isGran (PyData.int g)) = false
      by_cases h : (isStr e' s && isGran (PyData.int g)) = true
      · rw [if_pos h, h]; simp
      · rw [if_neg h]; simp [Bool.eq_false_iff.mpr h]
    · rename_i hne
      refine ⟨fun _ => ?_, fun _ => rfl⟩
      unfold isPair
      split
      · rename_i e' g
        cases g with
        | int i => exact absurd rfl (hne e' i)
        | _ => simp [isGran, isBelow]
      · rfl
  cases hp : isPair d s with
  | true => rw [decide_eq_false (fun z => by rw [h.mp z] at hp; cases hp)]; rfl
  | false => rw [decide_eq_true (h.mpr hp)]; rfl
theorem leaf_pair (d : PyData) : (!decide (leafV d = V.non)) = isPair d "table" := gran_pair "table" d
theorem kit_int (d : PyData) : kitB (tn d) "int" = some (match d with | .int _ => true | .bool _ => true | _ => false) := by
  cases d with
  | none => exact (show kitB "NoneType" "int" = some false by decide +kernel)
  | bool _ => exact (show kitB "bool" "int" = some true by decide +kernel)
  | int _ => exact (show kitB "int" "int" = some true by decide +kernel)
  | str _ => exact (show kitB "str" "int" = some false by decide +kernel)
  | list _ => exact (show kitB "list" "int" = some false by decide +kernel)
  | tuple _ => exact (show kitB "tuple" "int" = some false by decide +kernel)
  | dict _ => exact (show kitB "dict" "int" = some false by decide +kernel)
theorem kit_bool (d : PyData) : kitB (tn d) "bool" = some (match d with | .bool _ => true | _ => false) := by
  cases d with
  | none => exact (show kitB "NoneType" "bool" = some false by decide +kernel)
  | bool _ => exact (show kitB "bool" "bool" = some true by decide +kernel)
  | int _ => exact (show kitB "int" "bool" = some false by decide +kernel)
  | str _ => exact (show kitB "str" "bool" = some false by decide +kernel)
  | list _ => exact (show kitB "list" "bool" = some false by decide +kernel)
  | tuple _ => exact (show kitB "tuple" "bool" = some false by decide +kernel)
  | dict _ => exact (show kitB "dict" "bool" = some false by decide +kernel)
theorem kit_str (d : PyData) : kitB (tn d) "str" = some (match d with | .str _ => true | _ => false) := by
  cases d with
  | none => exact (show kitB "NoneType" "str" = some false by decide +kernel)
  | bool _ => exact (show kitB "bool" "str" = some false by decide +kernel)
  | int _ => exact (show kitB "int" "str" = some false by decide +kernel)
  | str _ => exact (show kitB "str" "str" = some true by decide +kernel)
  | list _ => exact (show kitB "list" "str" = some false by decide +kernel)
  | tuple _ => exact (show kitB "tuple" "str" = some false by decide +kernel)
  | dict _ => exact (show kitB "dict" "str" = some false by decide +kernel)
theorem kit_tuple (d : PyData) : kitB (tn d) "tuple" = some (match d with | .tuple _ => true | _ => false) := by
  cases d with
  | none => exact (show kitB "NoneType" "tuple" = some false by decide +kernel)
  | bool _ => exact (show kitB "bool" "tuple" = some false by decide +kernel)
  | int _ => exact (show kitB "int" "tuple" = some false by decide +kernel)
  | str _ => exact (show kitB "str" "tuple" = some false by decide +kernel)
  | list _ => exact (show kitB "list" "tuple" = some false by decide +kernel)
  | tuple _ => exact (show kitB "tuple" "tuple" = some true by decide +kernel)
  | dict _ => exact (show kitB "dict" "tuple" = some false by decide +kernel)
section
variable {P : Program} {w : World} {K : PySem.W.Frag} {mg : Str → Option Value} {base : Heap} {f : Addr} {fd : FuncData}
abbrev s_is_granule : Stmt := top 8
theorem sc_is_granule : FnScope ["value"] ["value"] (C8.fnScope s_is_granule) := C8.fnScope_by (by decide +kernel)
theorem ok_is_granule (F : C8.Def K mg "is_granule" s_is_granule f fd) (b : Binds K fd ["value"] []) (T : Txt mg) (c__is_below : C8.Cal P w K mg base 1 "_is_below" (spBelow K) []) : C8.Cal P w K mg base 2 "is_granule" (spB K isGran) [] := by
  refine C8.cal0 F b .nil sc_is_granule (fun vs H Q E h => ?_) (fun cdv A outer s H vs Q E hr h => ?_)
  · obtain ⟨x, d, rfl, _⟩ := h; rfl
  obtain ⟨x, d, rfl, hx, q⟩ := h
  refine ⟨_, (pss_one (ps_ret (C8.pe_c c__is_below hr (by first | decide | omega) rfl (pa_cons (pv 0) (pa_cons (C8.pe_gc rfl T.c_GRANULES) pa_nil))))), ?_⟩
  exact ⟨x, rfl, x, d, _, rfl, hx, q⟩
abbrev s_place_of : Stmt := top 11
theorem sc_place_of : FnScope ["page"] ["page"] (C8.fnScope s_place_of) := C8.fnScope_by (by decide +kernel)
def spPlace : Sp := fun vs H Q _ => ∃ i : Int, vs = [.int i] ∧ ∀ p, H p = none → Q (.ref p) (upd H p (.tup [.int (i / 4), .int (i % 4)]))
theorem ok_place_of (F : C8.Def K mg "place_of" s_place_of f fd) (b : Binds K fd ["page"] []) (T : Txt mg) : C8.Cal P w K mg base 1 "place_of" spPlace [] := by
  refine C8.cal0 F b .nil sc_place_of (fun vs H Q E h => ?_) (fun cdv A outer s H vs Q E hr h => ?_)
  · obtain ⟨i, rfl, _⟩ := h; rfl
  obtain ⟨i, rfl, q⟩ := h
  refine ⟨_, (pss_one (ps_ret (pe_tup (pa_cons (pe_op op_fdiv (pv 0) (C8.pe_gc rfl T.c_WORDS)) (pa_cons (pe_op op_mod (pv 0) (C8.pe_gc rfl T.c_WORDS)) pa_nil))))), ?_⟩
  refine ⟨_, rfl, _, _, rfl, rfl, ⟨by decide, by decide⟩, _, rfl, _, _, rfl, rfl, (by show (0 : Int) < 4; decide), (by show 2 ≤ sizeLine; decide), q⟩
abbrev s_granule_of : Stmt := top 12
theorem sc_granule_of : FnScope ["word", "name"] ["word", "name"] (C8.fnScope s_granule_of) := C8.fnScope_by (by decide +kernel)
theorem ok_granule_of (F : C8.Def K mg "granule_of" s_granule_of f fd) (b : Binds K fd ["word", "name"] []) (T : Txt mg) (c_is_form : C8.Cal P w K mg base 1 "is_form" (spForm K) []) (c_is_granule : C8.Cal P w K mg base 2 "is_granule" (spB K isGran) []) : C8.Cal P w K mg base 3 "granule_of" (spGran K) [] := by
  refine C8.cal0 F b .nil sc_granule_of (fun vs H Q E h => ?_) (fun cdv A outer s H vs Q E hr h => ?_)
  · obtain ⟨x, d, z, rfl, _⟩ := h; rfl
  obtain ⟨x, d, nm, rfl, hx, q⟩ := h
  refine ⟨_, (pss_cons (ps_if (PW.pt (pw_and (pt_val (C8.pe_c c_is_form hr (by first | decide | omega) rfl (pa_cons (pv 0) (pa_cons (pv 1) (pa_cons pe_int pa_nil))))) (pw_and1 (pt_val (C8.pe_c c_is_granule hr (by first | decide | omega) rfl (pa_cons (pe_ix ix_tup (pv 0) pe_int (fun _ _ => rfl)) pa_nil)))))) (pss_one (ps_ret (pe_ix ix_tup (pv 0) pe_int (fun _ _ => rfl)))) pss_nil)
      (pss_one (ps_ret pe_non))), ?_⟩
  refine ⟨x, rfl, _, rfl, x, d, nm, 2, rfl, hx, by decide, _, rfl, ?_⟩
  have q0 : isForm d nm 2 = false → granV nm d = .non := fun e => by
    unfold granV
    split
    · rename_i e' g
      have : isStr e' nm = false := by simpa [isForm] using e
      rw [this]; rfl
    · rfl
  cases e : isForm d nm 2 with
  | false =>
    rw [q0 e] at q
    exact iteF (iteF q)
  | true =>
    obtain ⟨k, g, rfl, hs⟩ := form2 e
    obtain ⟨a, y, z, rfl, ht, hy, hz⟩ := dp2 hx
    refine iteT ⟨_, rfl, a, _, 1, z, rfl, rfl, ht, atI_nat (j := 1) rfl, z, g, rfl, hz, _, rfl, ?_⟩
    cases eg : isGran g with
    | false =>
      have e3 : granV nm (.tuple [k, g]) = .non := by
        unfold granV
        split
        · rename_i e' g' hh
          cases hh
          rw [eg, Bool.and_false]; rfl
        · rfl
      rw [e3] at q
      exact iteF q
    | true =>
      cases hz with
      | int i =>
        have e3 : granV nm (.tuple [k, .int i]) = .int i := by
          unfold granV
          simp only [hs, eg, Bool.and_true, if_true]
        rw [e3] at q
        exact iteT ⟨_, rfl, a, _, 1, _, rfl, rfl, ht, atI_nat (j := 1) rfl, q⟩
      | _ => cases eg
abbrev s_leaf_of : Stmt := top 13
theorem sc_leaf_of : FnScope ["word"] ["word"] (C8.fnScope s_leaf_of) := C8.fnScope_by (by decide +kernel)
theorem ok_leaf_of (F : C8.Def K mg "leaf_of" s_leaf_of f fd) (b : Binds K fd ["word"] []) (T : Txt mg) (c_granule_of : C8.Cal P w K mg base 3 "granule_of" (spGran K) []) : C8.Cal P w K mg base 4 "leaf_of" (spLeaf K) [] := by
  refine C8.cal0 F b .nil sc_leaf_of (fun vs H Q E h => ?_) (fun cdv A outer s H vs Q E hr h => ?_)
  · obtain ⟨x, d, rfl, _⟩ := h; rfl
  obtain ⟨x, d, rfl, hx, q⟩ := h
  refine ⟨_, (pss_one (ps_ret (C8.pe_c c_granule_of hr (by first | decide | omega) rfl (pa_cons (pv 0) (pa_cons pe_str pa_nil))))), ?_⟩
  exact ⟨x, rfl, x, d, "table", rfl, hx, q⟩
abbrev s__is_from_one_on : Stmt := top 17
theorem sc__is_from_one_on : FnScope ["value"] ["value"] (C8.fnScope s__is_from_one_on) := C8.fnScope_by (by decide +kernel)
theorem ok__is_from_one_on (F : C8.Def K mg "_is_from_one_on" s__is_from_one_on f fd) (b : Binds K fd ["value"] []) (T : Txt mg) (c_is_number : C8.Cal P w K mg base 1 "is_number" (spB K isNum) []) : C8.Cal P w K mg base 2 "_is_from_one_on" (spB K isOneP) [] := by
  refine C8.cal0 F b .nil sc__is_from_one_on (fun vs H Q E h => ?_) (fun cdv A outer s H vs Q E hr h => ?_)
  · obtain ⟨x, d, rfl, _⟩ := h; rfl
  obtain ⟨x, d, rfl, hx, q⟩ := h
  refine ⟨_, (pss_one (ps_ret (pe_and (C8.pe_c c_is_number hr (by first | decide | omega) rfl (pa_cons (pv 0) pa_nil)) (pe_one (pe_cmpR op_gt (pv 0) pe_int (nomark _)))))), ?_⟩
  refine ⟨x, rfl, x, d, rfl, hx, _, rfl, ?_⟩
  cases hx with
  | int i =>
    have q : Q (.bl (isNum (.int i) && decide (0 < i))) H := q
    cases e : isNum (.int i) with
    | false => rw [e] at q; exact iteF q
    | true => rw [e] at q; exact iteT ⟨_, rfl, _, _, rfl, rfl, q⟩
  | _ => exact iteF q
abbrev s_is_leaving : Stmt := top 16
theorem sc_is_leaving : FnScope ["value"] ["value"] (C8.fnScope s_is_leaving) := C8.fnScope_by (by decide +kernel)
theorem ok_is_leaving (F : C8.Def K mg "is_leaving" s_is_leaving f fd) (b : Binds K fd ["value"] []) (T : Txt mg) (c_is_form : C8.Cal P w K mg base 1 "is_form" (spForm K) []) (c_is_granule : C8.Cal P w K mg base 2 "is_granule" (spB K isGran) [])
    (c__is_from_one_on : C8.Cal P w K mg base 2 "_is_from_one_on" (spB K isOneP) []) : C8.Cal P w K mg base 3 "is_leaving" (spB K (leav isOneP)) [] := by
  refine C8.cal0 F b .nil sc_is_leaving (fun vs H Q E h => ?_) (fun cdv A outer s H vs Q E hr h => ?_)
  · obtain ⟨x, d, rfl, _⟩ := h; rfl
  obtain ⟨x, d, rfl, hx, q⟩ := h
  refine ⟨_, (pss_cons (ps_if (PW.pt (pw_or (pt_not (pt_val (C8.pe_c c_is_form hr (by first | decide | omega) rfl (pa_cons (pv 0) (pa_cons pe_str (pa_cons pe_int pa_nil)))))) (pw_or1 (pt_not (pt_val (C8.pe_c c_is_granule hr (by first | decide | omega) rfl (pa_cons (pe_ix ix_tup (pv 0) pe_int (fun _ _ => rfl)) pa_nil))))))) (pss_one (ps_ret pe_bl)) pss_nil)
      (pss_one (ps_ret (pe_or (pe_cmpR op_isN (pe_ix ix_tup (pv 0) pe_int (fun _ _ => rfl)) pe_non (nomark _)) (pe_one (C8.pe_c c__is_from_one_on hr (by first | decide | omega) rfl (pa_cons (pe_ix ix_tup (pv 0) pe_int (fun _ _ => rfl)) pa_nil))))))), ?_⟩
  refine ⟨x, rfl, x, d, "leaving", 3, rfl, hx, by decide, _, rfl, ?_⟩
  have q0 : isForm d "leaving" 3 = false → leav isOneP d = false := fun e => by
    unfold leav
    split
    · rename_i e' g n
      have : isStr e' "leaving" = false := by simpa [isForm] using e
      rw [this]; rfl
    · rfl
  cases e : isForm d "leaving" 3 with
  | false =>
    rw [q0 e] at q
    exact iteT (iteT q)
  | true =>
    obtain ⟨k, g, n, rfl, hs⟩ := form3 e
    obtain ⟨a, y, z, u, rfl, ht, hy, hz, hu⟩ := dp3 hx
    have e4 : leav isOneP (.tuple [k, g, n]) = (isGran g && (isNone n || isOneP n)) := by
      unfold leav
      simp only [hs, Bool.true_and]
    rw [e4] at q
    refine iteF ⟨_, rfl, a, _, 1, z, rfl, rfl, ht, atI_nat (j := 1) rfl, z, g, rfl, hz, _, rfl, ?_⟩
    cases eg : isGran g with
    | false => rw [eg] at q; exact iteT q
    | true =>
      rw [eg] at q
      refine iteF ⟨_, rfl, a, _, 2, u, rfl, rfl, ht, atI_nat (j := 2) rfl, rfl, _, rfl, ?_⟩
      rw [dp_non hu]
      cases en : isNone n with
      | true => rw [en] at q; exact iteT q
      | false => rw [en] at q; exact iteF ⟨_, rfl, a, _, 2, u, rfl, rfl, ht, atI_nat (j := 2) rfl, u, n, rfl, hu, q⟩
abbrev s_is_root_word : Stmt := top 14
theorem sc_is_root_word : FnScope ["value"] ["value"] (C8.fnScope s_is_root_word) := C8.fnScope_by (by decide +kernel)
theorem ok_is_root_word (F : C8.Def K mg "is_root_word" s_is_root_word f fd) (b : Binds K fd ["value"] []) (T : Txt mg) (c_leaf_of : C8.Cal P w K mg base 4 "leaf_of" (spLeaf K) [])
    (c_is_leaving : C8.Cal P w K mg base 3 "is_leaving" (spB K (leav isOneP)) []) : C8.Cal P w K mg base 5 "is_root_word" (spB K (isRoot isOneP)) [] := by
  refine C8.cal0 F b .nil sc_is_root_word (fun vs H Q E h => ?_) (fun cdv A outer s H vs Q E hr h => ?_)
  · obtain ⟨x, d, rfl, _⟩ := h; rfl
  obtain ⟨x, d, rfl, hx, q⟩ := h
  refine ⟨_, (pss_one (ps_ret (pe_or (pe_cmpR op_isN (pv 0) pe_non (nomark _)) (pe_or (pe_cmpR op_notN (C8.pe_c c_leaf_of hr (by first | decide | omega) rfl (pa_cons (pv 0) pa_nil)) pe_non (nomark _)) (pe_one (C8.pe_c c_is_leaving hr (by first | decide | omega) rfl (pa_cons (pv 0) pa_nil))))))), ?_⟩
  refine ⟨x, rfl, rfl, _, rfl, ?_⟩
  rw [dp_non hx]
  unfold isRoot at q
  cases en : isNone d with
  | true => rw [en] at q; exact iteT q
  | false =>
    rw [en, Bool.false_or] at q
    refine iteF ⟨x, rfl, x, d, rfl, hx, rfl, _, rfl, ?_⟩
    have e5 := leaf_pair d
    rw [e5]
    cases ep : isPair d "table" with
    | true => rw [ep] at q; exact iteT q
    | false => rw [ep] at q; exact iteF ⟨x, rfl, x, d, rfl, hx, q⟩
end
end Hc

namespace Hc
open PySem PySem.Spec PyProof.Rows L2
theorem isStr_inv {d : PyData} {s : Str} (h : isStr d s = true) : d = .str s := by
  unfold isStr at h
  split at h
  · rw [of_decide_eq_true h]
  · cases h
theorem pair_form {d : PyData} {s : Str} (h : isForm d s 2 = false) : isPair d s = false := by
  unfold isPair
  split
  · rename_i e' g
    have : isStr e' s = false := by simpa [isForm] using h
    rw [this]; rfl
  · rfl
theorem outs_form {one : PyData → Bool} {d : PyData} (h : isForm d "out" 2 = false) : outs one d = false := by
  unfold outs
  split
  · rename_i e' g
    have : isStr e' "out" = false := by simpa [isForm] using h
    rw [this]; rfl
  · rfl
theorem n1 : ¬ (("shared" : Str) = "data") := by decide +kernel
theorem n2 : ¬ (("data" : Str) = "shared") := by decide +kernel
theorem n3 : ¬ (("out" : Str) = "data") := by decide +kernel
theorem n4 : ¬ (("out" : Str) = "shared") := by decide +kernel
theorem n5 : ¬ (("data" : Str) = "out") := by decide +kernel
theorem n6 : ¬ (("shared" : Str) = "out") := by decide +kernel
theorem ent_data (one : PyData → Bool) (g : PyData) : isEntry one (.tuple [.str "data", g]) = isGran g := by
  simp [isEntry, isNone, isPair, isStr, leav, outs, n2, n5]
theorem ent_shared (one : PyData → Bool) (g : PyData) : isEntry one (.tuple [.str "shared", g]) = isGran g := by
  simp [isEntry, isNone, isPair, isStr, leav, outs, n1, n6]
theorem ent_out (one : PyData → Bool) (g : PyData) : isEntry one (.tuple [.str "out", g]) = one g := by
  simp [isEntry, isNone, isPair, isStr, leav, outs, n3, n4]
theorem ent_else (one : PyData → Bool) (d : PyData) (h1 : isForm d "data" 2 = false) (h2 : isForm d "shared" 2 = false) (h3 : isForm d "out" 2 = false) (h4 : isStr d "destroyed" = false) : isEntry one d = (isNone d || leav one d) := by
  simp [isEntry, pair_form h1, pair_form h2, outs_form h3, h4]
section
variable {P : Program} {w : World} {K : PySem.W.Frag} {mg : Str → Option Value} {base : Heap} {f : Addr} {fd : FuncData}
theorem nstr (d : PyData) (h : ¬ tn d = "str") (s : Str) : isStr d s = false := by
  cases d with
  | str t => exact absurd rfl h
  | _ => rfl
abbrev s_is_entry : Stmt := top 15
theorem sc_is_entry : FnScope ["value"] ["value"] (C8.fnScope s_is_entry) := C8.fnScope_by (by decide +kernel)
theorem ok_is_entry (F : C8.Def K mg "is_entry" s_is_entry f fd) (b : Binds K fd ["value"] []) (T : Txt mg) (c_granule_of : C8.Cal P w K mg base 3 "granule_of" (spGran K) []) (c_is_form : C8.Cal P w K mg base 1 "is_form" (spForm K) [])
    (c__is_from_one_on : C8.Cal P w K mg base 2 "_is_from_one_on" (spB K isOneP) []) (c_is_leaving : C8.Cal P w K mg base 3 "is_leaving" (spB K (leav isOneP)) []) : C8.Cal P w K mg base 5 "is_entry" (spB K (isEntry isOneP)) [] := by
  refine C8.cal0 F b .nil sc_is_entry (fun vs H Q E h => ?_) (fun cdv A outer s H vs Q E hr h => ?_)
  · obtain ⟨x, d, rfl, _⟩ := h; rfl
  obtain ⟨x, d, rfl, hx, q⟩ := h
  refine ⟨_, (pss_cons (ps_if (pt_cmpR op_isTyD (pe_callTy call_typeD rfl T.z_type bt_type (pa_cons (pv 0) pa_nil)) (pe_bltn (v := .ty "str") rfl T.z_str bt_str rfl) (nomark _)) (pss_one (ps_ret (pe_cmpR op_eq (pv 0) pe_str (nomark _)))) pss_nil)
      (pss_cons (ps_if (PW.pt (pw_or (pt_cmpR op_notN (C8.pe_c c_granule_of hr (by first | decide | omega) rfl (pa_cons (pv 0) (pa_cons pe_str pa_nil))) pe_non (nomark _)) (pw_or1 (pt_cmpR op_notN (C8.pe_c c_granule_of hr (by first | decide | omega) rfl (pa_cons (pv 0) (pa_cons pe_str pa_nil))) pe_non (nomark _))))) (pss_one (ps_ret pe_bl)) pss_nil)
      (pss_cons (ps_if (pt_val (C8.pe_c c_is_form hr (by first | decide | omega) rfl (pa_cons (pv 0) (pa_cons pe_str (pa_cons pe_int pa_nil))))) (pss_one (ps_ret (C8.pe_c c__is_from_one_on hr (by first | decide | omega) rfl (pa_cons (pe_ix ix_tup (pv 0) pe_int (fun _ _ => rfl)) pa_nil)))) pss_nil)
      (pss_one (ps_ret (pe_or (pe_cmpR op_isN (pv 0) pe_non (nomark _)) (pe_one (C8.pe_c c_is_leaving hr (by first | decide | omega) rfl (pa_cons (pv 0) pa_nil))))))))), ?_⟩
  refine ⟨x, rfl, x, d, rfl, hx, _, _, rfl, rfl, _, rfl, ?_⟩
  by_cases hs : tn d = "str"
  · refine ifT hs ?_
    cases hx with
    | str t =>
      refine ⟨_, rfl, rfl, ?_⟩
      have e : isEntry isOneP (.str t) = decide (V.str t = V.str "destroyed") := by simp [isEntry, isNone, isPair, leav, outs, isStr]
      rw [e] at q; exact q
    | _ => simp [tn] at hs
  · refine ifF hs ?_
    have h4 := nstr d hs "destroyed"
    refine ⟨x, rfl, x, d, "data", rfl, hx, rfl, _, rfl, ?_⟩
    rw [gran_pair]
    cases e1 : isPair d "data" with
    | true =>
      have e : isEntry isOneP d = true := by simp [isEntry, e1]
      rw [e] at q
      exact iteT (iteT q)
    | false =>
      refine iteF ⟨x, rfl, x, d, "shared", rfl, hx, rfl, _, rfl, ?_⟩
      rw [gran_pair]
      cases e2 : isPair d "shared" with
      | true =>
        have e : isEntry isOneP d = true := by simp [isEntry, e1, e2]
        rw [e] at q
        exact iteT q
      | false =>
        refine iteF ⟨x, rfl, x, d, "out", 2, rfl, hx, by decide, _, rfl, ?_⟩
        cases e3 : isForm d "out" 2 with
        | true =>
          obtain ⟨k, g, rfl, hk⟩ := form2 e3
          rw [isStr_inv hk] at hx q
          obtain ⟨a, y, z, rfl, ht, hy, hz⟩ := dp2 hx
          rw [ent_out] at q
          exact iteT ⟨_, rfl, a, _, 1, z, rfl, rfl, ht, atI_nat (j := 1) rfl, z, g, rfl, hz, q⟩
        | false =>
          have e : isEntry isOneP d = (isNone d || leav isOneP d) := by simp [isEntry, e1, e2, outs_form e3, h4]
          rw [e] at q
          refine iteF ⟨x, rfl, rfl, _, rfl, ?_⟩
          rw [dp_non hx]
          cases en : isNone d with
          | true => rw [en] at q; exact iteT q
          | false => rw [en] at q; exact iteF ⟨x, rfl, x, d, rfl, hx, q⟩
/-! ### the law's own -/
abbrev s__law_is_granule : Stmt := top 22
theorem sc__law_is_granule : FnScope ["value"] ["value"] (C8.fnScope s__law_is_granule) := C8.fnScope_by (by decide +kernel)
theorem ok__law_is_granule (F : C8.Def K mg "_law_is_granule" s__law_is_granule f fd) (b : Binds K fd ["value"] []) (T : Txt mg) : C8.Cal P w K mg base 1 "_law_is_granule" (spB K isGran) [] := by
  refine C8.cal0 F b .nil sc__law_is_granule (fun vs H Q E h => ?_) (fun cdv A outer s H vs Q E hr h => ?_)
  · obtain ⟨x, d, rfl, _⟩ := h; rfl
  obtain ⟨x, d, rfl, hx, q⟩ := h
  refine ⟨_, (pss_one (ps_ret (pe_and (pe_callB call_isiD rfl T.z_isinstance bt_isinstance (pa_cons (pv 0) (pa_cons (pe_bltn (v := .ty "int") rfl T.z_int bt_int rfl) pa_nil))) (pe_and (pe_not (pe_callB call_isiD rfl T.z_isinstance bt_isinstance (pa_cons (pv 0) (pa_cons (pe_bltn (v := .ty "bool") rfl T.z_bool bt_bool rfl) pa_nil)))) (pe_one (pe_chain op_le op_lt pe_int (pv 0) pe_int)))))), ?_⟩
  refine ⟨x, rfl, x, "int", d, _, rfl, hx, kit_int d, _, rfl, ?_⟩
  cases hx with
  | int i =>
    refine iteT ⟨_, rfl, _, "bool", _, _, rfl, .int i, kit_bool _, _, rfl, _, rfl, iteT ⟨_, rfl, _, _, rfl, rfl, _, rfl, ite2 (fun c => ?_) (fun c => ?_)⟩⟩
    · refine ⟨_, _, rfl, rfl, ?_⟩
      have e : isGran (.int i) = decide (i < 24) := by simp [isGran, isBelow, of_decide_eq_true c]
      rw [e] at q; exact q
    · have e : isGran (.int i) = false := by simp [isGran, isBelow] at c ⊢; omega
      rw [e] at q; exact q
  | bl y => exact iteT ⟨_, rfl, _, "bool", _, _, rfl, .bl y, kit_bool _, _, rfl, _, rfl, iteF q⟩
  | _ => exact iteF q
end
/-- not a tuple of n that begins with this text -/
def headOk (d : PyData) (n : Nat) (s : Str) : Bool := match d with | .tuple (e :: r) => decide (r.length + 1 = n) && isStr e s | _ => false
end Hc

namespace Hc
open PySem PySem.Spec PyProof.Rows L2
section
variable {P : Program} {w : World} {K : PySem.W.Frag} {mg : Str → Option Value} {base : Heap} {f : Addr} {fd : FuncData}
/-- not isinstance(value, tuple) or len(value) != n or not isinstance(value[0], str) or value[0] != kind -/
theorem chk {σ : L2.St} {H : Hp} {x : V} {d : PyData} {n : Nat} {z : Str} {tk : TE} {Q : Bool → Hp → Prop} (hs : σ[0]? = some (some x)) (hx : Dp K H x d) (hn : 0 < n) (hk : ∀ Q' : VK, Q' (.str z) H → tk σ H Q') (q : Q (!headOk d n z) H) :
    (tOr (tNot (tB (tCB (rIsD K) (tCons (tVar 0) (tCons (tC (.ty "tuple")) tNil))))) (tOr (tTest (tOp rNe (tCB (rLn K) (tCons (tVar 0) tNil)) (tC (.int (n : Int)))))
      (tOr (tNot (tB (tCB (rIsD K) (tCons (tOp (rIxT K) (tVar 0) (tC (.int 0))) (tCons (tC (.ty "str")) tNil))))) (tTest (tOp rNe (tOp (rIxT K) (tVar 0) (tC (.int 0))) tk))))) σ H Q := by
  refine ⟨x, hs, x, "tuple", d, _, rfl, hx, kit_tuple d, _, rfl, ?_⟩
  cases hx with
  | @tup a xs ds ht ha =>
    have hl := dpa_len ha
    refine iteF ⟨_, hs, a, xs, rfl, .inr ht, rfl, _, rfl, ?_⟩
    by_cases hc : ds.length = n
    · rw [hl, decide_eq_true (congrArg (fun k : Nat => V.int (k : Int)) hc)]
      cases ha with
      | nil => simp at hc; omega
      | @cons y ys e r he hr =>
        refine iteF ⟨_, hs, a, _, 0, y, rfl, rfl, ht, atI_nat (j := 0) rfl, y, "str", e, _, rfl, he, kit_str e, _, rfl, ?_⟩
        cases he with
        | str t =>
          refine iteF ⟨_, hs, a, _, 0, _, rfl, rfl, ht, atI_nat (j := 0) rfl, hk _ ⟨rfl, _, rfl, ?_⟩⟩
          have e2 : (!headOk (.tuple (.str t :: r)) n z) = (!decide (V.str t = V.str z)) := by
            simp only [headOk, isStr]
            rw [decide_eq_true (show r.length + 1 = n from hc)]
            simp
          rw [e2] at q; exact q
        | _ =>
          have e2 : ∀ e', isStr e' z = false → headOk (.tuple (e' :: r)) n z = false := fun e' h => by simp [headOk, h]
          rw [e2 _ rfl] at q; exact iteT q
    · rw [hl, decide_eq_false (fun z => hc (by have := V.int.inj z; omega))]
      have e2 : headOk (.tuple ds) n z = false := by
        cases ds with
        | nil => rfl
        | cons e r => simp only [headOk]; rw [decide_eq_false (show ¬ r.length + 1 = n from hc)]; rfl
      rw [e2] at q
      exact iteT q
  | _ => exact iteT q
theorem head2 {d : PyData} {s : Str} (h : headOk d 2 s = true) : ∃ g, d = .tuple [.str s, g] := by
  unfold headOk at h
  split at h
  · rename_i e r
    rw [Bool.and_eq_true, decide_eq_true_eq] at h
    match r, h.1 with
    | [g], _ => exact ⟨g, by rw [isStr_inv h.2]⟩
  · cases h
theorem head3 {d : PyData} {s : Str} (h : headOk d 3 s = true) : ∃ g n, d = .tuple [.str s, g, n] := by
  unfold headOk at h
  split at h
  · rename_i e r
    rw [Bool.and_eq_true, decide_eq_true_eq] at h
    match r, h.1 with
    | [g, n], _ => exact ⟨g, n, by rw [isStr_inv h.2]⟩
  · cases h
theorem nhead2 {d : PyData} {s : Str} (h : headOk d 2 s = false) : isPair d s = false := by
  unfold isPair
  split
  · rename_i e g
    have : isStr e s = false := by simpa [headOk] using h
    rw [this]; rfl
  · rfl
abbrev s__law_is_pair : Stmt := top 23
theorem sc__law_is_pair : FnScope ["value", "kind"] ["value", "kind"] (C8.fnScope s__law_is_pair) := C8.fnScope_by (by decide +kernel)
def spPair (K : PySem.W.Frag) : Sp := fun vs H Q _ => ∃ x d s, vs = [x, .str s] ∧ Dp K H x d ∧ Q (.bl (isPair d s)) H
theorem ok__law_is_pair (F : C8.Def K mg "_law_is_pair" s__law_is_pair f fd) (b : Binds K fd ["value", "kind"] []) (T : Txt mg) (c__law_is_granule : C8.Cal P w K mg base 1 "_law_is_granule" (spB K isGran) []) : C8.Cal P w K mg base 2 "_law_is_pair" (spPair K) [] := by
  refine C8.cal0 F b .nil sc__law_is_pair (fun vs H Q E h => ?_) (fun cdv A outer s H vs Q E hr h => ?_)
  · obtain ⟨x, d, s, rfl, _⟩ := h; rfl
  obtain ⟨x, d, z, rfl, hx, q⟩ := h
  refine ⟨_, (pss_cons (ps_if (PW.pt (pw_or (pt_not (pt_val (pe_callB call_isiD rfl T.z_isinstance bt_isinstance (pa_cons (pv 0) (pa_cons (pe_bltn (v := .ty "tuple") rfl T.z_tuple bt_tuple rfl) pa_nil))))) (pw_or (pt_cmpR op_ne (pe_callB call_lenS rfl T.z_len bt_len (pa_cons (pv 0) pa_nil)) pe_int (nomark _)) (pw_or (pt_not (pt_val (pe_callB call_isiD rfl T.z_isinstance bt_isinstance (pa_cons (pe_ix ix_tup (pv 0) pe_int (fun _ _ => rfl)) (pa_cons (pe_bltn (v := .ty "str") rfl T.z_str bt_str rfl) pa_nil))))) (pw_or1 (pt_cmpR op_ne (pe_ix ix_tup (pv 0) pe_int (fun _ _ => rfl)) (pv 1) (nomark _))))))) (pss_one (ps_ret pe_bl)) pss_nil)
      (pss_one (ps_ret (C8.pe_c c__law_is_granule hr (by first | decide | omega) rfl (pa_cons (pe_ix ix_tup (pv 0) pe_int (fun _ _ => rfl)) pa_nil))))), ?_⟩
  refine chk (n := 2) (z := z) rfl hx (by decide) (fun Q' q' => ⟨_, rfl, q'⟩) ?_
  cases e : headOk d 2 z with
  | false => rw [nhead2 e] at q; exact iteT q
  | true =>
    obtain ⟨g, rfl⟩ := head2 e
    obtain ⟨a, y, u, rfl, ht, hy, hu⟩ := dp2 hx
    refine iteF ⟨_, rfl, a, _, 1, u, rfl, rfl, ht, atI_nat (j := 1) rfl, u, g, rfl, hu, ?_⟩
    have e2 : isPair (.tuple [.str z, g]) z = isGran g := by simp [isPair, isStr]
    rw [e2] at q; exact q
abbrev s__law_is_leaving : Stmt := top 24
theorem sc__law_is_leaving : FnScope ["value", "number"] ["value"] (C8.fnScope s__law_is_leaving) := C8.fnScope_by (by decide +kernel)
theorem nhead3 {one : PyData → Bool} {d : PyData} (h : headOk d 3 "leaving" = false) : leav one d = false := by
  unfold leav
  split
  · rename_i e g n
    have : isStr e "leaving" = false := by simpa [headOk] using h
    rw [this]; rfl
  · rfl
theorem ok__law_is_leaving (F : C8.Def K mg "_law_is_leaving" s__law_is_leaving f fd) (b : Binds K fd ["value"] []) (T : Txt mg) (c__law_is_granule : C8.Cal P w K mg base 1 "_law_is_granule" (spB K isGran) []) : C8.Cal P w K mg base 2 "_law_is_leaving" (spB K (leav isOneL)) [] := by
  refine C8.cal0 F b .nil sc__law_is_leaving (fun vs H Q E h => ?_) (fun cdv A outer s H vs Q E hr h => ?_)
  · obtain ⟨x, d, rfl, _⟩ := h; rfl
  obtain ⟨x, d, rfl, hx, q⟩ := h
  refine ⟨_, (pss_cons (ps_if (PW.pt (pw_or (pt_not (pt_val (pe_callB call_isiD rfl T.z_isinstance bt_isinstance (pa_cons (pv 0) (pa_cons (pe_bltn (v := .ty "tuple") rfl T.z_tuple bt_tuple rfl) pa_nil))))) (pw_or (pt_cmpR op_ne (pe_callB call_lenS rfl T.z_len bt_len (pa_cons (pv 0) pa_nil)) pe_int (nomark _)) (pw_or (pt_not (pt_val (pe_callB call_isiD rfl T.z_isinstance bt_isinstance (pa_cons (pe_ix ix_tup (pv 0) pe_int (fun _ _ => rfl)) (pa_cons (pe_bltn (v := .ty "str") rfl T.z_str bt_str rfl) pa_nil))))) (pw_or1 (pt_cmpR op_ne (pe_ix ix_tup (pv 0) pe_int (fun _ _ => rfl)) pe_str (nomark _))))))) (pss_one (ps_ret pe_bl)) pss_nil)
      (pss_cons (ps_set (i := 1) sc__law_is_leaving.nd rfl (Or.inl rfl) (pe_ix ix_tup (pv 0) pe_int (fun _ _ => rfl)))
      (pss_cons (ps_if (PW.pt (pw_and (pt_cmpR op_notN (pv 1) pe_non (nomark _)) (pw_and1 (PW.pt (pw_or (pt_not (pt_val (pe_callB call_isiD rfl T.z_isinstance bt_isinstance (pa_cons (pv 1) (pa_cons (pe_bltn (v := .ty "int") rfl T.z_int bt_int rfl) pa_nil))))) (pw_or (pt_val (pe_callB call_isiD rfl T.z_isinstance bt_isinstance (pa_cons (pv 1) (pa_cons (pe_bltn (v := .ty "bool") rfl T.z_bool bt_bool rfl) pa_nil)))) (pw_or1 (pt_cmpR op_lt (pv 1) pe_int (nomark _))))))))) (pss_one (ps_ret pe_bl)) pss_nil)
      (pss_one (ps_ret (C8.pe_c c__law_is_granule hr (by first | decide | omega) rfl (pa_cons (pe_ix ix_tup (pv 0) pe_int (fun _ _ => rfl)) pa_nil))))))), ?_⟩
  refine chk (n := 3) (z := "leaving") rfl hx (by decide) (fun Q' q' => q') ?_
  cases e : headOk d 3 "leaving" with
  | false => rw [nhead3 e] at q; exact iteT q
  | true =>
    obtain ⟨g, n, rfl⟩ := head3 e
    obtain ⟨a, y, u, v, rfl, ht, hy, hu, hv⟩ := dp3 hx
    refine iteF ⟨_, rfl, a, _, 2, v, rfl, rfl, ht, atI_nat (j := 2) rfl, ?_⟩
    have e2 : leav isOneL (.tuple [.str "leaving", g, n]) = (isGran g && (isNone n || isOneL n)) := by simp [leav, isStr]
    rw [e2] at q
    have go : (isNone n || isOneL n) = true → (tRet (tCall (spB K isGran) [] C8.E0 (tCons (tOp (rIxT K) (tVar 0) (tC (.int 1))) tNil))) { nx := fun _ H' => Q .non H', rt := Q } [some (.ref a), some v] H := fun hh => by
      rw [hh, Bool.and_true] at q
      exact ⟨_, rfl, a, _, 1, u, rfl, rfl, ht, atI_nat (j := 1) rfl, u, g, rfl, hu, q⟩
    refine ⟨_, rfl, rfl, _, rfl, ?_⟩
    rw [dp_non hv]
    cases hv with
    | non => exact iteF (iteF (go rfl))
    | int i =>
      refine iteT ⟨_, rfl, _, "int", _, _, rfl, .int i, kit_int _, _, rfl, iteF ⟨_, rfl, _, "bool", _, _, rfl, .int i, kit_bool _, _, rfl, iteF ⟨_, rfl, _, _, rfl, rfl, _, rfl, ite2 (fun c => ?_) (fun c => ?_)⟩⟩⟩
      · have e3 : isOneL (.int i) = false := by simp [isOneL] at c ⊢; omega
        rw [e3, show isNone (.int i) = false from rfl, Bool.or_false, Bool.and_false] at q
        exact q
      · exact go (by simp [isOneL] at c ⊢; exact .inr (by omega))
    | bl y =>
      have e3 : (isNone (.bool y) || isOneL (.bool y)) = false := rfl
      rw [e3, Bool.and_false] at q
      exact iteT ⟨_, rfl, _, "int", _, _, rfl, .bl y, kit_int _, _, rfl, iteF ⟨_, rfl, _, "bool", _, _, rfl, .bl y, kit_bool _, _, rfl, iteT (iteT q)⟩⟩
    | str t =>
      have e3 : (isNone (.str t) || isOneL (.str t)) = false := rfl
      rw [e3, Bool.and_false] at q
      exact iteT ⟨_, rfl, _, "int", _, _, rfl, .str t, kit_int _, _, rfl, iteT (iteT q)⟩
    | lst h1 h2 =>
      have e3 : ∀ ds, (isNone (.list ds) || isOneL (.list ds)) = false := fun _ => rfl
      rw [e3, Bool.and_false] at q
      exact iteT ⟨_, rfl, _, "int", _, _, rfl, .lst h1 h2, kit_int _, _, rfl, iteT (iteT q)⟩
    | tup h1 h2 =>
      have e3 : ∀ ds, (isNone (.tuple ds) || isOneL (.tuple ds)) = false := fun _ => rfl
      rw [e3, Bool.and_false] at q
      exact iteT ⟨_, rfl, _, "int", _, _, rfl, .tup h1 h2, kit_int _, _, rfl, iteT (iteT q)⟩
abbrev s__law_is_out : Stmt := top 25
theorem sc__law_is_out : FnScope ["value"] ["value"] (C8.fnScope s__law_is_out) := C8.fnScope_by (by decide +kernel)
theorem nheadO {one : PyData → Bool} {d : PyData} (h : headOk d 2 "out" = false) : outs one d = false := by
  unfold outs
  split
  · rename_i e g
    have : isStr e "out" = false := by simpa [headOk] using h
    rw [this]; rfl
  · rfl
theorem ok__law_is_out (F : C8.Def K mg "_law_is_out" s__law_is_out f fd) (b : Binds K fd ["value"] []) (T : Txt mg) : C8.Cal P w K mg base 1 "_law_is_out" (spB K (outs isOneL)) [] := by
  refine C8.cal0 F b .nil sc__law_is_out (fun vs H Q E h => ?_) (fun cdv A outer s H vs Q E hr h => ?_)
  · obtain ⟨x, d, rfl, _⟩ := h; rfl
  obtain ⟨x, d, rfl, hx, q⟩ := h
  refine ⟨_, (pss_cons (ps_if (PW.pt (pw_or (pt_not (pt_val (pe_callB call_isiD rfl T.z_isinstance bt_isinstance (pa_cons (pv 0) (pa_cons (pe_bltn (v := .ty "tuple") rfl T.z_tuple bt_tuple rfl) pa_nil))))) (pw_or (pt_cmpR op_ne (pe_callB call_lenS rfl T.z_len bt_len (pa_cons (pv 0) pa_nil)) pe_int (nomark _)) (pw_or (pt_not (pt_val (pe_callB call_isiD rfl T.z_isinstance bt_isinstance (pa_cons (pe_ix ix_tup (pv 0) pe_int (fun _ _ => rfl)) (pa_cons (pe_bltn (v := .ty "str") rfl T.z_str bt_str rfl) pa_nil))))) (pw_or1 (pt_cmpR op_ne (pe_ix ix_tup (pv 0) pe_int (fun _ _ => rfl)) pe_str (nomark _))))))) (pss_one (ps_ret pe_bl)) pss_nil)
      (pss_one (ps_ret (pe_and (pe_callB call_isiD rfl T.z_isinstance bt_isinstance (pa_cons (pe_ix ix_tup (pv 0) pe_int (fun _ _ => rfl)) (pa_cons (pe_bltn (v := .ty "int") rfl T.z_int bt_int rfl) pa_nil))) (pe_and (pe_not (pe_callB call_isiD rfl T.z_isinstance bt_isinstance (pa_cons (pe_ix ix_tup (pv 0) pe_int (fun _ _ => rfl)) (pa_cons (pe_bltn (v := .ty "bool") rfl T.z_bool bt_bool rfl) pa_nil)))) (pe_one (pe_cmpR op_gt (pe_ix ix_tup (pv 0) pe_int (fun _ _ => rfl)) pe_int (nomark _)))))))), ?_⟩
  refine chk (n := 2) (z := "out") rfl hx (by decide) (fun Q' q' => q') ?_
  cases e : headOk d 2 "out" with
  | false => rw [nheadO e] at q; exact iteT q
  | true =>
    obtain ⟨g, rfl⟩ := head2 e
    obtain ⟨a, y, u, rfl, ht, hy, hu⟩ := dp2 hx
    have e2 : outs isOneL (.tuple [.str "out", g]) = isOneL g := by simp [outs, isStr]
    rw [e2] at q
    refine iteF ⟨_, rfl, a, _, 1, u, rfl, rfl, ht, atI_nat (j := 1) rfl, u, "int", g, _, rfl, hu, kit_int g, _, rfl, ?_⟩
    cases hu with
    | int i => exact iteT ⟨_, rfl, a, _, 1, _, rfl, rfl, ht, atI_nat (j := 1) rfl, _, "bool", _, _, rfl, .int i, kit_bool _, _, rfl, _, rfl, iteT ⟨_, rfl, a, _, 1, _, rfl, rfl, ht, atI_nat (j := 1) rfl, _, _, rfl, rfl, q⟩⟩
    | bl y => exact iteT ⟨_, rfl, a, _, 1, _, rfl, rfl, ht, atI_nat (j := 1) rfl, _, "bool", _, _, rfl, .bl y, kit_bool _, _, rfl, _, rfl, iteF q⟩
    | _ => exact iteF q
end
end Hc

namespace Hc
open PySem PySem.Spec PyProof.Rows L2
/-- the tape at p: the script's ints at s, a place in them, what is left of a number, a number -/
def TapeIs (H : Hp) (p s : Addr) (ns : List Int) (pos : Nat) (rest mix : Int) : Prop :=
  H p = some (.lst [.ref s, .int (pos : Int), .int rest, .int mix]) ∧ H s = some (.lst (ns.map V.int)) ∧ p ≠ s ∧ pos ≤ ns.length
def Tape (H : Hp) (p s : Addr) : Prop := ∃ ns pos rest mix, TapeIs H p s ns pos rest mix
theorem Tape.s {H : Hp} {p s : Addr} (t : Tape H p s) : ∃ ns : List Int, H s = some (.lst (ns.map V.int)) := by
  obtain ⟨ns, pos, rest, mix, _, h2, _⟩ := t
  exact ⟨ns, h2⟩
theorem Tape.put {H : Hp} {p s l : Addr} {o : HO} (t : Tape H p s) (h1 : l ≠ p) (h2 : l ≠ s) : Tape (L2.upd H l o) p s := by
  obtain ⟨ns, pos, rest, mix, a1, a2, a3, a4⟩ := t
  exact ⟨ns, pos, rest, mix, by rw [upd_ne h1.symm]; exact a1, by rw [upd_ne h2.symm]; exact a2, a3, a4⟩
/-- all but p is as it was -/
def Off (p : Addr) (H H' : Hp) : Prop := ∀ b o, H b = some o → b ≠ p → H' b = some o
theorem Off.refl (p : Addr) (H : Hp) : Off p H H := fun _ _ h _ => h
theorem Off.trans {p : Addr} {H H1 H2 : Hp} (a : Off p H H1) (b : Off p H1 H2) : Off p H H2 := fun c o h n => b c o (a c o h n) n
theorem Off.upd {p : Addr} {H H1 : Hp} {o : HO} (a : Off p H H1) : Off p H (upd H1 p o) := fun c x h n => by rw [upd_ne n]; exact a c x h n
theorem Off.new {p q : Addr} {H : Hp} {o : HO} (h : H q = none) : Off p H (L2.upd H q o) := fun c x e n => by rw [upd_ne (ne_of_none e h)]; exact e
theorem same_new {q : Addr} {H : Hp} {o : HO} (h : H q = none) : Same H (L2.upd H q o) := fun c x e => by rw [upd_ne (ne_of_none e h)]; exact e
theorem Same.off {p : Addr} {H H1 : Hp} (h : Same H H1) : Off p H H1 := fun c x e _ => h c x e
theorem Tape.same {H H1 : Hp} {p s : Addr} (t : Tape H p s) (h : Same H H1) : Tape H1 p s := by
  obtain ⟨ns, pos, rest, mix, h1, h2, h3, h4⟩ := t
  exact ⟨ns, pos, rest, mix, h _ _ h1, h _ _ h2, h3, h4⟩
theorem Tape.upd {H : Hp} {p s : Addr} {ns : List Int} {pos pos' : Nat} {rest mix rest' mix' : Int} (t : TapeIs H p s ns pos rest mix) (hp : pos' ≤ ns.length) : TapeIs (L2.upd H p (.lst [.ref s, .int (pos' : Int), .int rest', .int mix'])) p s ns pos' rest' mix' := by
  obtain ⟨h1, h2, h3, h4⟩ := t
  exact ⟨upd_same, by rw [upd_ne h3.symm]; exact h2, h3, hp⟩
def spNext : Sp := fun vs H Q _ => ∃ p s m, vs = [.ref p, .int m] ∧ Tape H p s ∧ 0 < m ∧ m < 1073741824 ∧ ∀ H' r, Tape H' p s → Off p H H' → 0 ≤ r → r < m → Q (.int r) H'
section
variable {P : Program} {w : World} {K : PySem.W.Frag} {mg : Str → Option Value} {base : Heap} {f : Addr} {fd : FuncData}
abbrev s__law_next : Stmt := top 19
theorem sc__law_next : FnScope ["tape", "many", "rest", "cell"] ["tape", "many"] (C8.fnScope s__law_next) := C8.fnScope_by (by decide +kernel)
theorem ok__law_next (F : C8.Def K mg "_law_next" s__law_next f fd) (b : Binds K fd ["tape", "many"] []) (T : Txt mg) : C8.Cal P w K mg base 1 "_law_next" spNext [] := by
  refine C8.cal0 F b .nil sc__law_next (fun vs H Q E h => ?_) (fun cdv A outer s H vs Q E hr h => ?_)
  · obtain ⟨p, sa, m, rfl, _⟩ := h; rfl
  obtain ⟨p, sa, m, rfl, ⟨ns, pos, rest, mix, t⟩, hm, hm2, q⟩ := h
  refine ⟨_, (pss_cons (ps_set (i := 2) sc__law_next.nd rfl (Or.inl rfl) (pe_ix ix_list (pv 0) pe_int (fun _ _ => rfl)))
      (pss_cons (ps_if (pt_cmpR op_gt (pv 2) pe_int (nomark _)) (pss_cons (ps_asg (pe_op op_fdiv (pv 2) (pv 1)) (pg_sub (pv 0) pe_int set_list))
      (pss_one (ps_ret (pe_op op_mod (pe_callTy call_int1 rfl T.z_int bt_int (pa_cons (pv 2) pa_nil)) (pv 1))))) pss_nil)
      (pss_cons (ps_set (i := 3) sc__law_next.nd rfl (Or.inl rfl) pe_int)
      (C8.pss_cut (ps_if (pt_cmpR op_lt (pe_ix ix_list (pv 0) pe_int (fun _ _ => rfl)) (pe_callB call_lenS rfl T.z_len bt_len (pa_cons (pe_ix ix_list (pv 0) pe_int (fun _ _ => rfl)) pa_nil)) (nomark _)) (pss_cons (ps_set (i := 3) sc__law_next.nd rfl (Or.inl rfl) (pe_callB call_abs rfl T.z_abs bt_abs (pa_cons (pe_ix ix_list (pe_ix ix_list (pv 0) pe_int (fun _ _ => rfl)) (pe_ix ix_list (pv 0) pe_int (fun _ _ => rfl)) (fun _ _ => rfl)) pa_nil)))
      (pss_one (ps_augS (pv 0) pe_int pget_list pe_int ip_add set_list))) pss_nil)
      (pss_cons (ps_if (pt_cmpR op_ge (pv 3) (pe_op op_pow pe_int pe_int) (nomark _)) (pss_cons (ps_asg (pe_op op_fdiv (pv 3) (pv 1)) (pg_sub (pv 0) pe_int set_list))
      (pss_one (ps_ret (pe_op op_mod (pe_callTy call_int1 rfl T.z_int bt_int (pa_cons (pv 3) pa_nil)) (pv 1))))) pss_nil)
      (pss_cons (ps_asg (pe_op op_mod (pe_callTy call_int1 rfl T.z_int bt_int (pa_cons (pe_op op_add (pe_op op_add (pe_op op_mul (pe_ix ix_list (pv 0) pe_int (fun _ _ => rfl)) pe_int) (pe_op op_mul (pv 3) pe_int)) pe_int) pa_nil)) pe_int) (pg_sub (pv 0) pe_int set_list))
      (pss_one (ps_ret (pe_op op_mod (pe_callTy call_int1 rfl T.z_int bt_int (pa_cons (pe_op op_fdiv (pe_op op_mod (pe_op op_mul (pe_ix ix_list (pv 0) pe_int (fun _ _ => rfl)) pe_int) pe_int) pe_int) pa_nil)) (pv 1)))))))))), ?_⟩
  obtain ⟨hp, hs, hne, hpos⟩ := id t
  refine ⟨_, rfl, p, _, 2, _, rfl, rfl, SqL.of hp, atI_nat (j := 2) rfl, ?_⟩
  refine ⟨_, rfl, _, _, rfl, rfl, _, rfl, ite2 (fun c => ?_) (fun c => ?_)⟩
  · refine ⟨_, rfl, _, rfl, _, _, rfl, rfl, ⟨hm, hm2⟩, _, rfl, p, _, 2, 2, rfl, rfl, hp, rfl, ?_⟩
    refine ⟨_, rfl, .inl ⟨_, rfl, _, rfl, _, _, rfl, rfl, hm, ?_⟩⟩
    exact q _ _ ⟨ns, pos, _, mix, Tape.upd t hpos⟩ (Off.upd (Off.refl p H)) (Int.emod_nonneg _ (by omega)) (Int.emod_lt_of_pos _ hm)
  refine ⟨fun σ' H' => ∃ cell pos', σ' = [some (.ref p), some (.int m), some (.int rest), some (.int cell)] ∧ TapeIs H' p sa ns pos' rest mix ∧ Off p H H', ?_, ?_⟩
  · refine ⟨_, rfl, p, _, 1, _, rfl, rfl, SqL.of hp, atI_nat (j := 1) rfl, _, rfl, p, _, 0, _, rfl, rfl, SqL.of hp, atI_nat (j := 0) rfl, sa, _, rfl, .inl (SqL.of hs), _, _, rfl, rfl, _, rfl, ite2 (fun c1 => ?_) (fun c1 => ?_)⟩
    · have c2 : (pos : Int) < ((ns.map V.int).length : Int) := of_decide_eq_true c1
      rw [List.length_map] at c2
      have c3 : pos < ns.length := by omega
      have hz : (ns.map V.int)[pos]? = some (.int ns[pos]) := by rw [List.getElem?_map, List.getElem?_eq_getElem c3]; rfl
      refine ⟨_, rfl, p, _, 0, _, rfl, rfl, SqL.of hp, atI_nat (j := 0) rfl, _, rfl, p, _, 1, _, rfl, rfl, SqL.of hp, atI_nat (j := 1) rfl, sa, _, _, _, rfl, rfl, SqL.of hs, atI_nat hz, _, rfl, ?_⟩
      refine ⟨_, rfl, p, _, 1, _, rfl, rfl, SqL.of hp, rfl, _, _, rfl, rfl, p, _, 1, 1, rfl, rfl, hp, rfl, ?_⟩
      exact ⟨_, pos + 1, rfl, Tape.upd (pos' := pos + 1) (rest' := rest) (mix' := mix) t c3, Off.upd (Off.refl p H)⟩
    · exact ⟨0, pos, rfl, t, Off.refl p H⟩
  rintro σ' H' ⟨cell, pos', rfl, t', off⟩
  obtain ⟨hp', hs', hne', hpos'⟩ := id t'
  refine ⟨_, rfl, _, _, rfl, rfl, ⟨by decide, by decide, by decide⟩, _, _, rfl, rfl, _, rfl, ite2 (fun c => ?_) (fun c => ?_)⟩
  · refine ⟨_, rfl, _, rfl, _, _, rfl, rfl, ⟨hm, hm2⟩, _, rfl, p, _, 2, 2, rfl, rfl, hp', rfl, ?_⟩
    refine ⟨_, rfl, .inl ⟨_, rfl, _, rfl, _, _, rfl, rfl, hm, ?_⟩⟩
    exact q _ _ ⟨ns, pos', _, mix, Tape.upd t' hpos'⟩ (Off.upd off) (Int.emod_nonneg _ (by omega)) (Int.emod_lt_of_pos _ hm)
  · refine ⟨_, rfl, p, _, 3, _, rfl, rfl, SqL.of hp', atI_nat (j := 3) rfl, _, _, rfl, rfl, .inr ⟨by decide, by decide⟩, _, rfl, _, _, rfl, rfl, .inr ⟨by decide, by decide⟩, _, _, rfl, rfl, _, _, rfl, rfl, .inl ⟨_, rfl, _, _, rfl, rfl, (by show (0 : Int) < 2147483647; decide), _, rfl, p, _, 3, 3, rfl, rfl, hp', rfl, ?_⟩⟩
    refine ⟨_, rfl, p, _, 3, _, rfl, rfl, SqL.of upd_same, atI_nat (j := 3) rfl, _, _, rfl, rfl, .inr ⟨by decide, by decide⟩, _, _, rfl, rfl, (by show (0 : Int) < 2147483647; decide), _, _, rfl, rfl, ⟨by decide, by decide⟩, .inl ⟨_, rfl, _, rfl, _, _, rfl, rfl, hm, ?_⟩⟩
    exact q _ _ ⟨ns, pos', rest, _, Tape.upd t' hpos'⟩ (Off.upd off) (Int.emod_nonneg _ (by omega)) (Int.emod_lt_of_pos _ hm)
/-! ### what is drawn -/
/-- a part that is drawn: a plain value, or the tuple (7,) -/
inductive Part (H : Hp) : V → PyData → Prop
  | non : Part H .non .none
  | bl (b : Bool) : Part H (.bl b) (.bool b)
  | int (i : Int) (h : i ≤ 24) : Part H (.int i) (.int i)
  | str (x : Str) : Part H (.str x) (.str x)
  | tup {a : Addr} (h : H a = some (.tup [.int 7])) : Part H (.ref a) (.tuple [.int 7])
theorem Part.dp {K : PySem.W.Frag} {H : Hp} {x : V} {d : PyData} (h : Part H x d) : Dp K H x d := by
  cases h with
  | non => exact .non
  | bl b => exact .bl b
  | int i _ => exact .int i
  | str s => exact .str s
  | tup h => exact .tup (SqT.of h) (.cons (.int 7) .nil)
/-- lists alone may have changed -/
def Tups (H H' : Hp) : Prop := ∀ b xs, H b = some (.tup xs) → H' b = some (.tup xs)
theorem Part.keep {H H' : Hp} {x : V} {d : PyData} (h : Part H x d) (t : Tups H H') : Part H' x d := by
  cases h with
  | non => exact .non
  | bl b => exact .bl b
  | int i h => exact .int i h
  | str s => exact .str s
  | tup h => exact .tup (t _ _ h)
theorem Off.tups {p : Addr} {H H' : Hp} {xs : List V} (h : Off p H H') (hp : H p = some (.lst xs)) : Tups H H' := fun b ys e => h b _ e fun z => by
  rw [z, hp] at e; cases e
/-- ints of what is told -/
def oneOk : PyData → Prop | .int i => i ≤ 24 | _ => True
theorem Part.ok {H : Hp} {x : V} {d : PyData} (h : Part H x d) : oneOk d := by
  cases h with
  | int i h => exact h
  | _ => trivial
theorem one_eq {d : PyData} (h : oneOk d) : isOneP d = isOneL d := by
  cases d with
  | int i =>
    have h : i ≤ 24 := h
    show (isNum (.int i) && decide (0 < i)) = decide (0 < i)
    by_cases c : 0 < i
    · simp only [isNum]; rw [decide_eq_true c, decide_eq_true (show -2147483648 ≤ i by omega), decide_eq_true (show i ≤ 2147483647 by omega)]; rfl
    · rw [decide_eq_false c, Bool.and_false]
  | _ => rfl
def spNumber : Sp := fun vs H Q _ => ∃ p s, vs = [.ref p] ∧ Tape H p s ∧ ∀ H' x d, Tape H' p s → Off p H H' → Part H' x d → Q x H'
theorem Tape.lst {H : Hp} {p s : Addr} (t : Tape H p s) : ∃ xs, H p = some (.lst xs) := by
  obtain ⟨ns, pos, rest, mix, h1, _⟩ := t
  exact ⟨_, h1⟩
theorem pick10 {r : Int} (h0 : 0 ≤ r) (h1 : r < 10) : r = 0 ∨ r = 1 ∨ r = 2 ∨ r = 3 ∨ r = 4 ∨ r = 5 ∨ r = 6 ∨ r = 7 ∨ r = 8 ∨ r = 9 := by omega
theorem pick9 {r : Int} (h0 : 0 ≤ r) (h1 : r < 9) : r = 0 ∨ r = 1 ∨ r = 2 ∨ r = 3 ∨ r = 4 ∨ r = 5 ∨ r = 6 ∨ r = 7 ∨ r = 8 := by omega
abbrev s__law_number : Stmt := top 20
theorem sc__law_number : FnScope ["tape"] ["tape"] (C8.fnScope s__law_number) := C8.fnScope_by (by decide +kernel)
theorem ok__law_number (F : C8.Def K mg "_law_number" s__law_number f fd) (b : Binds K fd ["tape"] []) (T : Txt mg) (c__law_next : C8.Cal P w K mg base 1 "_law_next" spNext []) : C8.Cal P w K mg base 2 "_law_number" spNumber [] := by
  refine C8.cal0 F b .nil sc__law_number (fun vs H Q E h => ?_) (fun cdv A outer s H vs Q E hr h => ?_)
  · obtain ⟨p, sa, rfl, _⟩ := h; rfl
  obtain ⟨p, sa, rfl, t, q⟩ := h
  refine ⟨_, (pss_one (ps_ret (pe_ix ix_tup (pe_tup (pa_cons pe_non (pa_cons (pe_un un_neg pe_int) (pa_cons pe_int (pa_cons pe_int (pa_cons pe_int (pa_cons pe_int (pa_cons pe_int (pa_cons pe_bl (pa_cons pe_str (pa_cons (pe_tup (pa_cons pe_int pa_nil)) pa_nil))))))))))) (C8.pe_c c__law_next hr (by first | decide | omega) rfl (pa_cons (pv 0) (pa_cons pe_int pa_nil))) (fun _ _ => rfl)))), ?_⟩
  refine ⟨_, rfl, (by show 1 ≤ sizeLine; decide), fun u hu => ⟨(by show 10 ≤ sizeLine; decide), fun v hv => ?_⟩⟩
  have s1 : Same H (L2.upd H u (.tup [.int 7])) := same_new hu
  have s2 := same_new (o := .tup [V.non, .int (-1), .int 0, .int 1, .int 7, .int 23, .int 24, .bl true, .str "7", .ref u]) hv
  refine ⟨_, rfl, p, sa, 10, rfl, (t.same s1).same s2, by decide, by decide, fun H' r t' off h0 h1 => ?_⟩
  obtain ⟨xs, hp⟩ := t.lst
  have n1 : u ≠ p := fun z => by rw [z, hp] at hu; cases hu
  have n2 : v ≠ p := fun z => by rw [z, s1 _ _ hp] at hv; cases hv
  have e1 : H' v = some (.tup [V.non, .int (-1), .int 0, .int 1, .int 7, .int 23, .int 24, .bl true, .str "7", .ref u]) := off _ _ upd_same n2
  have e2 : H' u = some (.tup [.int 7]) := off _ _ (s2 _ _ upd_same) n1
  have off2 : Off p H H' := fun c o h n => off c o (s2 _ _ (s1 _ _ h)) n
  rcases pick10 h0 h1 with rfl | rfl | rfl | rfl | rfl | rfl | rfl | rfl | rfl | rfl
  · exact ⟨v, _, _, _, rfl, rfl, SqT.of e1, atI_nat (j := 0) rfl, q H' _ _ t' off2 .non⟩
  · exact ⟨v, _, _, _, rfl, rfl, SqT.of e1, atI_nat (j := 1) rfl, q H' _ _ t' off2 (.int _ (by decide))⟩
  · exact ⟨v, _, _, _, rfl, rfl, SqT.of e1, atI_nat (j := 2) rfl, q H' _ _ t' off2 (.int _ (by decide))⟩
  · exact ⟨v, _, _, _, rfl, rfl, SqT.of e1, atI_nat (j := 3) rfl, q H' _ _ t' off2 (.int _ (by decide))⟩
  · exact ⟨v, _, _, _, rfl, rfl, SqT.of e1, atI_nat (j := 4) rfl, q H' _ _ t' off2 (.int _ (by decide))⟩
  · exact ⟨v, _, _, _, rfl, rfl, SqT.of e1, atI_nat (j := 5) rfl, q H' _ _ t' off2 (.int _ (by decide))⟩
  · exact ⟨v, _, _, _, rfl, rfl, SqT.of e1, atI_nat (j := 6) rfl, q H' _ _ t' off2 (.int _ (by decide))⟩
  · exact ⟨v, _, _, _, rfl, rfl, SqT.of e1, atI_nat (j := 7) rfl, q H' _ _ t' off2 (.bl _)⟩
  · exact ⟨v, _, _, _, rfl, rfl, SqT.of e1, atI_nat (j := 8) rfl, q H' _ _ t' off2 (.str _)⟩
  · exact ⟨v, _, _, _, rfl, rfl, SqT.of e1, atI_nat (j := 9) rfl, q H' _ _ t' off2 (.tup e2)⟩
end
end Hc

namespace Hc
open PySem PySem.Spec PyProof.Rows L2
mutual
theorem dp_same {K : PySem.W.Frag} {H H' : Hp} (e : Same H H') : ∀ {x : V} {d : PyData}, Dp K H x d → Dp K H' x d
  | _, _, .non => .non
  | _, _, .bl b => .bl b
  | _, _, .int i => .int i
  | _, _, .str s => .str s
  | _, _, .lst h t => .lst (e.seq h) (dpa_same e t)
  | _, _, .tup h t => .tup (same_t e h) (dpa_same e t)
theorem dpa_same {K : PySem.W.Frag} {H H' : Hp} (e : Same H H') : ∀ {xs : List V} {ds : List PyData}, DpAll K H xs ds → DpAll K H' xs ds
  | _, _, .nil => .nil
  | _, _, .cons h t => .cons (dp_same e h) (dpa_same e t)
end
/-- what is drawn: a kind, or a list or tuple of it with parts -/
inductive Good : PyData → Prop
  | one {d : PyData} (h : oneOk d) (h2 : ∀ ds, d ≠ .tuple ds) : Good d
  | tup {ds : List PyData} (h : ∀ d ∈ ds, oneOk d) : Good (.tuple ds)
theorem leav_eq {d : PyData} (h : Good d) : leav isOneP d = leav isOneL d := by
  cases h with
  | one h h2 =>
    cases d with
    | tuple ds => exact absurd rfl (h2 ds)
    | _ => rfl
  | tup h =>
    unfold leav
    split
    · rename_i e g n hh
      cases hh
      rw [one_eq (h n (by simp))]
    · rfl
theorem outs_eq {d : PyData} (h : Good d) : outs isOneP d = outs isOneL d := by
  cases h with
  | one h h2 =>
    cases d with
    | tuple ds => exact absurd rfl (h2 ds)
    | _ => rfl
  | tup h =>
    unfold outs
    split
    · rename_i e n hh
      cases hh
      rw [one_eq (h n (by simp))]
    · rfl
theorem root_eq {d : PyData} (h : Good d) : isRoot isOneP d = isRoot isOneL d := by unfold isRoot; rw [leav_eq h]
theorem entry_eq {d : PyData} (h : Good d) : isEntry isOneP d = isEntry isOneL d := by unfold isEntry; rw [leav_eq h, outs_eq h]
/-- parts in a list -/
inductive Parts (H : Hp) : List V → List PyData → Prop
  | nil : Parts H [] []
  | cons {x : V} {xs : List V} {d : PyData} {ds : List PyData} : Part H x d → Parts H xs ds → Parts H (x :: xs) (d :: ds)
theorem Parts.keep {H H' : Hp} (t : Tups H H') : ∀ {xs : List V} {ds : List PyData}, Parts H xs ds → Parts H' xs ds
  | _, _, .nil => .nil
  | _, _, .cons h r => .cons (h.keep t) (r.keep t)
theorem Parts.snoc {H : Hp} {x : V} {d : PyData} (h : Part H x d) : ∀ {xs : List V} {ds : List PyData}, Parts H xs ds → Parts H (xs ++ [x]) (ds ++ [d])
  | _, _, .nil => .cons h .nil
  | _, _, .cons h1 r => .cons h1 (r.snoc h)
theorem Parts.dp {K : PySem.W.Frag} {H : Hp} : ∀ {xs : List V} {ds : List PyData}, Parts H xs ds → DpAll K H xs ds
  | _, _, .nil => .nil
  | _, _, .cons h r => .cons h.dp r.dp
theorem Parts.ok {H : Hp} : ∀ {xs : List V} {ds : List PyData}, Parts H xs ds → ∀ d ∈ ds, oneOk d
  | _, _, .nil, _, h => by cases h
  | _, _, .cons h r, d, hd => by
    rcases List.mem_cons.mp hd with e | e
    · rw [e]; exact h.ok
    · exact r.ok d e
theorem pair_inv {d : PyData} {s : Str} (h : isPair d s = true) : ∃ e g, d = .tuple [e, g] ∧ isStr e s = true ∧ isGran g = true := by
  unfold isPair at h
  split at h
  · rename_i e g
    rw [Bool.and_eq_true] at h
    exact ⟨e, g, rfl, h.1, h.2⟩
  · cases h
theorem leaf_cases (d : PyData) : leafV d = .non ∨ ∃ i, leafV d = .int i := by
  unfold leafV granV
  split
  · rename_i e g
    by_cases h : (isStr e "table" && isGran (PyData.int g)) = true
    · exact .inr ⟨g, if_pos h⟩
    · exact .inl (if_neg h)
  · exact .inl rfl
theorem leaf_scal (d : PyData) : scal (leafV d) (leafV d) = true := by
  rcases leaf_cases d with h | ⟨i, h⟩ <;> rw [h] <;> rfl
def spValue (K : PySem.W.Frag) : Sp := fun vs H Q _ => ∃ p s, vs = [.ref p] ∧ Tape H p s ∧ ∀ H' x d, Tape H' p s → Off p H H' → Dp K H' x d → Good d → Q x H'
section
variable {P : Program} {w : World} {K : PySem.W.Frag} {mg : Str → Option Value} {base : Heap} {f : Addr} {fd : FuncData}
abbrev s__law_value : Stmt := top 21
theorem sc__law_value : FnScope ["tape", "kind", "parts", "turn", "way"] ["tape"] (C8.fnScope s__law_value) := C8.fnScope_by (by decide +kernel)
/-- a kind -/
inductive Kind : V → PyData → Prop
  | non : Kind .non .none
  | int (i : Int) (h : i ≤ 24) : Kind (.int i) (.int i)
  | str (x : Str) : Kind (.str x) (.str x)
theorem Kind.part {H : Hp} {x : V} {d : PyData} (h : Kind x d) : Part H x d := by
  cases h with
  | non => exact .non
  | int i h => exact .int i h
  | str s => exact .str s
theorem ok__law_value (F : C8.Def K mg "_law_value" s__law_value f fd) (b : Binds K fd ["tape"] []) (T : Txt mg) (c__law_next : C8.Cal P w K mg base 1 "_law_next" spNext []) (c__law_number : C8.Cal P w K mg base 2 "_law_number" spNumber []) : C8.Cal P w K mg base 3 "_law_value" (spValue K) [] := by
  refine C8.cal0 F b .nil sc__law_value (fun vs H Q E h => ?_) (fun cdv A outer s H vs Q E hr h => ?_)
  · obtain ⟨p, sa, rfl, _⟩ := h; rfl
  obtain ⟨p, sa, rfl, t, q⟩ := h
  refine ⟨_, (pss_cons (ps_set (i := 1) sc__law_value.nd rfl (Or.inl rfl) (pe_ix ix_tup (pe_tup (pa_cons pe_str (pa_cons pe_str (pa_cons pe_str (pa_cons pe_str (pa_cons pe_str (pa_cons pe_str (pa_cons pe_int (pa_cons pe_non (pa_cons pe_str pa_nil)))))))))) (C8.pe_c c__law_next hr (by first | decide | omega) rfl (pa_cons (pv 0) (pa_cons pe_int pa_nil))) (fun _ _ => rfl)))
      (pss_cons (ps_set (i := 2) sc__law_value.nd rfl (Or.inl rfl) (pe_lst (pa_cons (pv 1) pa_nil)))
      (pss_cons (ps_for PassesOwn.never rfl (pi_range1 rfl T.z_range (pa_cons (C8.pe_c c__law_next hr (by first | decide | omega) rfl (pa_cons (pv 0) (pa_cons pe_int pa_nil))) pa_nil)) (pg_name (i := 3) sc__law_value.nd rfl (Or.inl rfl))
      (pss_one (ps_expr (pe_bm PySem.F.plainAttrs_list PySem.F.slot_list_append PySem.F.type_list_append mt_append (pv 2) (pa_cons (C8.pe_c c__law_number hr (by first | decide | omega) rfl (pa_cons (pv 0) pa_nil)) pa_nil)))))
      (pss_cons (ps_set (i := 4) sc__law_value.nd rfl (Or.inl rfl) (C8.pe_c c__law_next hr (by first | decide | omega) rfl (pa_cons (pv 0) (pa_cons pe_int pa_nil))))
      (pss_cons (ps_if (pt_cmpR op_eq (pv 4) pe_int (nomark _)) (pss_one (ps_ret (pv 1))) pss_nil)
      (pss_cons (ps_if (pt_cmpR op_eq (pv 4) pe_int (nomark _)) (pss_one (ps_ret (pe_callTy call_list_of rfl T.z_list bt_list (pa_cons (pv 2) pa_nil)))) pss_nil)
      (pss_one (ps_ret (pe_callTy call_tuple_of rfl T.z_tuple bt_tuple (pa_cons (pv 2) pa_nil)))))))))), ?_⟩
  refine ⟨(by show 9 ≤ sizeLine; decide), fun v hv => ?_⟩
  have s1 := same_new (o := .tup [.str "table", .str "data", .str "shared", .str "leaving", .str "destroyed", .str "", .int 5, .non, .str "out"]) hv
  refine ⟨_, rfl, p, sa, 9, rfl, t.same s1, by decide, by decide, fun H1 r t1 off1 h0 h1 => ?_⟩
  obtain ⟨xs, hp⟩ := t.lst
  have n1 : v ≠ p := fun z => by rw [z, hp] at hv; cases hv
  have e1 := off1 v _ upd_same n1
  have pick : ∃ k kd, atI [V.str "table", .str "data", .str "shared", .str "leaving", .str "destroyed", .str "", .int 5, .non, .str "out"] r = some k ∧ Kind k kd := by
    rcases pick9 h0 h1 with rfl | rfl | rfl | rfl | rfl | rfl | rfl | rfl | rfl
    · exact ⟨_, _, atI_nat (j := 0) rfl, .str _⟩
    · exact ⟨_, _, atI_nat (j := 1) rfl, .str _⟩
    · exact ⟨_, _, atI_nat (j := 2) rfl, .str _⟩
    · exact ⟨_, _, atI_nat (j := 3) rfl, .str _⟩
    · exact ⟨_, _, atI_nat (j := 4) rfl, .str _⟩
    · exact ⟨_, _, atI_nat (j := 5) rfl, .str _⟩
    · exact ⟨_, _, atI_nat (j := 6) rfl, .int _ (by decide)⟩
    · exact ⟨_, _, atI_nat (j := 7) rfl, .non⟩
    · exact ⟨_, _, atI_nat (j := 8) rfl, .str _⟩
  obtain ⟨k, kd, hk, hkd⟩ := pick
  refine ⟨v, _, _, k, rfl, rfl, SqT.of e1, hk, ?_⟩
  have offA : Off p H H1 := fun c o h n => off1 c o (s1 _ _ h) n
  -- parts = [kind]
  refine ⟨k, rfl, (by show 1 ≤ sizeLine; decide), fun l hl => ?_⟩
  have s2 := same_new (o := .lst [k]) hl
  have hl0 : H l = none := by
    cases z : H l with
    | none => rfl
    | some o =>
      by_cases e : l = p
      · obtain ⟨ys, hy⟩ := t1.lst
        rw [e, hy] at hl; cases hl
      · rw [offA _ _ z e] at hl; cases hl
  have nls : l ≠ sa := fun z => by obtain ⟨ys, hy⟩ := t1.s; rw [z, hy] at hl; cases hl
  have nlp : l ≠ p := fun z => by obtain ⟨ys, hy⟩ := t1.lst; rw [z, hy] at hl; cases hl
  -- for turn in range(..)
  refine ⟨_, rfl, p, sa, 4, rfl, t1.same s2, by decide, by decide, fun H2 n t2 off2 g0 g1 => ?_⟩
  have hl2 : H2 l = some (.lst [k]) := off2 _ _ upd_same nlp
  refine ⟨n, rfl, by omega, by omega, ?_⟩
  refine for_range (lo := 0) (n := n.toNat) (fun i σ H' => ∃ ys ds vt, σ = [some (.ref p), some k, some (.ref l), vt, none] ∧ Tape H' p sa ∧ (∀ c o, H c = some o → c ≠ p → H' c = some o) ∧ H' l = some (.lst (k :: ys)) ∧ Parts H' ys ds ∧ ys.length ≤ i) ?_ ?_ ?_
  · exact ⟨[], [], none, rfl, t2, fun c o h n => off2 c o (s2 _ _ (offA c o h n)) n, hl2, .nil, Nat.le_refl _⟩
  · rintro i σ H' hi ⟨ys, ds, vt, rfl, t', off', hl', ps, hlen⟩
    refine ⟨_, rfl, .inl ⟨rfl, _, SqL.of hl'⟩, _, rfl, p, sa, rfl, t', fun H'' x d t'' off'' hx => ?_⟩
    have hl'' := off'' _ _ hl' nlp
    obtain ⟨zs, hz⟩ := t'.lst
    refine ⟨l, _, x, rfl, rfl, hl'', small1000 (by simp; omega), ?_⟩
    have tp : Tups H'' (L2.upd H'' l (.lst (k :: ys ++ [x]))) := fun b xs e => by
      rw [upd_ne (fun z => by rw [z, hl''] at e; cases e)]; exact e
    refine ⟨ys ++ [x], ds ++ [d], _, rfl, ?_, fun c o h n => ?_, by rw [upd_same]; rfl, ((ps.keep (off''.tups hz)).snoc hx).keep tp, by simp; omega⟩
    · exact t''.put nlp nls
    · rw [upd_ne (ne_of_none h hl0)]
      exact off'' c o (off' c o h n) n
  · rintro σ H' ⟨ys, ds, vt, rfl, t', off', hl', ps, hlen⟩
    refine ⟨_, rfl, p, sa, 6, rfl, t', by decide, by decide, fun H3 way t3 off3 w0 w1 => ?_⟩
    have hl3 := off3 _ _ hl' nlp
    obtain ⟨zs, hz⟩ := t'.lst
    have ps3 := ps.keep (off3.tups hz)
    have offF : Off p H H3 := fun c o h n => off3 c o (off' c o h n) n
    have dpl : DpAll K H3 (k :: ys) (kd :: ds) := .cons (Part.dp hkd.part) ps3.dp
    have okl : ∀ d ∈ kd :: ds, oneOk d := fun d hd => by
      rcases List.mem_cons.mp hd with e | e
      · rw [e]; exact (hkd.part (H := H3)).ok
      · exact ps3.ok d e
    refine ⟨_, rfl, rfl, _, rfl, ite2 (fun c => ?_) (fun c => ?_)⟩
    · refine ⟨_, rfl, q H3 k kd t3 offF (Part.dp hkd.part) (.one (hkd.part (H := H3)).ok fun ds e => ?_)⟩
      cases hkd <;> cases e
    · refine ⟨_, rfl, rfl, _, rfl, ite2 (fun c2 => ?_) (fun c2 => ?_)⟩
      · refine ⟨_, rfl, l, _, rfl, .inl (SqL.of hl3), fun z hz => ?_⟩
        have sz := same_new (o := .lst (k :: ys)) hz
        refine q _ _ (.list (kd :: ds)) (t3.same sz) (fun c o h n => sz c o (offF c o h n)) ?_ (.one trivial fun ds e => by cases e)
        exact .lst (SqL.of upd_same) (dpa_same sz dpl)
      · refine ⟨_, rfl, l, _, rfl, .inl ⟨SqL.of hl3, fun z hz => ?_⟩⟩
        have sz := same_new (o := .tup (k :: ys)) hz
        refine q _ _ (.tuple (kd :: ds)) (t3.same sz) (fun c o h n => sz c o (offF c o h n)) ?_ (.tup okl)
        exact .tup (SqT.of upd_same) (dpa_same sz dpl)
theorem room64 {k : Nat} {A : Around} (hr : Room k A) : A.units + 64 < cLine := by
  have := hr.un
  omega
/-! ### the law -/
def spLaw (K : PySem.W.Frag) : Sp := fun vs H Q _ => ∃ (a : Addr) (ns : List Int), vs = [.ref a] ∧ SqL K H a (ns.map V.int) ∧ ∀ H', Q (.bl true) H'
abbrev s_law : Stmt := top 26
theorem sc_law : FnScope ["script", "tape", "page", "turn", "value", "due", "root", "entry"] ["script"] (C8.fnScope s_law) := C8.fnScope_by (by decide +kernel)
theorem fn_law (F : C8.Def K mg "law" s_law f fd) (b : Binds K fd ["script"] []) (T : Txt mg)
    (c_place_of : C8.Cal P w K mg base 1 "place_of" spPlace []) (c__law_value : C8.Cal P w K mg base 3 "_law_value" (spValue K) []) (c__law_is_pair : C8.Cal P w K mg base 2 "_law_is_pair" (spPair K) [])
    (c__law_is_leaving : C8.Cal P w K mg base 2 "_law_is_leaving" (spB K (leav isOneL)) []) (c__law_is_out : C8.Cal P w K mg base 1 "_law_is_out" (spB K (outs isOneL)) [])
    (c_leaf_of : C8.Cal P w K mg base 4 "leaf_of" (spLeaf K) []) (c_is_root_word : C8.Cal P w K mg base 5 "is_root_word" (spB K (isRoot isOneP)) []) (c_is_entry : C8.Cal P w K mg base 5 "is_entry" (spB K (isEntry isOneP)) []) :
    FnOk P w K mg base C8.CX0 6 f fd ["script"] (spLaw K) := by
  refine C8.fn0 F.fn sc_law (fun vs H Q E h => ?_) (fun cdv A outer s H vs Q E hr h => ?_)
  · obtain ⟨a, ns, rfl, _⟩ := h; rfl
  obtain ⟨a, ns, rfl, hS, q⟩ := h
  refine ⟨_, (pss_cons (ps_set (i := 1) sc_law.nd rfl (Or.inl rfl) (pe_lst (pa_cons (pe_callTy call_list_of rfl T.z_list bt_list (pa_cons (pv 0) pa_nil)) (pa_cons pe_int (pa_cons pe_int (pa_cons pe_int pa_nil))))))
      (pss_cons (ps_for PassesOwn.never rfl (pi_range1 rfl T.z_range (pa_cons pe_int pa_nil)) (pg_name (i := 2) sc_law.nd rfl (Or.inl rfl))
      (pss_one (ps_if (pt_cmpR (op_neD (room64 hr)) (C8.pe_c c_place_of hr (by first | decide | omega) rfl (pa_cons (pv 2) pa_nil)) (pe_tup (pa_cons (pe_op op_fdiv (pv 2) pe_int) (pa_cons (pe_op op_sub (pv 2) (pe_op op_mul (pe_op op_fdiv (pv 2) pe_int) pe_int)) pa_nil))) (nomark _)) (pss_one (ps_ret pe_bl)) pss_nil)))
      (pss_cons (ps_for PassesOwn.never rfl (pi_range1 rfl T.z_range (pa_cons pe_int pa_nil)) (pg_name (i := 3) sc_law.nd rfl (Or.inl rfl))
      (pss_cons (ps_set (i := 4) sc_law.nd rfl (Or.inl rfl) (C8.pe_c c__law_value hr (by first | decide | omega) rfl (pa_cons (pv 1) pa_nil)))
      (C8.pss_cut (ps_set (i := 5) sc_law.nd rfl (Or.inl rfl) (pe_ifExp (pt_val (C8.pe_c c__law_is_pair hr (by first | decide | omega) rfl (pa_cons (pv 4) (pa_cons pe_str pa_nil)))) (pe_ix ix_tup (pv 4) pe_int (fun _ _ => rfl)) pe_non))
      (pss_cons (ps_if (pt_cmpR op_ne (C8.pe_c c_leaf_of hr (by first | decide | omega) rfl (pa_cons (pv 4) pa_nil)) (pv 5) (nomark _)) (pss_one (ps_ret pe_bl)) pss_nil)
      (C8.pss_cut (ps_set (i := 6) sc_law.nd rfl (Or.inl rfl) (pe_or (pe_cmpR op_isN (pv 4) pe_non (nomark _)) (pe_or (C8.pe_c c__law_is_pair hr (by first | decide | omega) rfl (pa_cons (pv 4) (pa_cons pe_str pa_nil))) (pe_one (C8.pe_c c__law_is_leaving hr (by first | decide | omega) rfl (pa_cons (pv 4) pa_nil))))))
      (pss_cons (ps_if (PW.pt (pw_or (pt_not (pt_val (pe_callB call_isiD rfl T.z_isinstance bt_isinstance (pa_cons (C8.pe_c c_is_root_word hr (by first | decide | omega) rfl (pa_cons (pv 4) pa_nil)) (pa_cons (pe_bltn (v := .ty "bool") rfl T.z_bool bt_bool rfl) pa_nil))))) (pw_or1 (pt_cmpR op_ne (C8.pe_c c_is_root_word hr (by first | decide | omega) rfl (pa_cons (pv 4) pa_nil)) (pv 6) (nomark _))))) (pss_one (ps_ret pe_bl)) pss_nil)
      (C8.pss_cut (ps_set (i := 7) sc_law.nd rfl (Or.inl rfl) (pe_or (pe_cmpR op_isN (pv 4) pe_non (nomark _)) (pe_or (C8.pe_c c__law_is_pair hr (by first | decide | omega) rfl (pa_cons (pv 4) (pa_cons pe_str pa_nil))) (pe_or (C8.pe_c c__law_is_pair hr (by first | decide | omega) rfl (pa_cons (pv 4) (pa_cons pe_str pa_nil))) (pe_one (C8.pe_c c__law_is_leaving hr (by first | decide | omega) rfl (pa_cons (pv 4) pa_nil)))))))
      (C8.pss_cut (ps_set (i := 7) sc_law.nd rfl (Or.inl rfl) (pe_or (pv 7) (pe_one (C8.pe_c c__law_is_out hr (by first | decide | omega) rfl (pa_cons (pv 4) pa_nil)))))
      (C8.pss_cut (ps_set (i := 7) sc_law.nd rfl (Or.inl rfl) (pe_or (pv 7) (pe_one (pe_and (pe_callB call_isiD rfl T.z_isinstance bt_isinstance (pa_cons (pv 4) (pa_cons (pe_bltn (v := .ty "str") rfl T.z_str bt_str rfl) pa_nil))) (pe_one (pe_cmpR op_eq (pv 4) pe_str (nomark _)))))))
      (pss_one (ps_if (PW.pt (pw_or (pt_not (pt_val (pe_callB call_isiD rfl T.z_isinstance bt_isinstance (pa_cons (C8.pe_c c_is_entry hr (by first | decide | omega) rfl (pa_cons (pv 4) pa_nil)) (pa_cons (pe_bltn (v := .ty "bool") rfl T.z_bool bt_bool rfl) pa_nil))))) (pw_or1 (pt_cmpR op_ne (C8.pe_c c_is_entry hr (by first | decide | omega) rfl (pa_cons (pv 4) pa_nil)) (pv 7) (nomark _))))) (pss_one (ps_ret pe_bl)) pss_nil)))))))))))
      (pss_one (ps_ret pe_bl))))), ?_⟩
  -- tape
  refine ⟨_, rfl, a, _, rfl, .inl hS, fun sa hsa => ⟨(by show 4 ≤ sizeLine; decide), fun p hp => ?_⟩⟩
  have nps : p ≠ sa := fun z => by rw [z, upd_same] at hp; cases hp
  have t0 : Tape (L2.upd (L2.upd H sa (.lst (ns.map V.int))) p (.lst [.ref sa, .int 0, .int 0, .int 5])) p sa := ⟨ns, 0, 0, 5, upd_same, by rw [upd_ne nps.symm]; exact upd_same, nps, Nat.zero_le _⟩
  -- pages
  refine ⟨16, rfl, by decide, by decide, for_range (lo := 0) (n := 16) (fun i σ H' => ∃ v2, σ = [some (.ref a), some (.ref p), v2, none, none, none, none, none] ∧ Tape H' p sa) ⟨none, rfl, t0⟩ ?_ ?_⟩
  · rintro i σ H' hi ⟨v2, rfl, t'⟩
    refine ⟨_, rfl, _, rfl, fun z1 hz1 => ?_⟩
    have s1 := same_new (o := .tup [.int ((0 + (i : Int)) / 4), .int ((0 + (i : Int)) % 4)]) hz1
    refine ⟨_, rfl, _, _, rfl, rfl, ⟨by decide, by decide⟩, _, rfl, _, rfl, _, _, rfl, rfl, ⟨by decide, by decide⟩, _, _, rfl, rfl, .inr ⟨by decide, by decide⟩, _, _, rfl, rfl, (by show 2 ≤ sizeLine; decide), fun z2 hz2 => ?_⟩
    have s2 := same_new (o := .tup [.int ((0 + (i : Int)) / 4), .int (0 + (i : Int) - (0 + (i : Int)) / 4 * 4)]) hz2
    refine ⟨.tuple [.int ((0 + (i : Int)) / 4), .int ((0 + (i : Int)) % 4)], .tuple [.int ((0 + (i : Int)) / 4), .int (0 + (i : Int) - (0 + (i : Int)) / 4 * 4)],
      .tup (SqT.of (s2 _ _ upd_same)) (.cons (.int _) (.cons (.int _) .nil)), .tup (SqT.of upd_same) (.cons (.int _) (.cons (.int _) .nil)), ?_, ?_, _, rfl, ?_⟩
    · rfl
    · rfl
    · have e : (0 + (i : Int)) % 4 = 0 + (i : Int) - (0 + (i : Int)) / 4 * 4 := by omega
      refine bF ?_ ⟨_, rfl, (t'.same s1).same s2⟩
      rw [e]
      simp [PyData.eqv, PyData.eqvAll]
  · rintro σ H' ⟨v2, rfl, t'⟩
    -- turns
    refine ⟨60, rfl, by decide, by decide, for_range (lo := 0) (n := 60) (fun i σ H' => ∃ v2 v3 v4 v5 v6 v7, σ = [some (.ref a), some (.ref p), v2, v3, v4, v5, v6, v7] ∧ Tape H' p sa) ⟨v2, none, none, none, none, none, rfl, t'⟩ ?_ ?_⟩
    · rintro i σ H' hi ⟨v2, v3, v4, v5, v6, v7, rfl, t'⟩
      refine ⟨_, rfl, p, sa, rfl, t', fun H1 x d t1 off1 hx gd => ?_⟩
      -- due
      refine ⟨fun σ' H' => σ' = [some (.ref a), some (.ref p), v2, some (.int (0 + (i : Int))), some x, some (leafV d), v6, v7] ∧ H1 = H', ?_, ?_⟩
      · refine ⟨_, rfl, x, d, "table", rfl, hx, _, rfl, ?_⟩
        cases ep : isPair d "table" with
        | true =>
          obtain ⟨k, g, rfl, e1, e2⟩ := pair_inv ep
          obtain ⟨b1, y, z, rfl, ht, hy, hz⟩ := dp2 hx
          cases hz with
          | int j =>
            have e3 : leafV (.tuple [k, .int j]) = .int j := by
              unfold leafV granV
              simp only [e1, e2, Bool.and_true, if_true]
            rw [e3]
            exact iteT ⟨_, rfl, b1, _, 1, _, rfl, rfl, ht, atI_nat (j := 1) rfl, rfl, rfl⟩
          | _ => cases e2
        | false =>
          have e3 : leafV d = .non := by
            have := leaf_pair d
            rw [ep] at this
            simpa using this
          rw [e3]
          exact iteF ⟨rfl, rfl⟩
      rintro σ' H' ⟨rfl, rfl⟩
      refine ⟨_, rfl, x, d, rfl, hx, _, rfl, leaf_scal d, _, rfl, ?_⟩
      refine bF (by simp) ?_
      -- root
      refine ⟨fun σ' H' => σ' = [some (.ref a), some (.ref p), v2, some (.int (0 + (i : Int))), some x, some (leafV d), some (.bl (isRoot isOneP d)), v7] ∧ H1 = H', ?_, ?_⟩
      · rw [root_eq gd]
        refine ⟨_, rfl, rfl, _, rfl, ?_⟩
        rw [dp_non hx]
        cases en : isNone d with
        | true => exact iteT ⟨by simp [isRoot, en], rfl⟩
        | false =>
          refine iteF ⟨_, rfl, x, d, "table", rfl, hx, _, rfl, ?_⟩
          cases ep : isPair d "table" with
          | true => exact iteT ⟨by simp [isRoot, en, ep], rfl⟩
          | false => exact iteF ⟨_, rfl, x, d, rfl, hx, by simp [isRoot, en, ep], rfl⟩
      rintro σ' H' ⟨rfl, rfl⟩
      refine ⟨_, rfl, x, d, rfl, hx, _, "bool", _, _, rfl, .bl _, kit_bool _, _, rfl, iteF ⟨_, rfl, x, d, rfl, hx, _, rfl, rfl, _, rfl, bF (by simp) ?_⟩⟩
      -- entry
      refine ⟨fun σ' H' => σ' = [some (.ref a), some (.ref p), v2, some (.int (0 + (i : Int))), some x, some (leafV d), some (.bl (isRoot isOneP d)), some (.bl (isNone d || isPair d "data" || isPair d "shared" || leav isOneL d))] ∧ H1 = H', ?_, ?_⟩
      · refine ⟨_, rfl, rfl, _, rfl, ?_⟩
        rw [dp_non hx]
        cases en : isNone d with
        | true => exact iteT ⟨by simp, rfl⟩
        | false =>
          refine iteF ⟨_, rfl, x, d, "data", rfl, hx, _, rfl, ?_⟩
          cases ep : isPair d "data" with
          | true => exact iteT ⟨by simp, rfl⟩
          | false =>
            refine iteF ⟨_, rfl, x, d, "shared", rfl, hx, _, rfl, ?_⟩
            cases es : isPair d "shared" with
            | true => exact iteT ⟨by simp, rfl⟩
            | false => exact iteF ⟨_, rfl, x, d, rfl, hx, by simp, rfl⟩
      rintro σ' H' ⟨rfl, rfl⟩
      refine ⟨fun σ' H' => σ' = [some (.ref a), some (.ref p), v2, some (.int (0 + (i : Int))), some x, some (leafV d), some (.bl (isRoot isOneP d)), some (.bl (isNone d || isPair d "data" || isPair d "shared" || leav isOneL d || outs isOneL d))] ∧ H1 = H', ?_, ?_⟩
      · refine ⟨_, rfl, _, rfl, ?_⟩
        cases (isNone d || isPair d "data" || isPair d "shared" || leav isOneL d) with
        | true => exact iteT ⟨rfl, rfl⟩
        | false => exact iteF ⟨_, rfl, x, d, rfl, hx, rfl, rfl⟩
      rintro σ' H' ⟨rfl, rfl⟩
      refine ⟨fun σ' H' => σ' = [some (.ref a), some (.ref p), v2, some (.int (0 + (i : Int))), some x, some (leafV d), some (.bl (isRoot isOneP d)), some (.bl (isEntry isOneP d))] ∧ H1 = H', ?_, ?_⟩
      · rw [entry_eq gd]
        unfold isEntry
        refine ⟨_, rfl, _, rfl, ?_⟩
        cases (isNone d || isPair d "data" || isPair d "shared" || leav isOneL d || outs isOneL d) with
        | true => exact iteT ⟨rfl, rfl⟩
        | false =>
          refine iteF ⟨_, rfl, x, "str", d, _, rfl, hx, kit_str d, _, rfl, ?_⟩
          cases hx with
          | str z =>
            refine iteT ⟨_, rfl, rfl, ?_⟩
            exact ⟨by simp [isStr], rfl⟩
          | _ => exact iteF ⟨rfl, rfl⟩
      rintro σ' H' ⟨rfl, rfl⟩
      refine ⟨_, rfl, x, d, rfl, hx, _, "bool", _, _, rfl, .bl _, kit_bool _, _, rfl, iteF ⟨_, rfl, x, d, rfl, hx, _, rfl, rfl, _, rfl, bF (by simp) ?_⟩⟩
      exact ⟨_, _, _, _, _, _, rfl, t1⟩
    · rintro σ H' ⟨v2, v3, v4, v5, v6, v7, rfl, t'⟩
      exact q H'
end
end Hc

namespace Hc
open PySem PySem.Spec PyProof.Rows L2
theorem all_mk {l : PySem.W.OpenLaw} {w : World} {K : PySem.W.Frag} {h : Heap} {mg : Str → Option Value} {fa f1 f2 f3 f4 f5 f6 f7 f8 f9 f10 f11 f12 f13 f14 f15 f16 f17 f18 f19 : Addr} (X : K.In h) (G : h.Ns mainGlobals mg) (hfa : mg "law" = some (.ref fa))
    {od1 od2 od3 od4 od5 od6 od7 od8 od9 od10 od11 od12 od13 od14 od15 od16 od17 od18 od19 an1 an2 an3 an4 an5 an6 an7 an8 an9 an10 an11 an12 an13 an14 an15 an16 an17 an18 an19 : Option Addr} {sl1 sl2 sl3 sl4 sl5 sl6 sl7 sl8 sl9 sl10 sl11 sl12 sl13 sl14 sl15 sl16 sl17 sl18 sl19 : Array (Option Value)} {oc1 oc2 oc3 oc4 oc5 oc6 oc7 oc8 oc9 oc10 oc11 oc12 oc13 oc14 oc15 oc16 oc17 oc18 oc19 kV1 kV2 kV3 kV4 kV5 kV6 kV7 kV8 kV9 kV10 kV11 kV12 kV13 kV14 kV15 kV16 kV17 kV18 kV19 dc1 dc2 dc3 dc4 dc5 dc6 dc7 dc8 dc9 dc10 dc11 dc12 dc13 dc14 dc15 dc16 dc17 dc18 dc19 pm1 pm2 pm3 pm4 pm5 pm6 pm7 pm8 pm9 pm10 pm11 pm12 pm13 pm14 pm15 pm16 pm17 pm18 pm19 cd1 cd2 cd3 cd4 cd5 cd6 cd7 cd8 cd9 cd10 cd11 cd12 cd13 cd14 cd15 cd16 cd17 cd18 cd19 ct1 ct2 ct3 ct4 ct5 ct6 ct7 ct8 ct9 ct10 ct11 ct12 ct13 ct14 ct15 ct16 ct17 ct18 ct19 : Value}
    {tLEAST tGREATEST tGRANULES tWORDS : Tok}
    (a1 : PySem.W.nsIn K mainGlobals "is_number" = some (some (.ref f1))) (l1 : K.lookup f1 = some ⟨oc1, od1, .func (PySem.W.fnOf "is_number" "is_number" (C8.fnArgs s_is_number) (C8.fnBody s_is_number) (C8.fnScope s_is_number) .none kV1 dc1 pm1 an1 cd1 ct1), sl1⟩) (c1 : PySem.W.codeIn K cd1 "is_number" = true) (k1 : PySem.W.keepIn K (.ref f1) = true)
    (a2 : PySem.W.nsIn K mainGlobals "_is_below" = some (some (.ref f2))) (l2 : K.lookup f2 = some ⟨oc2, od2, .func (PySem.W.fnOf "_is_below" "_is_below" (C8.fnArgs s__is_below) (C8.fnBody s__is_below) (C8.fnScope s__is_below) .none kV2 dc2 pm2 an2 cd2 ct2), sl2⟩) (c2 : PySem.W.codeIn K cd2 "_is_below" = true) (k2 : PySem.W.keepIn K (.ref f2) = true)
    (a3 : PySem.W.nsIn K mainGlobals "is_form" = some (some (.ref f3))) (l3 : K.lookup f3 = some ⟨oc3, od3, .func (PySem.W.fnOf "is_form" "is_form" (C8.fnArgs s_is_form) (C8.fnBody s_is_form) (C8.fnScope s_is_form) .none kV3 dc3 pm3 an3 cd3 ct3), sl3⟩) (c3 : PySem.W.codeIn K cd3 "is_form" = true) (k3 : PySem.W.keepIn K (.ref f3) = true)
    (a4 : PySem.W.nsIn K mainGlobals "is_granule" = some (some (.ref f4))) (l4 : K.lookup f4 = some ⟨oc4, od4, .func (PySem.W.fnOf "is_granule" "is_granule" (C8.fnArgs s_is_granule) (C8.fnBody s_is_granule) (C8.fnScope s_is_granule) .none kV4 dc4 pm4 an4 cd4 ct4), sl4⟩) (c4 : PySem.W.codeIn K cd4 "is_granule" = true) (k4 : PySem.W.keepIn K (.ref f4) = true)
    (a5 : PySem.W.nsIn K mainGlobals "place_of" = some (some (.ref f5))) (l5 : K.lookup f5 = some ⟨oc5, od5, .func (PySem.W.fnOf "place_of" "place_of" (C8.fnArgs s_place_of) (C8.fnBody s_place_of) (C8.fnScope s_place_of) .none kV5 dc5 pm5 an5 cd5 ct5), sl5⟩) (c5 : PySem.W.codeIn K cd5 "place_of" = true) (k5 : PySem.W.keepIn K (.ref f5) = true)
    (a6 : PySem.W.nsIn K mainGlobals "granule_of" = some (some (.ref f6))) (l6 : K.lookup f6 = some ⟨oc6, od6, .func (PySem.W.fnOf "granule_of" "granule_of" (C8.fnArgs s_granule_of) (C8.fnBody s_granule_of) (C8.fnScope s_granule_of) .none kV6 dc6 pm6 an6 cd6 ct6), sl6⟩) (c6 : PySem.W.codeIn K cd6 "granule_of" = true) (k6 : PySem.W.keepIn K (.ref f6) = true)
    (a7 : PySem.W.nsIn K mainGlobals "leaf_of" = some (some (.ref f7))) (l7 : K.lookup f7 = some ⟨oc7, od7, .func (PySem.W.fnOf "leaf_of" "leaf_of" (C8.fnArgs s_leaf_of) (C8.fnBody s_leaf_of) (C8.fnScope s_leaf_of) .none kV7 dc7 pm7 an7 cd7 ct7), sl7⟩) (c7 : PySem.W.codeIn K cd7 "leaf_of" = true) (k7 : PySem.W.keepIn K (.ref f7) = true)
    (a8 : PySem.W.nsIn K mainGlobals "_is_from_one_on" = some (some (.ref f8))) (l8 : K.lookup f8 = some ⟨oc8, od8, .func (PySem.W.fnOf "_is_from_one_on" "_is_from_one_on" (C8.fnArgs s__is_from_one_on) (C8.fnBody s__is_from_one_on) (C8.fnScope s__is_from_one_on) .none kV8 dc8 pm8 an8 cd8 ct8), sl8⟩) (c8 : PySem.W.codeIn K cd8 "_is_from_one_on" = true) (k8 : PySem.W.keepIn K (.ref f8) = true)
    (a9 : PySem.W.nsIn K mainGlobals "is_leaving" = some (some (.ref f9))) (l9 : K.lookup f9 = some ⟨oc9, od9, .func (PySem.W.fnOf "is_leaving" "is_leaving" (C8.fnArgs s_is_leaving) (C8.fnBody s_is_leaving) (C8.fnScope s_is_leaving) .none kV9 dc9 pm9 an9 cd9 ct9), sl9⟩) (c9 : PySem.W.codeIn K cd9 "is_leaving" = true) (k9 : PySem.W.keepIn K (.ref f9) = true)
    (a10 : PySem.W.nsIn K mainGlobals "is_root_word" = some (some (.ref f10))) (l10 : K.lookup f10 = some ⟨oc10, od10, .func (PySem.W.fnOf "is_root_word" "is_root_word" (C8.fnArgs s_is_root_word) (C8.fnBody s_is_root_word) (C8.fnScope s_is_root_word) .none kV10 dc10 pm10 an10 cd10 ct10), sl10⟩) (c10 : PySem.W.codeIn K cd10 "is_root_word" = true) (k10 : PySem.W.keepIn K (.ref f10) = true)
    (a11 : PySem.W.nsIn K mainGlobals "is_entry" = some (some (.ref f11))) (l11 : K.lookup f11 = some ⟨oc11, od11, .func (PySem.W.fnOf "is_entry" "is_entry" (C8.fnArgs s_is_entry) (C8.fnBody s_is_entry) (C8.fnScope s_is_entry) .none kV11 dc11 pm11 an11 cd11 ct11), sl11⟩) (c11 : PySem.W.codeIn K cd11 "is_entry" = true) (k11 : PySem.W.keepIn K (.ref f11) = true)
    (a12 : PySem.W.nsIn K mainGlobals "_law_is_granule" = some (some (.ref f12))) (l12 : K.lookup f12 = some ⟨oc12, od12, .func (PySem.W.fnOf "_law_is_granule" "_law_is_granule" (C8.fnArgs s__law_is_granule) (C8.fnBody s__law_is_granule) (C8.fnScope s__law_is_granule) .none kV12 dc12 pm12 an12 cd12 ct12), sl12⟩) (c12 : PySem.W.codeIn K cd12 "_law_is_granule" = true) (k12 : PySem.W.keepIn K (.ref f12) = true)
    (a13 : PySem.W.nsIn K mainGlobals "_law_is_pair" = some (some (.ref f13))) (l13 : K.lookup f13 = some ⟨oc13, od13, .func (PySem.W.fnOf "_law_is_pair" "_law_is_pair" (C8.fnArgs s__law_is_pair) (C8.fnBody s__law_is_pair) (C8.fnScope s__law_is_pair) .none kV13 dc13 pm13 an13 cd13 ct13), sl13⟩) (c13 : PySem.W.codeIn K cd13 "_law_is_pair" = true) (k13 : PySem.W.keepIn K (.ref f13) = true)
    (a14 : PySem.W.nsIn K mainGlobals "_law_is_leaving" = some (some (.ref f14))) (l14 : K.lookup f14 = some ⟨oc14, od14, .func (PySem.W.fnOf "_law_is_leaving" "_law_is_leaving" (C8.fnArgs s__law_is_leaving) (C8.fnBody s__law_is_leaving) (C8.fnScope s__law_is_leaving) .none kV14 dc14 pm14 an14 cd14 ct14), sl14⟩) (c14 : PySem.W.codeIn K cd14 "_law_is_leaving" = true) (k14 : PySem.W.keepIn K (.ref f14) = true)
    (a15 : PySem.W.nsIn K mainGlobals "_law_is_out" = some (some (.ref f15))) (l15 : K.lookup f15 = some ⟨oc15, od15, .func (PySem.W.fnOf "_law_is_out" "_law_is_out" (C8.fnArgs s__law_is_out) (C8.fnBody s__law_is_out) (C8.fnScope s__law_is_out) .none kV15 dc15 pm15 an15 cd15 ct15), sl15⟩) (c15 : PySem.W.codeIn K cd15 "_law_is_out" = true) (k15 : PySem.W.keepIn K (.ref f15) = true)
    (a16 : PySem.W.nsIn K mainGlobals "_law_next" = some (some (.ref f16))) (l16 : K.lookup f16 = some ⟨oc16, od16, .func (PySem.W.fnOf "_law_next" "_law_next" (C8.fnArgs s__law_next) (C8.fnBody s__law_next) (C8.fnScope s__law_next) .none kV16 dc16 pm16 an16 cd16 ct16), sl16⟩) (c16 : PySem.W.codeIn K cd16 "_law_next" = true) (k16 : PySem.W.keepIn K (.ref f16) = true)
    (a17 : PySem.W.nsIn K mainGlobals "_law_number" = some (some (.ref f17))) (l17 : K.lookup f17 = some ⟨oc17, od17, .func (PySem.W.fnOf "_law_number" "_law_number" (C8.fnArgs s__law_number) (C8.fnBody s__law_number) (C8.fnScope s__law_number) .none kV17 dc17 pm17 an17 cd17 ct17), sl17⟩) (c17 : PySem.W.codeIn K cd17 "_law_number" = true) (k17 : PySem.W.keepIn K (.ref f17) = true)
    (a18 : PySem.W.nsIn K mainGlobals "_law_value" = some (some (.ref f18))) (l18 : K.lookup f18 = some ⟨oc18, od18, .func (PySem.W.fnOf "_law_value" "_law_value" (C8.fnArgs s__law_value) (C8.fnBody s__law_value) (C8.fnScope s__law_value) .none kV18 dc18 pm18 an18 cd18 ct18), sl18⟩) (c18 : PySem.W.codeIn K cd18 "_law_value" = true) (k18 : PySem.W.keepIn K (.ref f18) = true)
    (a19 : PySem.W.nsIn K mainGlobals "law" = some (some (.ref f19))) (l19 : K.lookup f19 = some ⟨oc19, od19, .func (PySem.W.fnOf "law" "law" (C8.fnArgs s_law) (C8.fnBody s_law) (C8.fnScope s_law) .none kV19 dc19 pm19 an19 cd19 ct19), sl19⟩) (c19 : PySem.W.codeIn K cd19 "law" = true) (k19 : PySem.W.keepIn K (.ref f19) = true)
    (nLEAST : PySem.W.nsIn K mainGlobals "LEAST" = some (some (.int (-2147483648) tLEAST)))
    (nGREATEST : PySem.W.nsIn K mainGlobals "GREATEST" = some (some (.int (2147483647) tGREATEST)))
    (nGRANULES : PySem.W.nsIn K mainGlobals "GRANULES" = some (some (.int (24) tGRANULES)))
    (nWORDS : PySem.W.nsIn K mainGlobals "WORDS" = some (some (.int (4) tWORDS)))
    (ztype : PySem.W.nsIn K mainGlobals "type" = some none)
    (zint : PySem.W.nsIn K mainGlobals "int" = some none)
    (zstr : PySem.W.nsIn K mainGlobals "str" = some none)
    (zbool : PySem.W.nsIn K mainGlobals "bool" = some none)
    (ztuple : PySem.W.nsIn K mainGlobals "tuple" = some none)
    (zlist : PySem.W.nsIn K mainGlobals "list" = some none)
    (zlen : PySem.W.nsIn K mainGlobals "len" = some none)
    (zabs : PySem.W.nsIn K mainGlobals "abs" = some none)
    (zrange : PySem.W.nsIn K mainGlobals "range" = some none)
    (zisinstance : PySem.W.nsIn K mainGlobals "isinstance" = some none)
    : ∃ fd : FuncData, (∀ (s : Shared) (v : Value), BindsTo s fd ⟨[v], []⟩ [("script", v)]) ∧ ∀ base : Heap, K.In base → base.Ns mainGlobals mg → FnOk l.prog w K mg base C8.CX0 6 fa fd ["script"] (spLaw K) := by
  have e := hfa.symm.trans (PySem.W.mg_of X G a19)
  cases e
  have T : Txt mg := ⟨PySem.W.mg_none_of X G ztype, PySem.W.mg_none_of X G zint, PySem.W.mg_none_of X G zstr, PySem.W.mg_none_of X G zbool, PySem.W.mg_none_of X G ztuple, PySem.W.mg_none_of X G zlist, PySem.W.mg_none_of X G zlen, PySem.W.mg_none_of X G zabs, PySem.W.mg_none_of X G zrange, PySem.W.mg_none_of X G zisinstance, ⟨_, PySem.W.mg_of X G nLEAST, ⟨_, rfl⟩⟩, ⟨_, PySem.W.mg_of X G nGREATEST, ⟨_, rfl⟩⟩, ⟨_, PySem.W.mg_of X G nGRANULES, ⟨_, rfl⟩⟩, ⟨_, PySem.W.mg_of X G nWORDS, ⟨_, rfl⟩⟩⟩
  have F1 : C8.Def K mg "is_number" s_is_number f1 _ := ⟨⟨⟨oc1, od1, .none, kV1, dc1, pm1, an1, cd1, ct1, sl1, rfl, l1, c1⟩⟩, PySem.W.mg_of X G a1, k1⟩
  have b1 : Binds K _ ["value"] [] := F1.fn.binds rfl (ps := ["value"]) fun _ _ _ _ _ _ us hl => match us, hl with | [_], _ => rfl
  have F2 : C8.Def K mg "_is_below" s__is_below f2 _ := ⟨⟨⟨oc2, od2, .none, kV2, dc2, pm2, an2, cd2, ct2, sl2, rfl, l2, c2⟩⟩, PySem.W.mg_of X G a2, k2⟩
  have b2 : Binds K _ ["value", "many"] [] := F2.fn.binds rfl (ps := ["value", "many"]) fun _ _ _ _ _ _ us hl => match us, hl with | [_, _], _ => rfl
  have F3 : C8.Def K mg "is_form" s_is_form f3 _ := ⟨⟨⟨oc3, od3, .none, kV3, dc3, pm3, an3, cd3, ct3, sl3, rfl, l3, c3⟩⟩, PySem.W.mg_of X G a3, k3⟩
  have b3 : Binds K _ ["value", "name", "many"] [] := F3.fn.binds rfl (ps := ["value", "name", "many"]) fun _ _ _ _ _ _ us hl => match us, hl with | [_, _, _], _ => rfl
  have F4 : C8.Def K mg "is_granule" s_is_granule f4 _ := ⟨⟨⟨oc4, od4, .none, kV4, dc4, pm4, an4, cd4, ct4, sl4, rfl, l4, c4⟩⟩, PySem.W.mg_of X G a4, k4⟩
  have b4 : Binds K _ ["value"] [] := F4.fn.binds rfl (ps := ["value"]) fun _ _ _ _ _ _ us hl => match us, hl with | [_], _ => rfl
  have F5 : C8.Def K mg "place_of" s_place_of f5 _ := ⟨⟨⟨oc5, od5, .none, kV5, dc5, pm5, an5, cd5, ct5, sl5, rfl, l5, c5⟩⟩, PySem.W.mg_of X G a5, k5⟩
  have b5 : Binds K _ ["page"] [] := F5.fn.binds rfl (ps := ["page"]) fun _ _ _ _ _ _ us hl => match us, hl with | [_], _ => rfl
  have F6 : C8.Def K mg "granule_of" s_granule_of f6 _ := ⟨⟨⟨oc6, od6, .none, kV6, dc6, pm6, an6, cd6, ct6, sl6, rfl, l6, c6⟩⟩, PySem.W.mg_of X G a6, k6⟩
  have b6 : Binds K _ ["word", "name"] [] := F6.fn.binds rfl (ps := ["word", "name"]) fun _ _ _ _ _ _ us hl => match us, hl with | [_, _], _ => rfl
  have F7 : C8.Def K mg "leaf_of" s_leaf_of f7 _ := ⟨⟨⟨oc7, od7, .none, kV7, dc7, pm7, an7, cd7, ct7, sl7, rfl, l7, c7⟩⟩, PySem.W.mg_of X G a7, k7⟩
  have b7 : Binds K _ ["word"] [] := F7.fn.binds rfl (ps := ["word"]) fun _ _ _ _ _ _ us hl => match us, hl with | [_], _ => rfl
  have F8 : C8.Def K mg "_is_from_one_on" s__is_from_one_on f8 _ := ⟨⟨⟨oc8, od8, .none, kV8, dc8, pm8, an8, cd8, ct8, sl8, rfl, l8, c8⟩⟩, PySem.W.mg_of X G a8, k8⟩
  have b8 : Binds K _ ["value"] [] := F8.fn.binds rfl (ps := ["value"]) fun _ _ _ _ _ _ us hl => match us, hl with | [_], _ => rfl
  have F9 : C8.Def K mg "is_leaving" s_is_leaving f9 _ := ⟨⟨⟨oc9, od9, .none, kV9, dc9, pm9, an9, cd9, ct9, sl9, rfl, l9, c9⟩⟩, PySem.W.mg_of X G a9, k9⟩
  have b9 : Binds K _ ["value"] [] := F9.fn.binds rfl (ps := ["value"]) fun _ _ _ _ _ _ us hl => match us, hl with | [_], _ => rfl
  have F10 : C8.Def K mg "is_root_word" s_is_root_word f10 _ := ⟨⟨⟨oc10, od10, .none, kV10, dc10, pm10, an10, cd10, ct10, sl10, rfl, l10, c10⟩⟩, PySem.W.mg_of X G a10, k10⟩
  have b10 : Binds K _ ["value"] [] := F10.fn.binds rfl (ps := ["value"]) fun _ _ _ _ _ _ us hl => match us, hl with | [_], _ => rfl
  have F11 : C8.Def K mg "is_entry" s_is_entry f11 _ := ⟨⟨⟨oc11, od11, .none, kV11, dc11, pm11, an11, cd11, ct11, sl11, rfl, l11, c11⟩⟩, PySem.W.mg_of X G a11, k11⟩
  have b11 : Binds K _ ["value"] [] := F11.fn.binds rfl (ps := ["value"]) fun _ _ _ _ _ _ us hl => match us, hl with | [_], _ => rfl
  have F12 : C8.Def K mg "_law_is_granule" s__law_is_granule f12 _ := ⟨⟨⟨oc12, od12, .none, kV12, dc12, pm12, an12, cd12, ct12, sl12, rfl, l12, c12⟩⟩, PySem.W.mg_of X G a12, k12⟩
  have b12 : Binds K _ ["value"] [] := F12.fn.binds rfl (ps := ["value"]) fun _ _ _ _ _ _ us hl => match us, hl with | [_], _ => rfl
  have F13 : C8.Def K mg "_law_is_pair" s__law_is_pair f13 _ := ⟨⟨⟨oc13, od13, .none, kV13, dc13, pm13, an13, cd13, ct13, sl13, rfl, l13, c13⟩⟩, PySem.W.mg_of X G a13, k13⟩
  have b13 : Binds K _ ["value", "kind"] [] := F13.fn.binds rfl (ps := ["value", "kind"]) fun _ _ _ _ _ _ us hl => match us, hl with | [_, _], _ => rfl
  have F14 : C8.Def K mg "_law_is_leaving" s__law_is_leaving f14 _ := ⟨⟨⟨oc14, od14, .none, kV14, dc14, pm14, an14, cd14, ct14, sl14, rfl, l14, c14⟩⟩, PySem.W.mg_of X G a14, k14⟩
  have b14 : Binds K _ ["value"] [] := F14.fn.binds rfl (ps := ["value"]) fun _ _ _ _ _ _ us hl => match us, hl with | [_], _ => rfl
  have F15 : C8.Def K mg "_law_is_out" s__law_is_out f15 _ := ⟨⟨⟨oc15, od15, .none, kV15, dc15, pm15, an15, cd15, ct15, sl15, rfl, l15, c15⟩⟩, PySem.W.mg_of X G a15, k15⟩
  have b15 : Binds K _ ["value"] [] := F15.fn.binds rfl (ps := ["value"]) fun _ _ _ _ _ _ us hl => match us, hl with | [_], _ => rfl
  have F16 : C8.Def K mg "_law_next" s__law_next f16 _ := ⟨⟨⟨oc16, od16, .none, kV16, dc16, pm16, an16, cd16, ct16, sl16, rfl, l16, c16⟩⟩, PySem.W.mg_of X G a16, k16⟩
  have b16 : Binds K _ ["tape", "many"] [] := F16.fn.binds rfl (ps := ["tape", "many"]) fun _ _ _ _ _ _ us hl => match us, hl with | [_, _], _ => rfl
  have F17 : C8.Def K mg "_law_number" s__law_number f17 _ := ⟨⟨⟨oc17, od17, .none, kV17, dc17, pm17, an17, cd17, ct17, sl17, rfl, l17, c17⟩⟩, PySem.W.mg_of X G a17, k17⟩
  have b17 : Binds K _ ["tape"] [] := F17.fn.binds rfl (ps := ["tape"]) fun _ _ _ _ _ _ us hl => match us, hl with | [_], _ => rfl
  have F18 : C8.Def K mg "_law_value" s__law_value f18 _ := ⟨⟨⟨oc18, od18, .none, kV18, dc18, pm18, an18, cd18, ct18, sl18, rfl, l18, c18⟩⟩, PySem.W.mg_of X G a18, k18⟩
  have b18 : Binds K _ ["tape"] [] := F18.fn.binds rfl (ps := ["tape"]) fun _ _ _ _ _ _ us hl => match us, hl with | [_], _ => rfl
  have F19 : C8.Def K mg "law" s_law fa _ := ⟨⟨⟨oc19, od19, .none, kV19, dc19, pm19, an19, cd19, ct19, sl19, rfl, l19, c19⟩⟩, PySem.W.mg_of X G a19, k19⟩
  have b19 : Binds K _ ["script"] [] := F19.fn.binds rfl (ps := ["script"]) fun _ _ _ _ _ _ us hl => match us, hl with | [_], _ => rfl
  refine ⟨PySem.W.fnOf "law" "law" (C8.fnArgs s_law) (C8.fnBody s_law) (C8.fnScope s_law) .none kV19 dc19 pm19 an19 cd19 ct19, fun s v => .of_eq rfl, fun base _ _ => ?_⟩
  have C1 := ok_is_number (P := l.prog) (w := w) (base := base) F1 b1 T 
  have C2 := ok__is_below (P := l.prog) (w := w) (base := base) F2 b2 T 
  have C3 := ok_is_form (P := l.prog) (w := w) (base := base) F3 b3 T 
  have C4 := ok_is_granule (P := l.prog) (w := w) (base := base) F4 b4 T C2
  have C5 := ok_place_of (P := l.prog) (w := w) (base := base) F5 b5 T 
  have C6 := ok_granule_of (P := l.prog) (w := w) (base := base) F6 b6 T C3 C4
  have C7 := ok_leaf_of (P := l.prog) (w := w) (base := base) F7 b7 T C6
  have C8 := ok__is_from_one_on (P := l.prog) (w := w) (base := base) F8 b8 T C1
  have C9 := ok_is_leaving (P := l.prog) (w := w) (base := base) F9 b9 T C3 C4 C8
  have C10 := ok_is_root_word (P := l.prog) (w := w) (base := base) F10 b10 T C7 C9
  have C11 := ok_is_entry (P := l.prog) (w := w) (base := base) F11 b11 T C6 C3 C8 C9
  have C12 := ok__law_is_granule (P := l.prog) (w := w) (base := base) F12 b12 T 
  have C13 := ok__law_is_pair (P := l.prog) (w := w) (base := base) F13 b13 T C12
  have C14 := ok__law_is_leaving (P := l.prog) (w := w) (base := base) F14 b14 T C12
  have C15 := ok__law_is_out (P := l.prog) (w := w) (base := base) F15 b15 T 
  have C16 := ok__law_next (P := l.prog) (w := w) (base := base) F16 b16 T 
  have C17 := ok__law_number (P := l.prog) (w := w) (base := base) F17 b17 T C16
  have C18 := ok__law_value (P := l.prog) (w := w) (base := base) F18 b18 T C16 C17
  exact fn_law F19 b19 T C5 C18 C13 C14 C15 C7 C10 C11
end Hc
open PySem PySem.W PyProof.Rows
set_option maxRecDepth 100000 in
set_option maxHeartbeats 0 in
theorem PySem.Challenge.cw_hermitcell_k21_words_of_tables_holds : PySem.Challenge.rw_hermitcell_k21_words_of_tables.Holds := by
  w_on; o_law; k_head; (case hw => w_witness2)
  k_fill
  refine L2.walk_of (l := PySem.Challenge.rw_hermitcell_k21_words_of_tables) (n := 63) (k := 6) (x := "script") (CX := fun _ => C8.CX0) (sp := fun w => Hc.spLaw _) rfl (by decide) rfl ⟨rfl, by decide, by decide⟩ (fun w h Y => PySem.W.kIn_of Y) ?F (fun _ _ a ns hl _ hS => ⟨a, ns, rfl, hS, fun _ => rfl⟩) (fun _ _ _ _ _ h => h)
  case F =>
    intro w mg fa h KX G hmg
    refine' Hc.all_mk KX G hmg ?a1 ?l1 ?c1 ?k1 ?a2 ?l2 ?c2 ?k2 ?a3 ?l3 ?c3 ?k3 ?a4 ?l4 ?c4 ?k4 ?a5 ?l5 ?c5 ?k5 ?a6 ?l6 ?c6 ?k6 ?a7 ?l7 ?c7 ?k7 ?a8 ?l8 ?c8 ?k8 ?a9 ?l9 ?c9 ?k9 ?a10 ?l10 ?c10 ?k10 ?a11 ?l11 ?c11 ?k11 ?a12 ?l12 ?c12 ?k12 ?a13 ?l13 ?c13 ?k13 ?a14 ?l14 ?c14 ?k14 ?a15 ?l15 ?c15 ?k15 ?a16 ?l16 ?c16 ?k16 ?a17 ?l17 ?c17 ?k17 ?a18 ?l18 ?c18 ?k18 ?a19 ?l19 ?c19 ?k19 ?nLEAST ?nGREATEST ?nGRANULES ?nWORDS ?ztype ?zint ?zstr ?zbool ?ztuple ?zlist ?zlen ?zabs ?zrange ?zisinstance
    (case a1 => k_is)
    (case l1 => k_is)
    (case c1 => k_is)
    (case k1 => k_is)
    (case a2 => k_is)
    (case l2 => k_is)
    (case c2 => k_is)
    (case k2 => k_is)
    (case a3 => k_is)
    (case l3 => k_is)
    (case c3 => k_is)
    (case k3 => k_is)
    (case a4 => k_is)
    (case l4 => k_is)
    (case c4 => k_is)
    (case k4 => k_is)
    (case a5 => k_is)
    (case l5 => k_is)
    (case c5 => k_is)
    (case k5 => k_is)
    (case a6 => k_is)
    (case l6 => k_is)
    (case c6 => k_is)
    (case k6 => k_is)
    (case a7 => k_is)
    (case l7 => k_is)
    (case c7 => k_is)
    (case k7 => k_is)
    (case a8 => k_is)
    (case l8 => k_is)
    (case c8 => k_is)
    (case k8 => k_is)
    (case a9 => k_is)
    (case l9 => k_is)
    (case c9 => k_is)
    (case k9 => k_is)
    (case a10 => k_is)
    (case l10 => k_is)
    (case c10 => k_is)
    (case k10 => k_is)
    (case a11 => k_is)
    (case l11 => k_is)
    (case c11 => k_is)
    (case k11 => k_is)
    (case a12 => k_is)
    (case l12 => k_is)
    (case c12 => k_is)
    (case k12 => k_is)
    (case a13 => k_is)
    (case l13 => k_is)
    (case c13 => k_is)
    (case k13 => k_is)
    (case a14 => k_is)
    (case l14 => k_is)
    (case c14 => k_is)
    (case k14 => k_is)
    (case a15 => k_is)
    (case l15 => k_is)
    (case c15 => k_is)
    (case k15 => k_is)
    (case a16 => k_is)
    (case l16 => k_is)
    (case c16 => k_is)
    (case k16 => k_is)
    (case a17 => k_is)
    (case l17 => k_is)
    (case c17 => k_is)
    (case k17 => k_is)
    (case a18 => k_is)
    (case l18 => k_is)
    (case c18 => k_is)
    (case k18 => k_is)
    (case a19 => k_is)
    (case l19 => k_is)
    (case c19 => k_is)
    (case k19 => k_is)
    (case nLEAST => k_is)
    (case nGREATEST => k_is)
    (case nGRANULES => k_is)
    (case nWORDS => k_is)
    (case ztype => k_is)
    (case zint => k_is)
    (case zstr => k_is)
    (case zbool => k_is)
    (case ztuple => k_is)
    (case zlist => k_is)
    (case zlen => k_is)
    (case zabs => k_is)
    (case zrange => k_is)
    (case zisinstance => k_is)



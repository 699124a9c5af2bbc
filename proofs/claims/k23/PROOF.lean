import PyProof.Rows.All
import Wide.All
import OpenK.AllK
import Wide.FinOn
import HandS.ForMost
import HandS.Codes
import HandS.IsInst
import HandS.More
import HandS.OwnEq
import HandS.EndBits
import HandS.Style
import PyProof.Rows.CallKwBuiltin
import KE.KMinKey
import HandS.SortKw
import HandS.Dict
import HandS.Walk
import HandS.Zip
import HandS.TupAny
import HandS.TupMul
import HandS.Wide
import HandS.TupLe
import PySem.Challenge.RW_hermitcell_k23_what_is_a_program
set_option Elab.async false
set_option maxRecDepth 100000
set_option maxHeartbeats 4000000
set_option linter.all false
/-! Rules that the layer lacks. -/
namespace Hr
open PySem PySem.SeqAt PyProof.Rows
open AutoSeq1 (wpAny_loadPart')
open MeetsSeq MeetsSeq2 MeetsSeq3 SeqRoads2
/-! ### x in l: the items' == may run code -/
section
variable {prog : Program} {w : World} {A : Around} {E : Value → Shared → Prop}
/-- the list stands still, its items are asked one by one -/
structure Asks (prog : Program) (w : World) (A : Around) (E : Value → Shared → Prop) (l : Addr) (x : Value) (J : Shared → Prop) (bs : List Bool) : Prop where
  at_ : ∀ s, J s → ∃ (items : Array Value) (n : Nat), s.heap.get? l = some { cls := .type "list", data := .seq items n } ∧ items.size = bs.length ∧
    ∀ (i : Nat) (h : i < items.size) (h2 : i < bs.length), wpAny (model prog w) A.in1 (eqBool items[i] x) (fun r s' => r = bs[i] ∧ J s') E s
theorem in_loop {R : Result → Shared → Prop} {l : Addr} {x : Value} {J : Shared → Prop} {bs : List Bool} (hl : Asks prog w A (fun e s' => R (.error e) s') l x J bs) (k : Nat) :
    ∀ i : Nat, bs.length - i = k → ∀ s, J s → (∀ s', J s' → R (.ok (.ret (.bool ((bs.drop i).any id)))) s') →
      wpAny (model prog w) A.in1 (Builtin.«list.__contains__.loop» ⟨[.ref l, x, rawInt i], []⟩) (GQ.FinOf prog w A R) (fun e s' => R (.error e) s') s := by
  induction k with
  | zero =>
    intro i hk s h fin
    obtain ⟨items, n, hg, hz, _⟩ := hl.at_ _ h
    have f := fin s h
    rw [List.drop_eq_nil_of_le (by omega)] at f
    obtain ⟨hp, g, d, tk, os⟩ := s
    wp_walk using wpAny_loadPart' hg
    have hi : items[((i : Nat) : Int).toNat]? = none := by simp; omega
    rw [hi]
    wp_walk
    exact f
  | succ k ih =>
    intro i hk s h fin
    obtain ⟨items, n, hg, hz, turn⟩ := hl.at_ _ h
    have h1 : i < items.size := by omega
    have h2 : i < bs.length := by omega
    have ht := turn i h1 h2
    obtain ⟨hp, g, d, tk, os⟩ := s
    wp_walk using wpAny_loadPart' hg
    have hi : items[((i : Nat) : Int).toNat]? = some items[i] := by simp [h1]
    have hd : (bs.drop i).any id = (bs[i] || (bs.drop (i + 1)).any id) := by rw [List.drop_eq_getElem_cons h2, List.any_cons]; rfl
    rw [hd] at fin
    rw [hi]
    refine wpAny_bind (wpAny_mono ht (fun r s2 q2 => ?_) fun _ _ z => z)
    obtain ⟨hr, j2⟩ := q2
    subst hr
    cases hb : bs[i] with
    | true =>
      rw [hb] at fin
      have f := fin s2 j2
      obtain ⟨hp2, g2, d2, tk2, os2⟩ := s2
      wp_walk
      exact f
    | false =>
      rw [hb] at fin
      have rec_ := ih (i + 1) (by omega) s2 j2 fin
      have hc : ((i : Int) + 1) = ((i + 1 : Nat) : Int) := by omega
      obtain ⟨hp2, g2, d2, tk2, os2⟩ := s2
      wp_walk
      rw [hc]
      exact ⟨plainId_quiet plain_contains_loop _, codeAny_builtin entry_contains_loop (by
        rw [Around.under_plainId plain_contains_loop _]
        exact rec_)⟩
theorem in_list {R : Result → Shared → Prop} {l : Addr} {x : Value} {J : Shared → Prop} {bs : List Bool} (hl : Asks prog w A (fun e s' => R (.error e) s') l x J bs) {s : Shared} (h : J s)
    (fin : ∀ s', J s' → R (.ok (.ret (.bool (bs.any id)))) s') :
    wpAny (model prog w) A.in1 (Builtin.«list.__contains__» ⟨[.ref l, x], []⟩) (GQ.FinOf prog w A R) (fun e s' => R (.error e) s') s := by
  obtain ⟨items, n, hg, hz, _⟩ := hl.at_ _ h
  have rec_ := in_loop (A := A) hl _ 0 rfl s h (by simpa using fin)
  obtain ⟨hp, g, d, tk, os⟩ := s
  wp_walk using wpAny_loadPart' hg
  exact ⟨plainId_quiet plain_contains_loop _, codeAny_builtin entry_contains_loop (by
    rw [Around.under_plainId plain_contains_loop _]
    exact rec_)⟩
theorem call_in {l : Addr} {x : Value} {J : Shared → Prop} {bs : List Bool} {Q : Value → Shared → Prop} (hl : Asks prog w A E l x J bs) {s : Shared} (h : J s) (fin : ∀ s', J s' → Q (.bool (bs.any id)) s') :
    wpAny (model prog w) A (call (.builtin "list.__contains__") [.ref l, x]) Q E s := by
  obtain ⟨items, n, hg, _, _⟩ := hl.at_ _ h
  exact GQ.call_here F.slot_list_contains ⟨_, hg, rfl⟩ F.entry_list_contains (F.args_list_contains_2 _ _) (in_list (R := wants Q E) hl h fin)
theorem op_in_ {l : Addr} {x : Value} {J : Shared → Prop} {bs : List Bool} {Q : Value → Shared → Prop} (hl : Asks prog w A E l x J bs) {s : Shared} (h : J s) (fin : ∀ s', J s' → Q (.bool (bs.any id)) s') :
    wpAny (model prog w) A (compareOp .In x (.ref l)) Q E s := by
  obtain ⟨items, n, hg, _, _⟩ := hl.at_ _ h
  show wpAny _ _ (do return .bool (← contains (.ref l) x)) Q E s
  refine wpAny_bind (wpAny_contains_slot ⟨_, hg, rfl⟩ F.slot_list_contains ?_)
  exact call_in hl h fun s' j => wpAny_truthy_bool (wpAny_pure (fin s' j))
theorem op_notIn_ {l : Addr} {x : Value} {J : Shared → Prop} {bs : List Bool} {Q : Value → Shared → Prop} (hl : Asks prog w A E l x J bs) {s : Shared} (h : J s) (fin : ∀ s', J s' → Q (.bool (!bs.any id)) s') :
    wpAny (model prog w) A (compareOp .NotIn x (.ref l)) Q E s := by
  obtain ⟨items, n, hg, _, _⟩ := hl.at_ _ h
  show wpAny _ _ (do return .bool (!(← contains (.ref l) x))) Q E s
  refine wpAny_bind (wpAny_contains_slot ⟨_, hg, rfl⟩ F.slot_list_contains ?_)
  exact call_in hl h fun s' j => wpAny_truthy_bool (wpAny_pure (fin s' j))
end
end Hr

namespace Hr
open PySem PySem.Spec PyProof.Rows L2
/-! ### t[::-1] of a tuple -/
section
variable {prog : Program} {w : World} {A : Around} {E : Value → Shared → Prop} {s : Shared}
theorem rev_adj (n : Nat) : Builtin.Slice.sliceAdjust none none (-1) (n : Int) = ((n : Int) - 1, -1) := rfl
theorem rev_places (n : Nat) : Builtin.Slice.slicePlaces ((n : Int) - 1) (-1) (-1) = n := by
  unfold Builtin.Slice.slicePlaces
  rw [if_neg (by decide)]
  by_cases h : (n : Int) - 1 > -1
  · rw [if_pos h, show (-(-1) : Int) = 1 by decide, Int.ediv_one]; omega
  · rw [if_neg h]; omega
theorem rev_pick (xs : Array Value) : ((List.range xs.size).filterMap fun (m : Nat) => xs[((xs.size : Int) - 1 + (m : Int) * -1).toNat]?).toArray = xs.toList.reverse.toArray := by
  congr 1
  have key : ∀ m, m < xs.size → xs[((xs.size : Int) - 1 + (m : Int) * -1).toNat]? = xs.toList.reverse[m]? := fun m hm => by
    rw [List.getElem?_reverse (by simpa using hm), Array.length_toList, ← Array.getElem?_toList]
    congr 1
    omega
  have aux : ∀ (l : List Value), (List.range l.length).filterMap (fun m => l[m]?) = l := fun l => by
    induction l with
    | nil => rfl
    | cons x r ih =>
      rw [List.length_cons, List.range_succ_eq_map, List.filterMap_cons]
      show x :: _ = _
      rw [List.filterMap_map]
      exact congrArg (x :: ·) ih
  have e := aux xs.toList.reverse
  rw [List.length_reverse, Array.length_toList] at e
  have cong : ∀ (f g : Nat → Option Value) (l : List Nat), (∀ m ∈ l, f m = g m) → l.filterMap f = l.filterMap g := fun f g l => by
    induction l with
    | nil => exact fun _ => rfl
    | cons x r ih =>
      intro h
      rw [List.filterMap_cons, List.filterMap_cons, h x List.mem_cons_self, ih fun m hm => h m (List.mem_cons_of_mem _ hm)]
  exact (cong _ _ _ fun m hm => key m (List.mem_range.mp hm)).trans e
theorem getItem_tuple_rev {t sl : Addr} {items : Array Value} {vs : Value} {Q : Value → Shared → Prop} (ht : IsTup s.heap t items) (hs : s.heap.IsSliceOf sl .none .none vs) (ps : IsPart vs (some (-1)))
    (h : Q (.ref s.heap.objs.size) { s with heap := s.heap.push { cls := .type "tuple", data := .seq items.toList.reverse.toArray } }) (hz : items.size ≤ sizeLine) : wpAny (model prog w) A (getItem (.ref t) (.ref sl)) Q E s := by
  have hok : sizeOk (.seq items.toList.reverse.toArray) := by
    show items.toList.reverse.toArray.size ≤ sizeLine
    rw [List.size_toArray, List.length_reverse, Array.length_toList]; exact hz
  obtain ⟨os, hos, hcs, hds⟩ := id hs
  have hT : s.TypeIs (.ref sl) "slice" := ⟨os, hos, hcs⟩
  unfold getItem
  try with_reducible refine wpAny_holding ?_
  first | refine wpAny_bind (wpAny_pure ?_) | skip
  refine wpAny_bind (wpAny_sequenceKey ht.typeIs (by decide) ?_)
  refine wpAny_bind (wpAny_callSpecial?_slot (name := Str.ofString "__getitem__") ht.typeIs PyProof.Rows.slot_tuple_getitem
    (wpAny_call_entry PyProof.Rows.slot_tuple_getitem ht.typeIs entry_tuple_getitem ?_ (args_tuple_getitem _ _)))
  show wpAny _ _ (Builtin.Tuple.tupleItemsOf (.ref t) >>= _) _ _ s
  refine wpAny_bind (tupleItemsOf_ ht ?_)
  refine wpAny_bind (wpAny_typeOf hT ?_)
  rw [if_pos (by decide)]
  have happ : ∀ {Q' : Int × Int × Nat → Shared → Prop} {E' : Value → Shared → Prop} {A' : Around}, Q' ((items.size : Int) - 1, -1, items.size) s → wpAny (model prog w) A' (Builtin.Slice.sliceApplied (.ref sl) (pure (items.size : Int))) Q' E' s := fun {Q' E' A'} q => by
    unfold Builtin.Slice.sliceApplied Builtin.Slice.sliceFields
    refine wpAny_bind (wpAny_bind (wpAny_field hos hds (x := .none) rfl (wpAny_bind (wpAny_field hos hds (x := .none) rfl (wpAny_bind (wpAny_field hos hds (x := vs) rfl (wpAny_pure ?_)))))))
    cases ps with
    | int i u =>
      refine wpAny_bind (slicePart_int ?_)
      show wpAny _ _ (if ((-1 : Int) == 0) = true then _ else _) _ _ s
      rw [if_neg (by decide)]
      refine wpAny_bind (slicePart_none (wpAny_bind (slicePart_none (wpAny_bind (wpAny_pure ?_)))))
      show wpAny _ _ (match Builtin.Slice.sliceAdjust none none (-1) (items.size : Int) with | (lo, hi) => pure (lo, (-1 : Int), Builtin.Slice.slicePlaces lo hi (-1))) _ _ s
      rw [rev_adj]
      show wpAny _ _ (pure ((items.size : Int) - 1, (-1 : Int), Builtin.Slice.slicePlaces ((items.size : Int) - 1) (-1) (-1))) _ _ s
      rw [rev_places]
      exact wpAny_pure q
  refine wpAny_bind (happ ?_)
  show wpAny _ _ (if (((items.size : Int) - 1) == 0 && (-1 : Int) == 1 && items.size == items.size) = true then _ else _) _ _ s
  rw [if_neg (by simp), rev_pick]
  first
    | exact wpAny_bind (m := Builtin.Tuple.tupleExact _) (wpAny_newObj_type (wpAny_pure ⟨_, rfl, wpAny_pure h⟩) hok)
    | exact wpAny_bind (m := Builtin.Tuple.tupleExact _) (wpAny_newObj_type (wpAny_bind (wpAny_pure (wpAny_pure ⟨_, rfl, wpAny_pure h⟩))) hok)
    | exact wpAny_bind (wpAny_bind (m := Builtin.Tuple.tupleExact _) (wpAny_newObj_type (wpAny_pure (wpAny_pure ⟨_, rfl, wpAny_pure h⟩)) hok))
    | exact wpAny_bind (wpAny_bind (m := Builtin.Tuple.tupleExact _) (wpAny_newObj_type (wpAny_pure ⟨_, rfl, wpAny_pure h⟩) hok))
end
def tRevT (K : PySem.W.Frag) (te : TE) : TE := fun σ H Q => te σ H fun x H1 => ∃ a xs, x = .ref a ∧ SqT K H1 a xs ∧ ∀ p, H1 p = none → Q (.ref p) (upd H1 p (.tup xs.reverse))
theorem pe_revT {X : Cx} {e : Expr} {te : TE} {k : Nat} {p1 p2 p3 pos : Pos} (he : PE X e te) : PE X (.Subscript e (.Slice none none (some (.UnaryOp .USub (.Constant (.int 1) k p1) p2)) p3) pos) (tRevT X.K te) := by
  refine ⟨fun pins s σ H Q I h => ?_⟩
  refine Subscript_ (thn (he.run pins s σ H _ I h) fun v s1 ⟨x, H1, I1, r1, a, xs, ex, hx, q⟩ => ?_)
  subst ex
  cases r1
  have part : PO X (some (.UnaryOp .USub (.Constant (.int 1) k p1) p2)) (tPart (tUn (rU fun i => .int (-i)) (tC (.int 1)))) := po_some (pe_un un_neg pe_int)
  refine wpAny_Slice (thn (po_none.run pins s1 σ H1 (fun o H2 => o = none ∧ H2 = H1) I1 ⟨rfl, rfl⟩) fun vl s2 ⟨l, H2, I2, pl, el, e2⟩ => ?_)
  subst el e2
  refine thn (po_none.run pins s2 σ H2 (fun o H3 => o = none ∧ H3 = H2) I2 ⟨rfl, rfl⟩) fun vu s3 ⟨u, H3, I3, pu, eu, e3⟩ => ?_
  subst eu e3
  refine thn (part.run pins s3 σ H3 (fun o H4 => o = some (-1) ∧ H4 = H3) I3 ⟨1, rfl, -1, rfl, rfl, rfl⟩) fun vs s4 ⟨o, H4, I4, ps, eo, e4⟩ => ?_
  subst eo e4
  have I5 : Inv X pins σ H4 { s4 with heap := s4.heap.push { cls := .type "slice", data := .fields #[vl, vu, vs] } } := I4.kept (t' := s4.toks) fun b ob z => Heap.get?_push_of_some _ z
  obtain ⟨its, r, ht, hz⟩ := I5.tuple hx
  have hlen := r.length
  show wpAny (model X.prog X.w) X.A (subscriptTail e (.Slice none none (some (.UnaryOp .USub (.Constant (.int 1) k p1) p2)) p3) (.ref a) (.ref s4.heap.objs.size)) (EP X pins σ Q) X.xe { s4 with heap := s4.heap.push { cls := .type "slice", data := .fields #[vl, vu, vs] } }
  cases pl
  cases pu
  refine tail_any (ops := [.ref a, .ref s4.heap.objs.size]) ht.typeIs PyProof.Rows.slot_tuple_getitem.lookup ?_ (by with_unfolding_all rfl)
  refine getItem_tuple_rev ht (Heap.IsSliceOf.new _ .none .none vs) ps ?_ (by rw [List.size_toArray]; omega)
  refine ⟨.ref _, _, I5.laid (t' := s4.toks) (o := .tup xs.reverse) (fun b ob z => Heap.get?_push_of_some _ z) (Nat.le_refl _) ?_, rfl, q _ (I5.hok.fresh (Nat.le_refl _))⟩
  exact ⟨by rw [List.length_reverse]; exact hz, its.toArray.toList.reverse, by simpa using r.reverse, IsTup.new _ _⟩
end Hr

namespace Hr
open PySem PySem.Spec PyProof.Rows
/-! ### max(xs, default=d) -/
section
variable {prog : Program} {w : World} {A : Around} {R : Result → Shared → Prop} {I : Addr} {fp wr : List Addr} {n : Nat} {P : Nat → Value → Prop} {St : Nat → Heap → Prop} {kw : List (Str × Value)}
theorem max_loopK (W : Walks prog w A.in1 I fp wr n P St) (bt : Nat → Nat → Bool) (hcmp : CmpOf prog w A.in1 .Gt P bt) (S : Addr) (hSf : S ∉ fp) :
    ∀ (k j : Nat) (s : Shared) (vb : Value) (c : Nat), n - (j + 1) = k → j + 1 ≤ n → St (j + 1) s.heap → P (argBest bt j) vb →
    s.heap.get? S = some { cls := .type "list", dict := none, data := .seq #[vb, vb] c, slots := #[] } →
    (∀ v h' tk, P (argBest bt (n - 1)) v → (∀ b o, b ∉ wr → b ≠ S → s.heap.get? b = some o → h'.get? b = some o) → R (.ok (.ret v)) { s with heap := h', toks := tk }) →
    codeAny (model prog w) A (.builtin "max.loop" ⟨[.ref I, .none, .ref S], kw⟩) R s := by
  have hSw : S ∉ wr := fun h => hSf (W.sub _ h)
  have nm : (toString "max" ++ toString ".loop" : String) = "max.loop" := by decide
  intro k
  induction k with
  | zero =>
    intro j s vb c hk hj hst hPb hS hR
    have hin : j + 1 = n := by omega
    refine codeAny_builtin F.entry_max_loop ?_
    rw [Around.under_plainId F.plain_max_loop _]
    show wpAny _ A.in1 (seqItems? (.ref S) >>= _) _ _ s
    refine wpAny_bind (wpAny_seqItems hS rfl ?_)
    show wpAny _ A.in1 (tryCatch (pyNext (.ref I)) _ >>= _) _ _ s
    refine wpAny_bind (wpAny_tryCatch (W.done s _ _ (hin ▸ hst) fun h' tk hk' => ?_))
    have hS' := hk' S _ hSw hS
    show wpAny _ A.in1 (updateSeq S (fun _ => #[]) >>= _) _ _ _
    refine wpAny_bind ?_
    refine wpAny_updateSeq hS' rfl (wpAny_bind (wpAny_letGo (wpAny_pure ?_)))
    exact hR vb _ tk (by rw [← hin]; exact hPb) fun b o hbw hbS e => (Heap.get?_update_other _ _ (Ne.symm hbS)).trans (hk' b o hbw e)
  | succ k ih =>
    intro j s vb c hk hj hst hPb hS hR
    have hlt : j + 1 < n := by omega
    refine codeAny_builtin F.entry_max_loop ?_
    rw [Around.under_plainId F.plain_max_loop _]
    show wpAny _ A.in1 (seqItems? (.ref S) >>= _) _ _ s
    refine wpAny_bind (wpAny_seqItems hS rfl ?_)
    show wpAny _ A.in1 (tryCatch (pyNext (.ref I)) _ >>= _) _ _ s
    refine wpAny_bind (wpAny_tryCatch (W.item (j + 1) s _ _ hlt hst fun v h' tk hP hst' hk' => ?_))
    have hS' := hk' S _ hSw hS
    show wpAny _ A.in1 (tryCatch (holding [v, v] (richCompare .Gt v vb >>= _)) _ >>= _) _ _ _
    refine wpAny_bind (wpAny_tryCatch (wpAny_holding (wpAny_bind (hcmp (j + 1) (argBest bt j) v vb _ _ _ hP hPb ?_))))
    refine wpAny_bind (wpAny_holding (wpAny_truthy_bool ?_))
    refine wpAny_bind (wpAny_letGo (wpAny_pure ?_))
    cases hb : bt (j + 1) (argBest bt j) with
    | true =>
      simp only [if_true]
      refine wpAny_bind ?_
      refine wpAny_updateSeq hS' rfl (wpAny_bind (wpAny_letGo ?_))
      rw [nm]
      refine wpAny_pure ⟨plainId_quiet F.plain_max_loop _, ih (j + 1) _ v _ (by omega) hlt (W.frame _ _ _ hst' fun b hbf o e => ?_) (by simp only [argBest, hb, if_true]; exact hP) (Heap.get?_update_self _ hS' rfl)
        fun v' h'' tk'' hP' hk'' => ?_⟩
      · exact (Heap.get?_update_other _ _ (fun h : S = b => hSf (by rw [h]; exact hbf))).trans e
      · exact hR v' h'' tk'' hP' fun b o hbw hbS e => hk'' b o hbw hbS ((Heap.get?_update_other _ _ (Ne.symm hbS)).trans (hk' b o hbw e))
    | false =>
      simp only [Bool.false_eq_true, if_false]
      refine wpAny_bind (wpAny_letGo ?_)
      rw [nm]
      refine wpAny_pure ⟨plainId_quiet F.plain_max_loop _, ih (j + 1) _ vb c (by omega) hlt hst' (by simp only [argBest, hb, Bool.false_eq_true, if_false]; exact hPb) hS' fun v' h'' tk'' hP' hk'' => ?_⟩
      exact hR v' h'' tk'' hP' fun b o hbw hbS e => hk'' b o hbw hbS (hk' b o hbw e)
theorem max_firstK (W : Walks prog w A.in1 I fp wr n P St) (bt : Nat → Nat → Bool) (hcmp : CmpOf prog w A.in1 .Gt P bt) (S : Addr) (hSf : S ∉ fp) (hn : 0 < n) {s : Shared} {c : Nat} (hst : St 0 s.heap)
    (hS : s.heap.get? S = some { cls := .type "list", dict := none, data := .seq #[] c, slots := #[] })
    (hR : ∀ v h' tk, P (argBest bt (n - 1)) v → (∀ b o, b ∉ wr → b ≠ S → s.heap.get? b = some o → h'.get? b = some o) → R (.ok (.ret v)) { s with heap := h', toks := tk }) :
    codeAny (model prog w) A (.builtin "max.loop" ⟨[.ref I, .none, .ref S], kw⟩) R s := by
  have hSw : S ∉ wr := fun h => hSf (W.sub _ h)
  have nm : (toString "max" ++ toString ".loop" : String) = "max.loop" := by decide
  refine codeAny_builtin F.entry_max_loop ?_
  rw [Around.under_plainId F.plain_max_loop _]
  show wpAny _ A.in1 (seqItems? (.ref S) >>= _) _ _ s
  refine wpAny_bind (wpAny_seqItems hS rfl ?_)
  show wpAny _ A.in1 (tryCatch (pyNext (.ref I)) _ >>= _) _ _ s
  refine wpAny_bind (wpAny_tryCatch (W.item 0 s _ _ hn hst fun v h' tk hP hst' hk' => ?_))
  have hS' := hk' S _ hSw hS
  show wpAny _ A.in1 (updateSeq S (fun _ => #[v, v]) >>= _) _ _ _
  refine wpAny_bind ?_
  refine wpAny_updateSeq hS' rfl ?_
  rw [nm]
  refine wpAny_pure ⟨plainId_quiet F.plain_max_loop _, max_loopK W bt hcmp S hSf _ 0 _ v _ rfl hn (W.frame _ _ _ hst' fun b hbf o e => ?_) hP (Heap.get?_update_self _ hS' rfl) fun v' h'' tk'' hP' hk'' => ?_⟩
  · exact (Heap.get?_update_other _ _ (fun h : S = b => hSf (by rw [h]; exact hbf))).trans e
  · exact hR v' h'' tk'' hP' fun b o hbw hbS e => hk'' b o hbw hbS ((Heap.get?_update_other _ _ (Ne.symm hbS)).trans (hk' b o hbw e))
/-- nothing there: the default -/
theorem max_noneK {d : Value} (W : Walks prog w A.in1 I fp wr 0 P St) (S : Addr) (hSf : S ∉ fp) {s : Shared} {c : Nat} (hst : St 0 s.heap)
    (hS : s.heap.get? S = some { cls := .type "list", dict := none, data := .seq #[] c, slots := #[] })
    (hR : ∀ h' tk, (∀ b o, b ∉ wr → b ≠ S → s.heap.get? b = some o → h'.get? b = some o) → R (.ok (.ret d)) { s with heap := h', toks := tk }) :
    codeAny (model prog w) A (.builtin "max.loop" ⟨[.ref I, .none, .ref S], [(Str.ofString "default", d)]⟩) R s := by
  refine codeAny_builtin F.entry_max_loop ?_
  rw [Around.under_plainId F.plain_max_loop _]
  show wpAny _ A.in1 (seqItems? (.ref S) >>= _) _ _ s
  refine wpAny_bind (wpAny_seqItems hS rfl ?_)
  show wpAny _ A.in1 (tryCatch (pyNext (.ref I)) _ >>= _) _ _ s
  refine wpAny_bind (wpAny_tryCatch (W.done s _ _ hst fun h' tk hk' => ?_))
  exact wpAny_bind (wpAny_rule (wpAny_pure (hR h' tk fun b o hbw _ e => hk' b o hbw e)))
end
theorem max_default_args (a v : Value) : argsOk "max" ⟨[a], [(Str.ofString "default", v)]⟩ := by unfold argsOk; kernel_rfl
section
variable {prog : Program} {w : World} {A : Around} {E : Value → Shared → Prop} {s : Shared}
theorem call_maxD {l : Addr} {xs : Array (Int × Tok)} {d : Value} {Q : Value → Shared → Prop} (hh : A.handled = none) (hl : s.heap.IsList l (intItems xs))
    (h : ∀ v h' tk, (xs.size = 0 ∧ v = d ∨ 0 < xs.size ∧ (intItems xs)[argBest (fun i j => decide (numAt xs i > numAt xs j)) (xs.size - 1)]? = some v) → (∀ b o, s.heap.get? b = some o → h'.get? b = some o) → Q v { s with heap := h', toks := tk }) :
    wpAny (model prog w) A (call (.builtin "max") [.ref l] [(Str.ofString "default", d)]) Q E s := by
  have nm : (toString "max" ++ toString ".loop" : String) = "max.loop" := by decide
  refine PyProof.Rows.kmk_tree F.kind_max F.plain_max F.entry_max (max_default_args _ _) ?_
  show wpAny _ A.in1 (Builtin.Builtins.bindParams "max" ["key", "default"] 0 ⟨[], [(Str.ofString "default", d)]⟩ >>= _) _ _ s
  refine wpAny_bind (wpAny_of_eq (show Builtin.Builtins.bindParams "max" ["key", "default"] 0 ⟨[], [(Str.ofString "default", d)]⟩ = pure [none, some d] from rfl) ?_)
  refine wpAny_bind (wpAny_pure ?_)
  refine wpAny_bind (iter_intList hl fun s₂ e st hfp hlI => ?_)
  subst e
  refine wpAny_bind (wpAny_newObj_type ?_)
  have W := Walks.list (prog := prog) (w := w) (A := A.in1) hh s.heap.objs.size l hlI (intItems xs)
  have hSf : (s.heap.push { cls := .type "list_iterator", data := .fields #[.ref l, .int 0 0] }).objs.size ∉ [s.heap.objs.size, l] := fun hm => Nat.lt_irrefl _ (hfp _ hm)
  have hz : (intItems xs).size = xs.size := by simp [intItems]
  rw [nm]
  refine wpAny_pure ⟨plainId_quiet F.plain_max_loop _, ?_⟩
  have fin : ∀ v h' tk, (xs.size = 0 ∧ v = d ∨ 0 < xs.size ∧ (intItems xs)[argBest (fun i j => decide (numAt xs i > numAt xs j)) (xs.size - 1)]? = some v) →
      (∀ b o, b ∉ [s.heap.objs.size] → b ≠ (s.heap.push { cls := .type "list_iterator", data := .fields #[.ref l, .int 0 0] }).objs.size →
        ((s.heap.push { cls := .type "list_iterator", data := .fields #[.ref l, .int 0 0] }).push { cls := .type "list", data := .seq #[] }).get? b = some o → h'.get? b = some o) →
      wants Q E (.ok (.ret v)) { s with heap := h', toks := tk } := fun v h' tk hv hk => by
    refine h v h' tk hv (old_kept (l := l) fun b o hb e => ?_)
    exact hk b o hb (Nat.ne_of_lt (Heap.lt_size e)) (Heap.get?_push_of_some _ e)
  by_cases hn : 0 < xs.size
  · refine max_firstK W _ (CmpOf.ints_gt (numAt xs) (fun _ _ => intItems_at)) _ hSf (by rw [hz]; exact hn) (W.frame _ _ _ st fun b _ o e => Heap.get?_push_of_some _ e) (Heap.get?_push_size _ rfl) fun v h' tk hP hk => ?_
    exact fin v h' tk (.inr ⟨hn, by rw [hz] at hP; exact hP⟩) hk
  · have hn0 : xs.size = 0 := by omega
    have W0 : Walks prog w A.in1 s.heap.objs.size [s.heap.objs.size, l] [s.heap.objs.size] 0 (fun i v => (intItems xs)[i]? = some v) (fun i h => h.IsListIter s.heap.objs.size l i ∧ h.IsList l (intItems xs)) := by
      have W' := W
      rw [hz, hn0] at W'
      exact W'
    refine max_noneK W0 _ hSf (W.frame _ _ _ st fun b _ o e => Heap.get?_push_of_some _ e) (Heap.get?_push_size _ rfl) fun h' tk hk => ?_
    exact fin d h' tk (.inl ⟨hn0, rfl⟩) hk
end
end Hr

namespace Hr
open PySem PySem.Spec PyProof.Rows L2
def rMaxD (K : PySem.W.Frag) : List V → List V → Hp → VK → Prop := fun vs zs H Q => ∃ (a : Addr) (ns : List Int) (d : Int), vs = [.ref a] ∧ zs = [.int d] ∧ SqL K H a (ns.map V.int) ∧
  ∀ m, (ns = [] → m = d) → (ns ≠ [] → m ∈ ns ∧ ∀ k ∈ ns, k ≤ m) → Q (.int m) H
theorem call_maxDK {X : Cx} (hc : X.calm = true) : CallRK X (.builtin "max") [Str.ofString "default"] (rMaxD X.K) := by
  intro pins s σ H xs zs us ws Q I r1 r2 h
  obtain ⟨a, ns, d, rfl, rfl, hs, q⟩ := h
  obtain ⟨its, rv, pl, hz⟩ := I.list hs
  rw [Vals.ref1 r1]
  obtain ⟨wd, rfl, rd⟩ := vals1 r2
  obtain ⟨td, rfl⟩ := rd
  have hi : IntsAre its ns := intsAre_of rv
  obtain ⟨ps, e⟩ := hi.allInts.items
  have hns : ns = ps.toList.map (·.1) := by rw [← hi.numsOf, ← nums_intItems, ← e]
  have hl := pl.isList
  rw [e] at hl
  show wpAny (model X.prog X.w) X.A (call (.builtin "max") [.ref a] [(Str.ofString "default", .int d td)]) (EP X pins σ Q) X.xe s
  refine call_maxD (I.ok.hd hc) hl fun v h' tk hv hk => ?_
  have I2 : Inv X pins σ H { s with heap := h', toks := tk } := I.kept fun b o z => hk b o z
  rcases hv with ⟨h0, rfl⟩ | ⟨hp, hv⟩
  · have hn0 : ns = [] := by
      rw [hns, List.map_eq_nil_iff]
      exact List.eq_nil_of_length_eq_zero (by rw [Array.length_toList]; exact h0)
    exact ⟨.int d, H, I2, ⟨_, rfl⟩, q d (fun _ => rfl) (fun z => absurd hn0 z)⟩
  · obtain ⟨t, rfl⟩ := intItems_at hv
    obtain ⟨h1, h2⟩ := argBest_gt (numAt ps) (ps.size - 1)
    refine ⟨.int _, H, I2, ⟨_, rfl⟩, q _ (fun z => ?_) fun _ => ⟨?_, fun k hk' => ?_⟩⟩
    · rw [hns, List.map_eq_nil_iff] at z
      have z2 : ps.size = 0 := by rw [← Array.length_toList, z]; rfl
      omega
    · rw [hns, numAt_eq]; exact getD_mem (by rw [List.length_map, Array.length_toList]; omega)
    · rw [hns] at hk'
      obtain ⟨j, hj, rfl⟩ := mem_getD hk'
      rw [List.length_map, Array.length_toList] at hj
      rw [← numAt_eq]; exact h2 j (by omega)
/-! ### plain data with atoms -/
inductive D where
  | non | bl (b : Bool) | int (i : Int) | str (s : Str) | tup (ds : List D) | lst (ds : List D) | dct | atom (k : Str) (ds : List D)
mutual
def rank : D → Nat
  | .tup ds => rankL ds
  | .atom k ds => if k = "seal" ∨ k = "page" then 1 else rankL ds + 1
  | _ => 0
def rankL : List D → Nat
  | [] => 0
  | d :: ds => max (rank d) (rankL ds)
end
mutual
/-- how many parts there are, those in atoms too -/
def sz : D → Nat
  | .tup ds => szL ds + 1
  | .lst ds => szL ds + 1
  | .atom _ ds => szL ds + 1
  | _ => 1
def szL : List D → Nat
  | [] => 0
  | d :: ds => sz d + szL ds
end
/-- the fields of an atom -/
def atF (k : Str) (t : Addr) (r : Nat) : List (Str × V) := [("kind", .str k), ("term", .ref t), ("rank", .int (r : Int))]
mutual
inductive Is (C : Addr) (H : Hp) : V → D → Prop
  | non : Is C H .non .non
  | bl (b : Bool) : Is C H (.bl b) (.bl b)
  | int (i : Int) : Is C H (.int i) (.int i)
  | str (s : Str) : Is C H (.str s) (.str s)
  | tup {a : Addr} {xs : List V} {ds : List D} (h : H a = some (.tup xs)) (t : IsA C H xs ds) : Is C H (.ref a) (.tup ds)
  | lst {a : Addr} {xs : List V} {ds : List D} (h : H a = some (.lst xs)) (t : IsA C H xs ds) : Is C H (.ref a) (.lst ds)
  | dct {a : Addr} {kvs : List (Key × V)} (h : H a = some (.dK kvs)) : Is C H (.ref a) .dct
  | atom {a dx t : Addr} {k : Str} {xs : List V} {ds : List D} (h : H a = some (.ins C dx (atF k t (rank (.atom k ds))))) (h2 : H t = some (.tup xs)) (t : IsA C H xs ds) : Is C H (.ref a) (.atom k ds)
inductive IsA (C : Addr) (H : Hp) : List V → List D → Prop
  | nil : IsA C H [] []
  | cons {x : V} {xs : List V} {d : D} {ds : List D} (h : Is C H x d) (t : IsA C H xs ds) : IsA C H (x :: xs) (d :: ds)
end
mutual
theorem Is.same {C : Addr} {H H' : Hp} (e : Same H H') : ∀ {x : V} {d : D}, Is C H x d → Is C H' x d
  | _, _, .non => .non
  | _, _, .bl b => .bl b
  | _, _, .int i => .int i
  | _, _, .str s => .str s
  | _, _, .tup h t => .tup (e _ _ h) (IsA.same e t)
  | _, _, .lst h t => .lst (e _ _ h) (IsA.same e t)
  | _, _, .dct h => .dct (e _ _ h)
  | _, _, .atom h h2 t => .atom (e _ _ h) (e _ _ h2) (IsA.same e t)
theorem IsA.same {C : Addr} {H H' : Hp} (e : Same H H') : ∀ {xs : List V} {ds : List D}, IsA C H xs ds → IsA C H' xs ds
  | _, _, .nil => .nil
  | _, _, .cons h t => .cons (Is.same e h) (IsA.same e t)
end
theorem IsA.len {C : Addr} {H : Hp} : ∀ {xs : List V} {ds : List D}, IsA C H xs ds → xs.length = ds.length
  | _, _, .nil => rfl
  | _, _, .cons _ t => congrArg (· + 1) t.len
theorem IsA.at {C : Addr} {H : Hp} : ∀ {xs : List V} {ds : List D} {i : Nat} {x : V}, IsA C H xs ds → xs[i]? = some x → ∃ d, ds[i]? = some d ∧ Is C H x d
  | _, _, _, _, .nil, h => by simp at h
  | _, _, 0, _, .cons h _, e => by simp at e; subst e; exact ⟨_, rfl, h⟩
  | _, _, i + 1, _, .cons _ t, e => by
    obtain ⟨d, h1, h2⟩ := IsA.at (i := i) t (by simpa using e)
    exact ⟨d, by simpa using h1, h2⟩
theorem IsA.get {C : Addr} {H : Hp} : ∀ {xs : List V} {ds : List D} {i : Nat} {d : D}, IsA C H xs ds → ds[i]? = some d → ∃ x, xs[i]? = some x ∧ Is C H x d
  | _, _, _, _, .nil, h => by simp at h
  | _, _, 0, _, .cons h _, e => by simp at e; subst e; exact ⟨_, rfl, h⟩
  | _, _, i + 1, _, .cons _ t, e => by
    obtain ⟨d, h1, h2⟩ := IsA.get (i := i) t (by simpa using e)
    exact ⟨d, by simpa using h1, h2⟩
theorem IsA.app {C : Addr} {H : Hp} : ∀ {xs ys : List V} {ds es : List D}, IsA C H xs ds → IsA C H ys es → IsA C H (xs ++ ys) (ds ++ es)
  | _, _, _, _, .nil, t => t
  | _, _, _, _, .cons h u, t => .cons h (u.app t)
theorem IsA.rev {C : Addr} {H : Hp} : ∀ {xs : List V} {ds : List D}, IsA C H xs ds → IsA C H xs.reverse ds.reverse
  | _, _, .nil => .nil
  | _, _, .cons h t => by
    rw [List.reverse_cons, List.reverse_cons]
    exact t.rev.app (.cons h .nil)
theorem IsA.concat {C : Addr} {H : Hp} : ∀ {xs : List V} {ds : List D} {e : D}, IsA C H xs (ds.concat e) → ∃ ys y, xs = ys ++ [y] ∧ IsA C H ys ds ∧ Is C H y e
  | _, [], _, .cons h .nil => ⟨[], _, rfl, .nil, h⟩
  | _, d :: ds, e, .cons h t => by
    obtain ⟨ys, y, e1, h1, h2⟩ := IsA.concat (ds := ds) (e := e) t
    exact ⟨_ :: ys, y, by rw [e1]; rfl, .cons h h1, h2⟩
theorem rankL_app : ∀ (a b : List D), rankL (a ++ b) = max (rankL a) (rankL b)
  | [], b => by simp [rankL]
  | x :: a, b => by rw [List.cons_append]; simp only [rankL]; rw [rankL_app a b]; omega
theorem szL_app : ∀ (a b : List D), szL (a ++ b) = szL a + szL b
  | [], b => by simp [szL]
  | x :: a, b => by rw [List.cons_append]; simp only [szL]; rw [szL_app a b]; omega
theorem szL_rev : ∀ (a : List D), szL a.reverse = szL a
  | [] => rfl
  | x :: a => by rw [List.reverse_cons, szL_app, szL_rev a]; simp only [szL]; omega
theorem sz_pos (d : D) : 1 ≤ sz d := by cases d <;> simp [sz]
theorem len_szL : ∀ (a : List D), a.length ≤ szL a
  | [] => Nat.le_refl _
  | x :: a => by
    have := len_szL a
    have := sz_pos x
    simp only [szL, List.length_cons]; omega
/-! ### kinds of values -/
def kyV (C : Addr) : D → V
  | .non => .ty "NoneType" | .bl _ => .ty "bool" | .int _ => .ty "int" | .str _ => .ty "str" | .tup _ => .ty "tuple" | .lst _ => .ty "list" | .dct => .ty "dict" | .atom _ _ => .ref C
def kyU (C : Addr) : D → Value
  | .non => .type "NoneType" | .bl _ => .type "bool" | .int _ => .type "int" | .str _ => .type "str" | .tup _ => .type "tuple" | .lst _ => .type "list" | .dct => .type "dict" | .atom _ _ => .ref C
def rTyA (C : Addr) : List V → Hp → VK → Prop := fun xs H Q => ∃ x d, xs = [x] ∧ Is C H x d ∧ Q (kyV C d) H
/-- what is known of the class at C -/
structure Cl (K : PySem.W.Frag) (C : Addr) : Prop where
  cl : Cls K C
  ha : PySem.W.findIn K (.ref C) "__class__" = some (some (.builtin "object.__class__"))
  hn : PySem.W.specialIn K (.builtin "object.__class__") "__get__" = some (some (.builtin "getset_descriptor.__get__"))
  htk : PySem.W.takesIn K (.builtin "object.__class__") = some true
  hm : PySem.W.mroIn K C (.type "object") = some true
  me : PySem.W.kitOne K (.ref C) (.ref C) = some true
  mi : PySem.W.makesIn K C = true
  nK : NoAttr K C "kind"
  nT : NoAttr K C "term"
  nR : NoAttr K C "rank"
section
variable {X : Cx} {C : Addr}
theorem Is.tyX {K : PySem.W.Frag} {H : Hp} (T : Cl K C) {x : V} {d : D} (h : Is C H x d) : TyX K H x (kyU C d) := by
  cases h with
  | non => exact .base .non
  | bl b => exact .base (.bl b)
  | int i => exact .base (.int i)
  | str s => exact .base (.str s)
  | tup h _ => exact .base (.tup h)
  | lst h _ => exact .base (.lst h)
  | dct h => exact .base (.dK h)
  | atom h _ _ => exact .base (.ins h T.cl T.ha T.hn T.htk T.hm)
theorem call_typeA : CallR X (.type "type") (rTyA C) := fun pins s σ H xs us Q I r h => by
  obtain ⟨x, d, e, t, q⟩ := h
  cases t with
  | non => exact call_type1 pins s σ H xs us Q I r ⟨_, _, e, .non, q⟩
  | bl b => exact call_type1 pins s σ H xs us Q I r ⟨_, _, e, .bl b, q⟩
  | int i => exact call_type1 pins s σ H xs us Q I r ⟨_, _, e, .int i, q⟩
  | str z => exact call_type1 pins s σ H xs us Q I r ⟨_, _, e, .str z, q⟩
  | tup h _ => exact call_type1 pins s σ H xs us Q I r ⟨_, _, e, .tup (SqT.of h), q⟩
  | lst h _ => exact call_type1 pins s σ H xs us Q I r ⟨_, _, e, .lst (SqL.of h), q⟩
  | dct h => exact call_type1 pins s σ H xs us Q I r ⟨_, _, e, .dK h, q⟩
  | atom h _ _ => exact cr_type pins s σ H xs us Q I r ⟨_, _, _, _, e, h, q⟩
/-- a type is a type: of built-in ones, and of the class at C -/
def TyOk (C : Addr) (x : V) : Prop := (∃ n, x = .ty n) ∨ x = .ref C
def rIsTyA (C : Addr) : R2 := fun x y H Q => TyOk C x ∧ TyOk C y ∧ Q (.bl (decide (x = y))) H
def rIsNotTyA (C : Addr) : R2 := fun x y H Q => TyOk C x ∧ TyOk C y ∧ Q (.bl (!decide (x = y))) H
theorem kyV_ok (d : D) : TyOk C (kyV C d) := by cases d <;> first | exact .inl ⟨_, rfl⟩ | exact .inr rfl
theorem op_isTyA : OpR X (compareOp .Is) (rIsTyA C) := by
  intro pins s σ H x y v u Q I rx ry h
  obtain ⟨hx, hy, q⟩ := h
  rcases hx with ⟨m, rfl⟩ | rfl <;> rcases hy with ⟨n, rfl⟩ | rfl
  · exact op_isTy pins s σ H _ _ v u Q I rx ry ⟨m, n, rfl, rfl, by simpa using q⟩
  · cases (show v = Value.type m from rx)
    cases (show u = Value.ref _ from ry)
    exact wpAny_is_other rfl (fun z => nomatch z) ⟨.bl false, H, I, rfl, by simpa using q⟩
  · cases (show v = Value.ref _ from rx)
    cases (show u = Value.type n from ry)
    exact wpAny_is_other rfl (fun z => nomatch z) ⟨.bl false, H, I, rfl, by simpa using q⟩
  · exact op_is_cls pins s σ H _ _ v u Q I rx ry ⟨C, C, rfl, rfl, .inl rfl, by simpa using q⟩
theorem op_isNotTyA : OpR X (compareOp .IsNot) (rIsNotTyA C) := by
  intro pins s σ H x y v u Q I rx ry h
  obtain ⟨hx, hy, q⟩ := h
  rcases hx with ⟨m, rfl⟩ | rfl <;> rcases hy with ⟨n, rfl⟩ | rfl
  · exact op_isNotTy pins s σ H _ _ v u Q I rx ry ⟨m, n, rfl, rfl, by simpa using q⟩
  · cases (show v = Value.type m from rx)
    cases (show u = Value.ref _ from ry)
    exact wpAny_isNot_other rfl (fun z => nomatch z) ⟨.bl true, H, I, rfl, by simpa using q⟩
  · cases (show v = Value.ref _ from rx)
    cases (show u = Value.type n from ry)
    exact wpAny_isNot_other rfl (fun z => nomatch z) ⟨.bl true, H, I, rfl, by simpa using q⟩
  · exact op_isnot_cls pins s σ H _ _ v u Q I rx ry ⟨C, C, rfl, rfl, .inl rfl, by simpa using q⟩
/-- isinstance(x, c): c a built-in type or the class at C -/
def rIsiA (K : PySem.W.Frag) (C : Addr) : List V → Hp → VK → Prop := fun xs H Q => ∃ x d c u b, xs = [x, c] ∧ Is C H x d ∧ ClsV c u ∧ PySem.W.kitOne K (kyU C d) u = some b ∧ Q (.bl b) H
theorem call_isiA (T : Cl X.K C) : CallR X (.builtin "isinstance") (rIsiA X.K C) := fun pins s σ H xs us Q I r h => by
  obtain ⟨x, d, c, u, b, e, t, k, kt, q⟩ := h
  exact call_isi pins s σ H xs us Q I r ⟨x, c, _, _, b, e, k, t.tyX T, kt, q⟩
end
end Hr

namespace Hr
open PySem PySem.SeqAt PyProof.Rows
open AutoSeq1 (wpAny_loadPart')
open MeetsSeq MeetsSeq2 MeetsSeq3 SeqRoads2
theorem ext_tup (l : Addr) (items : Array Value) (n : Nat) (b : Addr) (items2 : Array Value) (n2 : Nat) (dd : Option Addr) (sl : Array (Option Value)) (hs0 : ¬(!items.isEmpty && Builtin.List.listTooLong (items.size + items2.size)) = true) (hs1 : items.size ≤ sizeLine) (hs2 : items.size + items2.size ≤ sizeLine + 1) :
    Meets (Builtin.«list.extend» ⟨[.ref l, .ref b], []⟩) (fun _ R s => s.heap.get? l = some { cls := .type "list", dict := none, data := .seq items n, slots := #[] } ∧ s.heap.get? b = some { cls := .type "tuple", dict := dd, data := .seq items2 n2, slots := sl } ∧
      R (.ok (.ret Value.none)) { s with heap := s.heap.update l (Obj.mapSeq fun x => x ++ items2), toks := s.toks }) :=
  .of_wp fun prog w A R s h => by
    obtain ⟨hp, g, d, tk, os⟩ := s
    obtain ⟨hl, hb, h⟩ := h
    have g1 := AutoSeq1.sub_tuple_tuple
    have g2 := AutoSeq1.sub_list_list
    have g3 := AutoSeq1.sub_tuple_list
    have g4 := AutoSeq1.sub_list_tuple
    have hz' : (items ++ items2).size ≤ sizeLine + 1 := by rw [Array.size_append]; exact hs2
    wp_walk using (wpAny_updateSeq hl rfl (hz := hs1) (_hz' := hz')), wpAny_loadPart' hl, wpAny_loadPart' hb
    exact ⟨_, rfl, h⟩
end Hr
namespace Hr
open PySem PySem.Spec PyProof.Rows L2
/-- xs.extend(t), t a tuple -/
def rExtT : V → List V → Hp → VK → Prop := fun x vs H Q => ∃ l b xs zs, x = .ref l ∧ vs = [.ref b] ∧ H l = some (.lst xs) ∧ H b = some (.tup zs) ∧ xs.length + zs.length ≤ sizeLine ∧ Q .non (upd H l (.lst (xs ++ zs)))
theorem mt_extendT {X : Cx} : MtM X "list.extend" rExtT := by
  intro pins s σ H x vs v us Q I rx rv h
  obtain ⟨l, b, xs, zs, rfl, rfl, hH, hB, hz, q⟩ := h
  cases rx
  obtain ⟨u, rfl, ru⟩ := rv.one
  cases ru
  obtain ⟨z, its, n, r, hl, e⟩ := I.lstM hH
  obtain ⟨its2, r2, ⟨⟨oc, od, dt, sl⟩, e2, hc2, n2, hd2⟩, hz2⟩ := I.tuple (SqT.of hB)
  simp only at hc2 hd2
  subst hc2 hd2
  have hl2 := r2.length
  have hsz : its.toArray.size + its2.toArray.size ≤ sizeLine := by rw [List.size_toArray, List.size_toArray]; omega
  have hlong : ¬ (!its.toArray.isEmpty && Builtin.List.listTooLong (its.toArray.size + its2.toArray.size)) = true := by
    rw [notLongL hsz, Bool.and_false]
    exact Bool.false_ne_true
  refine call_meets F.slot_list_extend ⟨_, e, rfl⟩ F.entry_list_extend (F.args_list_extend_2 _ _)
    (ext_tup l its.toArray n b its2.toArray n2 od sl hlong (by rw [List.size_toArray]; omega) (by omega)) ⟨e, e2, ?_⟩
  refine ⟨.non, _, I.lset (its' := its ++ its2) hH e (by simp) (r.append r2) ?_, rfl, q⟩
  rw [List.length_append]
  omega
end Hr

/-! .get of a written dict; a def known by another name -/
namespace Hr
open PySem PySem.Spec PyProof.Rows L2
/-- G.get(e), G a written dict at g -/
def tGetW (K : PySem.W.Frag) (g : Addr) (td ty : TE) : TE := fun σ H Q => td σ H fun x H1 => x = .ref g ∧ ty σ H1 fun y H2 => ∃ (z : Str) (r : Option Value), y = .str z ∧ PySem.W.nsIn K g z = some r ∧ (r = none → Q .non H2) ∧ ∀ u, r = some u → ∃ v, RelV v u ∧ Q v H2
theorem pe_getW {X : Cx} {g : Addr} {es : Array DictEntry} {n : Nat} {o e : Expr} {apos cpos : Pos} {td ty : TE} (D : KDict X.K X.w g es n) (ho : PE X o td) (he : PE X e ty) (m : M1 X o "get" apos e cpos := by constructor <;> rfl) : PE X (.Call (.Attribute o "get" apos) [e] [] cpos) (tGetW X.K g td ty) := by
  refine ⟨fun pins s σ H Q I h => wpAny_Call_method m.base m.few m.line PySem.F.plainAttrs_dict PySem.F.slot_dict_get PySem.F.type_dict_get (thn (ho.run pins s σ H _ I h) fun u s1 hh => ?_)⟩
  obtain ⟨x, H1, J, rx, ex, q1⟩ := hh
  subst ex
  cases rx
  refine ⟨kd_type D J, fun b q => ?_, ?_⟩
  · cases q
    exact ⟨_, J.kIn _ _ D.at_, rfl⟩
  rw [m.trees]
  refine Calls.callWith_builtin rfl (Calls.evalArgs_plain (Calls.spliced_cons (thn (he.run pins s1 σ H1 _ J q1) fun iv s2 hk => Calls.spliced_nil ?_)))
  obtain ⟨y, H2, J2, ry, z, r, ez, hr, hn, hs⟩ := hk
  subst ez
  obtain ⟨t, rfl⟩ := ry
  refine call_meetsIn PySem.F.slot_dict_get (kd_type D J2) PySem.F.entry_dict_get (PySem.F.args_dict_get_2 _ _) (meets_dict_get (PySem.strKind X.prog X.w) g (PySem.strKind_is X.prog X.w z t) D.low) ⟨_, PySem.W.mapOf_K (prog := X.prog) J2.kIn D.at_ D.lit, ?_⟩
  rw [PySem.W.find_K D.at_ hr]
  cases r with
  | none => exact ⟨.non, H2, J2.tok _, rfl, hn rfl⟩
  | some v0 =>
    obtain ⟨v, rv, q⟩ := hs v0 rfl
    exact ⟨v, H2, J2.tok _, rv, q⟩
/-- a call without arguments -/
theorem pe_c0 {X : Cx} {k j : Nat} {x : Str} {sp : Sp} {dvs : List V} {q1 q2 : Pos} (c : C8.Cal X.prog X.w X.K X.mg X.base k x sp dvs) (hr : Room j X.A) (hk : k ≤ j) (hg : Gl X x) (hdb : (x == ("__debug__" : Str)) = false := by decide) : PE X (.Call (.Name x q1) [] [] q2) (tCall sp dvs C8.E0 tNil) := by
  obtain ⟨f, fd, ps, ds, F, hm, kp, b, d⟩ := c.ex
  exact pe_call0 F (hr.mono hk) hg hm kp b d C8.pass0 hdb
/-- a def under another name -/
theorem calA {P : Program} {w : World} {K : PySem.W.Frag} {mg : Str → Option Value} {base : Heap} {x y qual : Str} {st : Stmt} {f : Addr} {fd : FuncData} {N ps : List Str} {ds : List Value} {dvs : List V} {k : Nat} {sp : Sp} (F : C8.Fun K x qual st f fd) (hm : mg y = some (.ref f)) (kp : PySem.W.keepIn K (.ref f) = true) (b : Binds K fd ps ds) (d : Vals dvs ds) (S : FnScope N ps (C8.fnScope st)) (len : ∀ vs H Q E, sp vs H Q E → vs.length = ps.length)
    (go : ∀ (cdv : Value) (A : Around) (outer : List Env) (s : Shared) (H : Hp) (vs : List V) (Q : VK) (E : XK), Room k (A.deeper (envOfC qual (C8.fnScope st) s.heap.objs.size f cdv)) → sp vs H Q E →
      ∃ t, PSs (cxOf C8.CX0 P w K mg base N qual (C8.fnScope st) f cdv A outer s H E).nox (C8.fnBody st) t ∧ t { nx := fun _ H' => Q .non H', rt := Q } (L2.start N vs) H) : C8.Cal P w K mg base (k + 1) y sp dvs :=
  ⟨f, fd, ps, ds, C8.fn0 F S len go, hm, kp, b, d⟩
end Hr

namespace Hc
open PySem PySem.Spec PyProof.Rows L2 Hr
def top (i : Nat) : Stmt := PySem.Challenge.pw_hermitcell_k23_what_is_a_program.main.body.getD i (.Pass ⟨0, 0, 0, 0⟩)
theorem bt_type : bootBuiltins "type" = some (.type "type") := by decide +kernel
theorem bt_int : bootBuiltins "int" = some (.type "int") := by decide +kernel
theorem bt_str : bootBuiltins "str" = some (.type "str") := by decide +kernel
theorem bt_bool : bootBuiltins "bool" = some (.type "bool") := by decide +kernel
theorem bt_tuple : bootBuiltins "tuple" = some (.type "tuple") := by decide +kernel
theorem bt_list : bootBuiltins "list" = some (.type "list") := by decide +kernel
theorem bt_range : bootBuiltins "range" = some (.type "range") := by decide +kernel
theorem bt_zip : bootBuiltins "zip" = some (.type "zip") := by decide +kernel
theorem bt_len : bootBuiltins "len" = some (.builtin "len") := by decide +kernel
theorem bt_all : bootBuiltins "all" = some (.builtin "all") := by decide +kernel
theorem bt_isinstance : bootBuiltins "isinstance" = some (.builtin "isinstance") := by decide +kernel
theorem bt_abs : bootBuiltins "abs" = some (.builtin "abs") := by decide +kernel
/-- a tuple of texts in the written part -/
def KTup (K : PySem.W.Frag) (a : Addr) (ts : List Str) : Prop := ∀ H : Hp, SqT K H a (ts.map V.str)
/-- the forms of instructions -/
def progF : List (Str × List Str) := [("set", ["register", "number"]), ("copy", ["register", "register"]), ("add", ["register", "register", "register"]), ("less", ["register", "register", "register"]), ("same", ["register", "register", "register"]), ("zero", ["register", "place"]), ("jump", ["place"]), ("load", ["register", "register", "register"]), ("store", ["register", "register", "register"]), ("tell", ["register", "register"]), ("token", ["register", "register"]), ("end", [])]
def formsM (k : Str) : Option (List Str) := (progF.find? fun p => decide (p.1 = k)).map (·.2)
/-- a written dict from texts to tuples of texts; none behind the names more -/
structure KForms (K : PySem.W.Frag) (mg : Str → Option Value) (w : World) (x : Str) (fs : List (Str × List Str)) (more : List Str) : Prop where
  ex : ∃ g es n, (∃ u, mg x = some u ∧ RelV (.ref g) u) ∧ KDict K w g es n ∧ (∀ p ∈ fs, ∃ t, PySem.W.nsIn K g p.1 = some (some (.ref t)) ∧ KTup K t p.2) ∧ ∀ k ∈ more, PySem.W.nsIn K g k = some none
/-- what the top has -/
structure Txt (K : PySem.W.Frag) (mg : Str → Option Value) (w : World) (C : Addr) : Prop where
  cl : Cl K C
  g_Atom : mg "Atom" = some (.ref C)
  z_type : mg "type" = none
  z_int : mg "int" = none
  z_str : mg "str" = none
  z_bool : mg "bool" = none
  z_tuple : mg "tuple" = none
  z_list : mg "list" = none
  z_range : mg "range" = none
  z_zip : mg "zip" = none
  z_len : mg "len" = none
  z_all : mg "all" = none
  z_isinstance : mg "isinstance" = none
  z_abs : mg "abs" = none
  c_LEAST : ∃ u, mg "LEAST" = some u ∧ RelV (.int (-2147483648)) u
  c_GREATEST : ∃ u, mg "GREATEST" = some u ∧ RelV (.int (2147483647)) u
  c_MOST_CHARACTERS : ∃ u, mg "MOST_CHARACTERS" = some u ∧ RelV (.int (24)) u
  c_MOST_DEEP_HOST : ∃ u, mg "MOST_DEEP_HOST" = some u ∧ RelV (.int (10)) u
  c_MOST_RANK_HOST : ∃ u, mg "MOST_RANK_HOST" = some u ∧ RelV (.int (36)) u
  c_MOST_INSTRUCTIONS : ∃ u, mg "MOST_INSTRUCTIONS" = some u ∧ RelV (.int (24)) u
  c_REGISTERS : ∃ u, mg "REGISTERS" = some u ∧ RelV (.int (4)) u
  prog : KForms K mg w "FORMS_machine" progF ["r"]
  kit : ∀ (d : D) (n : String), n ∈ ["int", "str", "tuple", "bool", "list", "dict"] → PySem.W.kitOne K (kyU C d) (.type n) = some (match d with | .int _ => n == "int" | .bl _ => n == "int" || n == "bool" | .str _ => n == "str" | .tup _ => n == "tuple" | .lst _ => n == "list" | .dct => n == "dict" | _ => false)
  kitC : ∀ d : D, PySem.W.kitOne K (kyU C d) (.ref C) = some (match d with | .atom _ _ => true | _ => false)
end Hc

namespace Hc
open PySem PySem.Spec PyProof.Rows L2 Hr
theorem ifT {p A B : Prop} [Decidable p] (hp : p) (h : A) : if decide p = true then A else B := by
  rw [decide_eq_true hp]; exact iteT h
theorem ifF {p A B : Prop} [Decidable p] (hp : ¬ p) (h : B) : if decide p = true then A else B := by
  rw [decide_eq_false hp]; exact iteF h
theorem bT {b : Bool} {A B : Prop} (hb : b = true) (h : A) : if b = true then A else B := by
  rw [hb]; exact iteT h
theorem bF {b : Bool} {A B : Prop} (hb : b = false) (h : B) : if b = true then A else B := by
  rw [hb]; exact iteF h
theorem bcase {b : Bool} {A B : Prop} (h1 : b = true → A) (h2 : b = false → B) : if b = true then A else B := by
  cases b with
  | true => exact iteT (h1 rfl)
  | false => exact iteF (h2 rfl)
/-- a comprehension without a test -/
theorem yes {σ : L2.St} {H : Hp} {A B : Hp → Prop} (h : A H) : tYes σ H fun b H3 => if b = true then A H3 else B H3 := by
  show (if true = true then A H else B H)
  exact iteT h
theorem same_new {q : Addr} {H : Hp} {o : HO} (h : H q = none) : Same H (L2.upd H q o) := fun c x e => by rw [upd_ne (ne_of_none e h)]; exact e
theorem sfree {H H' : Hp} (e : Same H H') {p : Addr} (h : H' p = none) : H p = none := e.free h
/-! ### what the defs tell -/
def numOk (i : Int) : Bool := decide (-2147483648 ≤ i) && decide (i ≤ 2147483647)
def isNum : D → Bool | .int i => numOk i | _ => false
def sgn (c : Nat) : Bool := decide (32 ≤ c) && decide (c ≤ 126)
def txtOk (s : Str) : Bool := decide (s.length ≤ 24) && s.cps.toList.all sgn
def isTxt : D → Bool | .str s => txtOk s | _ => false
/-- one value is asked; new objects may be made -/
def spB (C : Addr) (ok : D → Prop) (f : D → Bool) : Sp := fun vs H Q _ => ∃ x d, vs = [x] ∧ Is C H x d ∧ ok d ∧ ∀ H', Same H H' → Q (.bl (f d)) H'
theorem kyV_int {C : Addr} {d : D} : (kyV C d = .ty "int") ↔ ∃ i, d = .int i := by cases d <;> simp [kyV]
theorem kyV_str {C : Addr} {d : D} : (kyV C d = .ty "str") ↔ ∃ i, d = .str i := by cases d <;> simp [kyV]
theorem kyV_tup {C : Addr} {d : D} : (kyV C d = .ty "tuple") ↔ ∃ i, d = .tup i := by cases d <;> simp [kyV]
theorem kyV_atom {C : Addr} {d : D} : (kyV C d = .ref C) ↔ ∃ k i, d = .atom k i := by cases d <;> simp [kyV]
section
variable {P : Program} {w : World} {K : PySem.W.Frag} {mg : Str → Option Value} {base : Heap} {f : Addr} {fd : FuncData} {C : Addr}
abbrev s_is_number : Stmt := top 13
theorem sc_is_number : FnScope ["value"] ["value"] (C8.fnScope s_is_number) := C8.fnScope_by (by decide +kernel)
theorem ok_is_number (F : C8.Def K mg "is_number" s_is_number f fd) (b : Binds K fd ["value"] []) (T : Txt K mg w C) : C8.Cal P w K mg base 1 "is_number" (spB C (fun _ => True) isNum) [] := by
  refine C8.cal0 F b .nil sc_is_number (fun vs H Q E h => ?_) (fun cdv A outer s H vs Q E hr h => ?_)
  · obtain ⟨x, d, rfl, _⟩ := h; rfl
  obtain ⟨x, d, rfl, hx, _, q⟩ := h
  refine ⟨_, (pss_one (ps_ret (pe_and (pe_cmpR (op_isTyA (C := C)) (pe_callTy (call_typeA (C := C)) rfl T.z_type bt_type (pa_cons (pv 0) pa_nil)) (pe_bltn (v := .ty "int") rfl T.z_int bt_int rfl) (nomark _)) (pe_one (pe_chain op_le op_le (C8.pe_gc rfl T.c_LEAST) (pv 0) (C8.pe_gc rfl T.c_GREATEST)))))), ?_⟩
  have q := q H (Same.refl H)
  refine ⟨x, rfl, x, d, rfl, hx, kyV_ok d, .inl ⟨_, rfl⟩, _, rfl, ?_⟩
  by_cases c : kyV C d = .ty "int"
  · refine ifT c ?_
    obtain ⟨i, rfl⟩ := kyV_int.mp c
    cases hx
    refine ⟨_, rfl, _, _, rfl, rfl, _, rfl, ite2 (fun c => ?_) (fun c => ?_)⟩
    · refine ⟨_, _, rfl, rfl, ?_⟩
      have e : isNum (.int i) = decide (i ≤ 2147483647) := by simp [isNum, numOk, of_decide_eq_true c]
      rw [e] at q; exact q
    · have e : isNum (.int i) = false := by simp [isNum, numOk] at c ⊢; omega
      rw [e] at q; exact q
  · have e : isNum d = false := by cases d <;> first | rfl | exact absurd rfl c
    rw [e] at q
    exact ifF c q
/-- signs between the space and the tilde -/
theorem lt_one (a b : Nat) : decide (([a] : List Nat) < [b]) = decide (a < b) := by
  by_cases h : a < b
  · rw [decide_eq_true h]; exact decide_eq_true (List.cons_lt_cons_iff.mpr (.inl h))
  · rw [decide_eq_false h]
    refine decide_eq_false fun z => ?_
    rcases List.cons_lt_cons_iff.mp z with z | ⟨_, z⟩
    · exact h z
    · cases z
abbrev s_is_text : Stmt := top 14
theorem sc_is_text : FnScope ["value", "character"] ["value"] (C8.fnScope s_is_text) := C8.fnScope_by (by decide +kernel)
theorem ok_is_text (F : C8.Def K mg "is_text" s_is_text f fd) (b : Binds K fd ["value"] []) (T : Txt K mg w C) : C8.Cal P w K mg base 1 "is_text" (spB C (fun d => ∀ s, d = .str s → s.length ≤ sizeLine) isTxt) [] := by
  refine C8.cal0 F b .nil sc_is_text (fun vs H Q E h => ?_) (fun cdv A outer s H vs Q E hr h => ?_)
  · obtain ⟨x, d, rfl, _⟩ := h; rfl
  obtain ⟨x, d, rfl, hx, hz, q⟩ := h
  refine ⟨_, (pss_cons (ps_if (PW.pt (pw_or (pt_cmpR (op_isNotTyA (C := C)) (pe_callTy (call_typeA (C := C)) rfl T.z_type bt_type (pa_cons (pv 0) pa_nil)) (pe_bltn (v := .ty "str") rfl T.z_str bt_str rfl) (nomark _)) (pw_or1 (pt_cmpR op_gt (pe_callB call_len_str rfl T.z_len bt_len (pa_cons (pv 0) pa_nil)) (C8.pe_gc rfl T.c_MOST_CHARACTERS) (nomark _))))) (pss_one (ps_ret pe_bl)) pss_nil)
      (pss_one (ps_ret (pe_callB (cr_all rfl) rfl T.z_all bt_all (pa_cons (pe_lc (own := [("character", 1)]) (g := gName 1) rfl sc_is_text.nd (pi_str (pv 0)) (blkOk_by (own := [("character", 1)]) (N := ["value", "character"]) (sc := C8.fnScope s_is_text) (by decide +kernel)) (fun _ _ _ _ _ => (pg_name (i := 1) sc_is_text.nd rfl (Or.inl rfl))) (fun _ _ _ _ _ => pts_nil) (fun _ _ _ _ _ => (pe_chain op_le_str op_le_str pe_str (pv 1) pe_str))) pa_nil))))), ?_⟩
  refine ⟨x, rfl, x, d, rfl, hx, kyV_ok d, .inl ⟨_, rfl⟩, _, rfl, ?_⟩
  by_cases c : kyV C d = .ty "str"
  · rw [decide_eq_true c]
    obtain ⟨z, rfl⟩ := kyV_str.mp c
    cases hx
    refine iteF ⟨_, rfl, z, rfl, hz z rfl, _, _, rfl, rfl, _, rfl, ite2 (fun c => ?_) (fun c => ?_)⟩
    · have e : isTxt (.str z) = false := by
        simp only [isTxt, txtOk]
        rw [decide_eq_false (by simp at c; omega)]; rfl
      have q := q H (Same.refl H)
      rw [e] at q; exact q
    · have hlen : z.length ≤ 24 := by simp at c; omega
      have e : isTxt (.str z) = z.cps.toList.all sgn := by
        simp only [isTxt, txtOk]
        rw [decide_eq_true hlen]; rfl
      rw [e] at q
      refine ⟨_, rfl, z, rfl, fun Dl hD => ?_⟩
      refine lc_it (walk_str (z := z)) (fun i H' => Same H H' ∧ H' Dl = some (.lst ((z.cps.toList.take i).map fun c => V.bl (sgn c)))) ⟨same_new hD, upd_same⟩ (fun _ _ _ _ => trivial) ?_ ?_
      · rintro i y H0 H1 hi ⟨s1, hl⟩ ⟨rfl, c, hc, rfl⟩
        have hc' : z.cps.toList[i]? = some c := by rw [Array.getElem?_toList]; exact hc
        have go : ∀ H3, H3 = upd H1 Dl (.lst ((z.cps.toList.take i).map (fun c => V.bl (sgn c)) ++ [.bl (sgn c)])) → Same H H3 ∧ H3 Dl = some (.lst ((z.cps.toList.take (i + 1)).map fun c => V.bl (sgn c))) := fun H3 e3 => by
          subst e3
          refine ⟨fun p o hp => by rw [upd_ne (ne_of_none hp hD)]; exact s1 p o hp, ?_⟩
          rw [upd_same, List.take_add_one, hc', List.map_append]; rfl
        have hn : ((z.cps.toList.take i).map fun c => V.bl (sgn c)).length < sizeLine := by
          have h1 : z.cps.size = z.length := rfl
          rw [List.length_map, List.length_take, Array.length_toList]
          exact small1000 (by omega)
        refine ⟨rfl, yes ?_⟩
        refine ⟨_, rfl, _, _, rfl, rfl, _, rfl, ?_⟩
        have e1 : (!decide (([c] : List Nat) < [32])) = decide (32 ≤ c) := by
          rw [lt_one]; by_cases h : c < 32
          · rw [decide_eq_true h, decide_eq_false (by omega)]; rfl
          · rw [decide_eq_false h, decide_eq_true (by omega)]; rfl
        have e2 : (!decide (([126] : List Nat) < [c])) = decide (c ≤ 126) := by
          rw [lt_one]; by_cases h : 126 < c
          · rw [decide_eq_true h, decide_eq_false (by omega)]; rfl
          · rw [decide_eq_false h, decide_eq_true (by omega)]; rfl
        refine bcase (b := !decide (([c] : List Nat) < [32])) (fun hb => ?_) (fun hb => ?_)
        · refine ⟨_, _, rfl, rfl, _, hl, hn, go _ ?_⟩
          have : (!decide (([126] : List Nat) < [c])) = sgn c := by rw [e2]; rw [e1] at hb; simp only [sgn]; rw [hb, Bool.true_and]
          exact congrArg (fun k => upd H1 Dl (.lst ((z.cps.toList.take i).map (fun c => V.bl (sgn c)) ++ [.bl k]))) this
        · refine ⟨_, hl, hn, go _ ?_⟩
          have : false = sgn c := by rw [e1] at hb; simp only [sgn]; rw [hb, Bool.false_and]
          exact congrArg (fun k => upd H1 Dl (.lst ((z.cps.toList.take i).map (fun c => V.bl (sgn c)) ++ [.bl k]))) this
      · rintro H1 ⟨s1, hl⟩
        have ea : z.cps.toList.take z.cps.size = z.cps.toList := List.take_of_length_le (by rw [Array.length_toList]; exact Nat.le_refl _)
        rw [ea] at hl
        refine ⟨Dl, z.cps.toList.map sgn, rfl, SqL.of (by rw [List.map_map]; exact hl), ?_⟩
        have e9 : (z.cps.toList.map sgn).all id = z.cps.toList.all sgn := by rw [List.all_map]; rfl
        rw [e9]
        exact q H1 s1
  · have e : isTxt d = false := by cases d <;> first | rfl | exact absurd rfl c
    have q := q H (Same.refl H)
    rw [e] at q
    rw [decide_eq_false c]
    exact iteT q
end
end Hc

namespace Hc
open PySem PySem.Spec PyProof.Rows L2 Hr
mutual
/-- a word, nested so deep at most -/
def okW (md mr : Nat) : Nat → D → Bool
  | n, .tup ds => decide (n ≠ md) && okA md mr (n + 1) ds
  | _, .atom k ds => decide (rank (.atom k ds) ≤ mr)
  | _, .non => true
  | _, .int i => numOk i
  | _, .str s => txtOk s
  | _, _ => false
def okA (md mr : Nat) : Nat → List D → Bool
  | _, [] => true
  | n, d :: ds => okW md mr n d && okA md mr n ds
end
mutual
/-- no text is too long for the model's len -/
def txl : D → Prop
  | .str s => s.length ≤ sizeLine
  | .tup ds => txlL ds
  | .lst ds => txlL ds
  | .atom _ ds => txlL ds
  | _ => True
def txlL : List D → Prop
  | [] => True
  | d :: ds => txl d ∧ txlL ds
end
/-- data of a size that the lists bear -/
def Fit (d : D) : Prop := sz d ≤ 1000000 ∧ txl d
theorem okA_app (md mr n : Nat) : ∀ a b : List D, okA md mr n (a ++ b) = (okA md mr n a && okA md mr n b)
  | [], b => by simp [okA]
  | x :: a, b => by rw [List.cons_append]; simp only [okA]; rw [okA_app md mr n a b, Bool.and_assoc]
theorem okA_rev (md mr n : Nat) : ∀ a : List D, okA md mr n a.reverse = okA md mr n a
  | [] => rfl
  | x :: a => by rw [List.reverse_cons, okA_app, okA_rev md mr n a]; simp only [okA]; rw [Bool.and_true, Bool.and_comm]
theorem txlL_mem : ∀ {ds : List D} {d : D}, txlL ds → d ∈ ds → txl d
  | x :: ds, d, h, hd => by
    simp only [txlL] at h
    rcases List.mem_cons.mp hd with rfl | hd
    · exact h.1
    · exact txlL_mem h.2 hd
/-- the stack: pairs of a part and how deep it lies; the parts stood ahead of the call -/
inductive Stk (C : Addr) (H0 H : Hp) : List V → List (D × Nat) → Prop
  | nil : Stk C H0 H [] []
  | cons {q : Addr} {x : V} {d : D} {n : Nat} {xs : List V} {ps : List (D × Nat)} (h : H q = some (.tup [x, .int (n : Int)])) (hx : Is C H0 x d) (t : Stk C H0 H xs ps) : Stk C H0 H (.ref q :: xs) ((d, n) :: ps)
/-- the tuples stand -/
def Tups (H H' : Hp) : Prop := ∀ b xs, H b = some (.tup xs) → H' b = some (.tup xs)
theorem Tups.put {H : Hp} {l : Addr} {xs ys : List V} (h : H l = some (.lst xs)) : Tups H (L2.upd H l (.lst ys)) := fun b zs e => by
  rw [upd_ne (fun z => by rw [z, h] at e; cases e)]; exact e
theorem Tups.trans {H H1 H2 : Hp} (a : Tups H H1) (b : Tups H1 H2) : Tups H H2 := fun c xs h => b c xs (a c xs h)
theorem Tups.of {H H1 : Hp} (a : Same H H1) : Tups H H1 := fun c xs h => a c _ h
theorem Stk.keep {C : Addr} {H0 H H' : Hp} (e : Tups H H') : ∀ {xs : List V} {ps : List (D × Nat)}, Stk C H0 H xs ps → Stk C H0 H' xs ps
  | _, _, .nil => .nil
  | _, _, .cons h hx t => .cons (e _ _ h) hx (t.keep e)
theorem Stk.len {C : Addr} {H0 H : Hp} : ∀ {xs : List V} {ps : List (D × Nat)}, Stk C H0 H xs ps → xs.length = ps.length
  | _, _, .nil => rfl
  | _, _, .cons _ _ t => congrArg (· + 1) t.len
theorem Stk.app {C : Addr} {H0 H : Hp} : ∀ {xs ys : List V} {ps qs : List (D × Nat)}, Stk C H0 H xs ps → Stk C H0 H ys qs → Stk C H0 H (xs ++ ys) (ps ++ qs)
  | _, _, _, _, .nil, t => t
  | _, _, _, _, .cons h hx u, t => .cons h hx (u.app t)
theorem Stk.last {C : Addr} {H0 H : Hp} : ∀ {xs : List V} {ps : List (D × Nat)}, Stk C H0 H xs ps → ps ≠ [] → ∃ (q : Addr) (x : V) (d : D) (n : Nat) (ys : List V) (qs : List (D × Nat)), xs = ys ++ [.ref q] ∧ ps = qs ++ [(d, n)] ∧ H q = some (.tup [x, .int (n : Int)]) ∧ Is C H0 x d ∧ Stk C H0 H ys qs
  | _, _, .nil, h => absurd rfl h
  | _, _, .cons (ps := []) h hx .nil, _ => ⟨_, _, _, _, [], [], rfl, rfl, h, hx, .nil⟩
  | _, _, .cons (ps := p :: ps) h hx t, _ => by
    obtain ⟨q, x, d, n, ys, qs, e1, e2, h1, h2, h3⟩ := t.last (List.cons_ne_nil _ _)
    rw [e1, e2]
    exact ⟨q, x, d, n, _ :: ys, _ :: qs, rfl, rfl, h1, h2, .cons h hx h3⟩
/-- a list that is no argument of ours changes: what stood stays -/
theorem same_put {H H' : Hp} {l : Addr} {o : HO} (s : Same H H') (h : H l = none) : Same H (L2.upd H' l o) := fun b u e => by
  rw [upd_ne (ne_of_none e h)]; exact s b u e
def okS (md mr : Nat) : List (D × Nat) → Bool
  | [] => true
  | p :: ps => okW md mr p.2 p.1 && okS md mr ps
def szS : List (D × Nat) → Nat
  | [] => 0
  | p :: ps => sz p.1 + szS ps
theorem okS_app (md mr : Nat) : ∀ a b, okS md mr (a ++ b) = (okS md mr a && okS md mr b)
  | [], b => by simp [okS]
  | x :: a, b => by rw [List.cons_append]; simp only [okS]; rw [okS_app md mr a b, Bool.and_assoc]
theorem szS_app : ∀ a b, szS (a ++ b) = szS a + szS b
  | [], b => by simp [szS]
  | x :: a, b => by rw [List.cons_append]; simp only [szS]; rw [szS_app a b]; omega
theorem len_szS : ∀ a : List (D × Nat), a.length ≤ szS a
  | [] => Nat.le_refl _
  | x :: a => by
    have := len_szS a
    have := sz_pos x.1
    simp only [szS, List.length_cons]; omega
theorem okS_map (md mr n : Nat) : ∀ ds : List D, okS md mr (ds.map fun d => (d, n)) = okA md mr n ds
  | [] => by simp [okS, okA]
  | d :: ds => by simp only [List.map_cons, okS, okA]; rw [okS_map md mr n ds]
theorem szS_map (n : Nat) : ∀ ds : List D, szS (ds.map fun d => (d, n)) = szL ds
  | [] => by simp [szS, szL]
  | d :: ds => by simp only [List.map_cons, szS, szL]; rw [szS_map n ds]
def spWithin (C : Addr) : Sp := fun vs H Q _ => ∃ x d, ∃ md mr : Nat, vs = [x, .int (md : Int), .int (mr : Int)] ∧ Is C H x d ∧ Fit d ∧ ∀ H', Same H H' → Q (.bl (okW md mr 0 d)) H'
section
variable {P : Program} {w : World} {K : PySem.W.Frag} {mg : Str → Option Value} {base : Heap} {f : Addr} {fd : FuncData} {C : Addr}
abbrev s__is_within : Stmt := top 19
theorem sc__is_within : FnScope ["value", "most_deep", "most_rank", "todo", "part", "deep", "each"] ["value", "most_deep", "most_rank"] (C8.fnScope s__is_within) := C8.fnScope_by (by decide +kernel)
theorem ok__is_within (F : C8.Def K mg "_is_within" s__is_within f fd) (b : Binds K fd ["value", "most_deep", "most_rank"] []) (T : Txt K mg w C) (c_is_number : C8.Cal P w K mg base 1 "is_number" (spB C (fun _ => True) isNum) [])
    (c_is_text : C8.Cal P w K mg base 1 "is_text" (spB C (fun d => ∀ s, d = .str s → s.length ≤ sizeLine) isTxt) []) : C8.Cal P w K mg base 2 "_is_within" (spWithin C) [] := by
  refine C8.cal0 F b .nil sc__is_within (fun vs H Q E h => ?_) (fun cdv A outer s H vs Q E hr h => ?_)
  · obtain ⟨x, d, md, mr, rfl, _⟩ := h; rfl
  obtain ⟨x, d, md, mr, rfl, hx, hz, q⟩ := h
  refine ⟨_, (pss_cons (ps_set (i := 3) sc__is_within.nd rfl (Or.inl rfl) (pe_lst (pa_cons (pe_tup (pa_cons (pv 0) (pa_cons pe_int pa_nil))) pa_nil)))
      (pss_cons (ps_while PassesOwn.never (pt_truth (pv 3) (fun _ => rfl))
      (pss_cons (ps_asg (pe_bm0 PySem.F.plainAttrs_list PySem.F.slot_list_pop PySem.F.type_list_pop mt_pop (pv 3)) (pg_tup rfl (pgs_cons (pg_name (i := 4) sc__is_within.nd rfl (Or.inl rfl)) (pgs_cons (pg_name (i := 5) sc__is_within.nd rfl (Or.inr rfl)) pgs_nil))))
      (pss_one (ps_if (pt_cmpR (op_isTyA (C := C)) (pe_callTy (call_typeA (C := C)) rfl T.z_type bt_type (pa_cons (pv 4) pa_nil)) (pe_bltn (v := .ty "tuple") rfl T.z_tuple bt_tuple rfl) (nomark _)) (pss_cons (ps_if (pt_cmpR op_eq (pv 5) (pv 1) (nomark _)) (pss_one (ps_ret pe_bl)) pss_nil)
      (pss_one (ps_expr (pe_bm PySem.F.plainAttrs_list PySem.F.slot_list_extend PySem.F.type_list_extend mt_extend (pv 3) (pa_cons (pe_lc (own := [("each", 6)]) (g := gName 6) rfl sc__is_within.nd (pi_tup (pv 4)) (blkOk_by (own := [("each", 6)]) (N := ["value", "most_deep", "most_rank", "todo", "part", "deep", "each"]) (sc := C8.fnScope s__is_within) (by decide +kernel)) (fun _ _ _ _ _ => (pg_name (i := 6) sc__is_within.nd rfl (Or.inl rfl))) (fun _ _ _ _ _ => pts_nil) (fun _ _ _ _ _ => (pe_tup (pa_cons (pv 6) (pa_cons (pe_op op_add (pv 5) pe_int) pa_nil))))) pa_nil))))) (pss_one (ps_if (pt_cmpR (op_isTyA (C := C)) (pe_callTy (call_typeA (C := C)) rfl T.z_type bt_type (pa_cons (pv 4) pa_nil)) (pe_glob (v := .ref C) rfl T.g_Atom rfl) (nomark _)) (pss_one (ps_if (pt_cmpR op_gt (pe_fld (pv 4) rfl) (pv 2) (nomark _)) (pss_one (ps_ret pe_bl)) pss_nil)) (pss_one (ps_if (PW.pt (pw_and (pt_cmpR op_notN (pv 4) pe_non (nomark _)) (pw_and (pt_not (pt_val (C8.pe_c c_is_number hr (by first | decide | omega) rfl (pa_cons (pv 4) pa_nil)))) (pw_and1 (pt_not (pt_val (C8.pe_c c_is_text hr (by first | decide | omega) rfl (pa_cons (pv 4) pa_nil)))))))) (pss_one (ps_ret pe_bl)) pss_nil))))))))
      (pss_one (ps_ret pe_bl)))), ?_⟩
  refine ⟨_, rfl, (by show 2 ≤ sizeLine; decide), fun q0 hq0 => ⟨(by show 1 ≤ sizeLine; decide), fun l hl => ?_⟩⟩
  have s1 := same_new (o := .tup [x, .int 0]) hq0
  have s2 := same_new (o := .lst [.ref q0]) hl
  have hl0 : H l = none := s1.free hl
  refine ⟨fun m σ' H' => ∃ v4 v5 xs ps, σ' = [some x, some (.int (md : Int)), some (.int (mr : Int)), some (.ref l), v4, v5, none] ∧ Same H H' ∧ H' l = some (.lst xs) ∧ Stk C H H' xs ps ∧ okS md mr ps = okW md mr 0 d ∧ m = szS ps ∧ szS ps ≤ 1000000 ∧ ∀ p ∈ ps, txl p.1,
    ⟨_, none, none, [.ref q0], [(d, 0)], rfl, s1.trans s2, upd_same, .cons (s2 _ _ upd_same) hx .nil, by simp [okS], rfl, by simp [szS]; exact hz.1, fun p hp => by rw [List.mem_singleton.mp hp]; exact hz.2⟩, ?_⟩
  rintro m σ' H' ⟨v4, v5, xs, ps, rfl, sm, hl', st, ok, rfl, hm, hs⟩
  refine ⟨_, rfl, _, .inl ⟨xs, SqL.of hl', rfl⟩, ?_⟩
  by_cases hps : ps = []
  · subst hps
    cases st
    refine iteF ?_
    have q := q H' sm
    rw [← ok] at q
    exact q
  obtain ⟨qa, y, e, n, ys, qs, rfl, rfl, hq, hy, st'⟩ := st.last hps
  refine bT (by simp) ⟨fun σ2 H2 => ∃ m', m' < szS (qs ++ [(e, n)]) ∧ ∃ v4 v5 xs ps, σ2 = [some x, some (.int (md : Int)), some (.int (mr : Int)), some (.ref l), v4, v5, none] ∧ Same H H2 ∧ H2 l = some (.lst xs) ∧ Stk C H H2 xs ps ∧ okS md mr ps = okW md mr 0 d ∧ m' = szS ps ∧ szS ps ≤ 1000000 ∧ ∀ p ∈ ps, txl p.1, fun σ2 H2 h => h, ?_⟩
  -- part, deep = todo.pop()
  refine ⟨_, rfl, .inl ⟨rfl, _, SqL.of hl'⟩, l, _, .ref qa, rfl, rfl, hl', by simp, ?_⟩
  rw [List.dropLast_concat]
  have tp := Tups.put (ys := ys) hl'
  refine ⟨qa, [y, .int (n : Int)], rfl, SqT.of (tp _ _ hq), rfl, y, [.int (n : Int)], rfl, .int (n : Int), [], rfl, rfl, ?_⟩
  have sm2 : Same H (upd H' l (.lst ys)) := same_put sm hl0
  have hys : (upd H' l (.lst ys)) l = some (.lst ys) := upd_same
  have st2 := st'.keep tp
  rw [okS_app] at ok
  have hsz : szS (qs ++ [(e, n)]) = szS qs + sz e := by rw [szS_app]; simp [szS]
  have hse := sz_pos e
  have hqs : ∀ p ∈ qs, txl p.1 := fun p hp => hs p (List.mem_append_left _ hp)
  have hse2 : txl e := hs (e, n) (List.mem_append_right _ (List.mem_singleton.mpr rfl))
  have ok2 : okS md mr [(e, n)] = okW md mr n e := by simp [okS]
  rw [ok2] at ok
  generalize upd H' l (.lst ys) = H2 at sm2 hys st2
  have hy2 := hy.same sm2
  -- a part that is right, and leads no further
  have good : okW md mr n e = true → ∀ H3, Same H2 H3 → H3 l = some (.lst ys) → ∃ m', m' < szS (qs ++ [(e, n)]) ∧ ∃ v4 v5 xs ps, ([some x, some (.int (md : Int)), some (.int (mr : Int)), some (.ref l), some y, some (.int (n : Int)), none] : L2.St) = [some x, some (.int (md : Int)), some (.int (mr : Int)), some (.ref l), v4, v5, none] ∧ Same H H3 ∧ H3 l = some (.lst xs) ∧ Stk C H H3 xs ps ∧ okS md mr ps = okW md mr 0 d ∧ m' = szS ps ∧ szS ps ≤ 1000000 ∧ ∀ p ∈ ps, txl p.1 := fun hok H3 s3 hl3 =>
    ⟨szS qs, by omega, _, _, ys, qs, rfl, sm2.trans s3, hl3, st2.keep (Tups.of s3), by rw [← ok, hok, Bool.and_true], rfl, by omega, hqs⟩
  -- a part that is wrong
  have bad : okW md mr n e = false → ∀ H3, Same H2 H3 → Q (.bl false) H3 := fun hok H3 s3 => by
    have q := q H3 (sm2.trans s3)
    rw [← ok, hok, Bool.and_false] at q
    exact q
  refine ⟨_, rfl, y, e, rfl, hy2, kyV_ok e, .inl ⟨_, rfl⟩, _, rfl, ?_⟩
  by_cases ct : kyV C e = .ty "tuple"
  · refine ifT ct ?_
    obtain ⟨es, rfl⟩ := kyV_tup.mp ct
    refine ⟨_, rfl, _, rfl, rfl, _, rfl, ?_⟩
    by_cases cn : n = md
    · refine ifT (by rw [cn]) ?_
      exact bad (by simp [okW, cn]) H2 (Same.refl _)
    · refine ifF (fun z => cn (by have := V.int.inj z; omega)) ?_
      have hyt := hy
      cases hyt with
      | @tup ta txs _ hta tis =>
        refine ⟨_, rfl, .inl ⟨rfl, _, SqL.of hys⟩, _, rfl, ta, rfl, ⟨_, SqT.of (sm2 _ _ hta)⟩, fun Dl hD => ?_⟩
        have nDl : l ≠ Dl := fun z => by rw [z] at hys; rw [hys] at hD; cases hD
        refine lc_tup (K := K) (a := ta) (xs := txs) (fun i H3 => Same H2 H3 ∧ ∃ zs, H3 Dl = some (.lst zs) ∧ Stk C H H3 zs ((es.take i).map fun d => (d, n + 1)) ∧ zs.length = i)
          ⟨same_new hD, [], upd_same, by simpa using Stk.nil, rfl⟩ (fun i H3 _ h => SqT.of (h.1 _ _ (sm2 _ _ hta))) ?_ ?_
        · rintro i z H3 hi ⟨s3, zs, hz3, stz, hzl⟩
          obtain ⟨ed, hed, hiz⟩ := tis.at hi
          refine ⟨rfl, yes ?_⟩
          refine ⟨_, rfl, _, rfl, _, _, rfl, rfl, (by show 2 ≤ sizeLine; decide), fun t ht => ?_⟩
          have s4 := same_new (o := .tup [z, .int ((n : Int) + 1)]) ht
          have hz4 := s4 _ _ hz3
          have hlt := (List.getElem?_eq_some_iff.mp hed).1
          refine ⟨zs, hz4, Nat.lt_of_lt_of_le (show zs.length < 1000001 by simp only [sz] at hsz; have := len_szL es; omega) (by decide), same_put (s3.trans s4) hD, zs ++ [.ref t], upd_same, ?_, by simp [hzl]⟩
          have e6 : (es.take (i + 1)).map (fun d => (d, n + 1)) = (es.take i).map (fun d => (d, n + 1)) ++ [(ed, n + 1)] := by rw [List.take_add_one, hed, List.map_append]; rfl
          rw [e6]
          exact (stz.keep ((Tups.of s4).trans (Tups.put hz4))).app (.cons (Tups.put hz4 _ _ upd_same) hiz .nil)
        · rintro H3 ⟨s3, zs, hz3, stz, hzl⟩
          have htl := tis.len
          have hzl2 : zs.length + 1 ≤ sz (.tup es) := by simp only [sz]; have := len_szL es; omega
          have hyl := st2.len
          have hql := len_szS qs
          have hl3 := s3 _ _ hys
          refine ⟨l, Dl, ys, zs, rfl, rfl, hl3, hz3, Nat.le_trans (show ys.length + zs.length ≤ 1000000 by omega) (by decide), ?_⟩
          rw [List.take_of_length_le (by omega)] at stz
          refine ⟨szS (qs ++ es.map fun d => (d, n + 1)), ?_, _, _, ys ++ zs, qs ++ es.map (fun d => (d, n + 1)), rfl, same_put (sm2.trans s3) hl0, upd_same, ((st2.keep (Tups.of s3)).app stz).keep (Tups.put hl3), ?_, rfl, ?_, fun p hp => ?_⟩
          · rw [szS_app, szS_map, hsz]; simp only [sz]; omega
          · rw [okS_app, okS_map, ← ok]; simp [okW, cn]
          · rw [szS_app, szS_map]; simp only [sz] at hsz; omega
          · rcases List.mem_append.mp hp with hp | hp
            · exact hqs p hp
            · obtain ⟨d', hd', rfl⟩ := List.mem_map.mp hp
              exact txlL_mem (by simpa [txl] using hse2) hd'
  · refine ifF ct ⟨_, rfl, y, e, rfl, hy2, kyV_ok e, .inr rfl, _, rfl, ?_⟩
    by_cases ca : kyV C e = .ref C
    · refine ifT ca ?_
      obtain ⟨k, es, rfl⟩ := kyV_atom.mp ca
      cases hy2 with
      | @atom aa dx at_ _ axs _ h1 h2 h3 =>
        refine ⟨_, rfl, aa, C, dx, _, _, rfl, h1, T.cl.cl, T.cl.nR, rfl, _, rfl, _, _, rfl, rfl, _, rfl, ite2 (fun c => ?_) (fun c => ?_)⟩
        · exact bad (by simp only [okW]; refine decide_eq_false fun z => ?_; simp at c; omega) H2 (Same.refl _)
        · exact good (by simp only [okW]; refine decide_eq_true ?_; simp at c; omega) H2 (Same.refl _) hys
    · refine ifF ca ⟨_, rfl, rfl, _, rfl, ?_⟩
      by_cases cN : y = .non
      · rw [decide_eq_true cN]
        subst cN
        cases hy
        exact iteF (iteF (good rfl H2 (Same.refl _) hys))
      · rw [decide_eq_false cN]
        refine iteT ⟨_, rfl, y, e, rfl, hy2, trivial, fun H3 s3 => ⟨_, rfl, ?_⟩⟩
        cases hn : isNum e with
        | true =>
          refine iteF (iteF (good ?_ H3 s3 (s3 _ _ hys)))
          cases e <;> first | exact hn | cases hn
        | false =>
          refine iteT ⟨_, rfl, y, e, rfl, hy2.same s3, fun z hz' => by subst hz'; simpa [txl] using hse2, fun H4 s4 => ⟨_, rfl, ?_⟩⟩
          have s34 := s3.trans s4
          cases ht : isTxt e with
          | true =>
            refine iteF (good ?_ H4 s34 (s34 _ _ hys))
            cases e <;> first | exact ht | cases ht
          | false =>
            refine iteT (bad ?_ H4 s34)
            cases e with
            | non => cases hy; exact absurd rfl cN
            | int i => exact hn
            | str z => exact ht
            | tup es => exact absurd rfl ct
            | atom k es => exact absurd rfl ca
            | _ => rfl
end
end Hc

namespace Hc
open PySem PySem.Spec PyProof.Rows L2 Hr
/-! ### slices and sums of tuples, whatever they are -/
theorem cut_to (xs : List V) (k : Nat) : cutV xs none (some (k : Int)) = xs.take k := by
  unfold cutV
  rw [HT.sIx_none, HT.sIx_nat, List.drop_zero, Nat.sub_zero]
  by_cases h : k ≤ xs.length
  · rw [Nat.min_eq_left h]
  · rw [Nat.min_eq_right (by omega), List.take_of_length_le (Nat.le_refl _), List.take_of_length_le (by omega)]
theorem cut_from (xs : List V) (k : Nat) : cutV xs (some (k : Int)) none = xs.drop k := by
  unfold cutV
  rw [HT.sIx_none, HT.sIx_nat]
  by_cases h : k ≤ xs.length
  · rw [Nat.min_eq_left h]
    exact List.take_of_length_le (by rw [List.length_drop]; exact Nat.le_refl _)
  · rw [Nat.min_eq_right (by omega), List.drop_of_length_le (Nat.le_refl _), List.drop_of_length_le (by omega), List.take_nil]
theorem sl_go {K : PySem.W.Frag} {H : Hp} {a : Addr} {xs : List V} {lo hi : Option Int} {Q : VK} (h : H a = some (.tup xs)) (q : ∀ H' p, Same H H' → H' p = some (.tup (cutV xs lo hi)) → Q (.ref p) H') : rSlA K (.ref a) lo hi H Q := by
  refine ⟨a, xs, rfl, SqT.of h, fun z => q H a (Same.refl H) ?_, fun _ p hp => q _ p (same_new hp) upd_same⟩
  have e : cutV xs lo hi = xs := by
    unfold cutV
    rw [z.1, z.2, List.drop_zero, Nat.sub_zero]
    exact List.take_of_length_le (Nat.le_refl _)
  rw [e]; exact h
theorem sl_goL {K : PySem.W.Frag} {σ : L2.St} {H : Hp} {a : Addr} {xs : List V} {lo : Int} {Q : VK} (h : H a = some (.tup xs)) (q : ∀ H' p, Same H H' → H' p = some (.tup (cutV xs (some lo) none)) → Q (.ref p) H') : tNoPart σ H (fun u H3 => rSlA K (.ref a) (some lo) u H3 Q) := sl_go h q
theorem cat_go {K : PySem.W.Frag} {H : Hp} {a b : Addr} {xs ys : List V} {Q : VK} (ha : H a = some (.tup xs)) (hb : H b = some (.tup ys)) (hl : xs.length + ys.length ≤ sizeLine) (q : ∀ H' p, Same H H' → H' p = some (.tup (xs ++ ys)) → Q (.ref p) H') : rCatA K (.ref a) (.ref b) H Q := by
  refine ⟨a, b, xs, ys, rfl, rfl, SqT.of ha, SqT.of hb, hl, fun z => q H b (Same.refl H) (by rw [z]; exact hb), fun _ z => q H a (Same.refl H) (by rw [z, List.append_nil]; exact ha), fun _ _ p hp => q _ p (same_new hp) upd_same⟩
theorem isA_take {C : Addr} {H : Hp} : ∀ {xs : List V} {ds : List D} (n : Nat), IsA C H xs ds → IsA C H (xs.take n) (ds.take n)
  | _, _, 0, _ => by simp only [List.take_zero]; exact .nil
  | _, _, n + 1, .nil => by simp only [List.take_nil]; exact .nil
  | _, _, n + 1, .cons h t => by simp only [List.take_succ_cons]; exact .cons h (isA_take n t)
theorem isA_drop {C : Addr} {H : Hp} : ∀ {xs : List V} {ds : List D} (n : Nat), IsA C H xs ds → IsA C H (xs.drop n) (ds.drop n)
  | _, _, 0, h => by simp only [List.drop_zero]; exact h
  | _, _, n + 1, .nil => by simp only [List.drop_nil]; exact .nil
  | _, _, n + 1, .cons h t => by simp only [List.drop_succ_cons]; exact isA_drop n t
theorem szLtk : ∀ (ds : List D) (n : Nat), szL (ds.take n) ≤ szL ds
  | _, 0 => by simp only [List.take_zero, szL]; omega
  | [], n + 1 => by simp only [List.take_nil, szL]; omega
  | d :: ds, n + 1 => by simp only [List.take_succ_cons, szL]; have := szLtk ds n; omega
theorem szLdr : ∀ (ds : List D) (n : Nat), szL (ds.drop n) ≤ szL ds
  | _, 0 => by simp only [List.drop_zero]; omega
  | [], n + 1 => by simp only [List.drop_nil, szL]; omega
  | d :: ds, n + 1 => by simp only [List.drop_succ_cons, szL]; have := szLdr ds n; omega
theorem txlL_app : ∀ (a b : List D), txlL (a ++ b) ↔ txlL a ∧ txlL b
  | [], b => by simp [txlL]
  | x :: a, b => by rw [List.cons_append]; simp only [txlL]; rw [txlL_app a b, and_assoc]
theorem txlLtk : ∀ (ds : List D) (n : Nat), txlL ds → txlL (ds.take n)
  | _, 0, _ => by simp only [List.take_zero, txlL]
  | [], n + 1, _ => by simp only [List.take_nil, txlL]
  | d :: ds, n + 1, h => by simp only [txlL] at h; simp only [List.take_succ_cons, txlL]; exact ⟨h.1, txlLtk ds n h.2⟩
theorem txlLdr : ∀ (ds : List D) (n : Nat), txlL ds → txlL (ds.drop n)
  | _, 0, h => by simp only [List.drop_zero]; exact h
  | [], n + 1, _ => by simp only [List.drop_nil, txlL]
  | d :: ds, n + 1, h => by simp only [txlL] at h; simp only [List.drop_succ_cons]; exact txlLdr ds n h.2
theorem inVab (k p q : Str) : inV (.str k) [.str p, .str q] = (decide (k = p) || decide (k = q)) := by
  have e : ∀ a b : Str, eqV (.str a) (.str b) = decide (b = a) := fun a b => by
    simp only [eqV]
    by_cases h : a = b
    · subst h; simp
    · rw [decide_eq_false (fun z => h z.symm)]; exact beq_eq_false_iff_ne.mpr h
  show ([V.str p, .str q].any fun y => eqV y (.str k)) = _
  rw [List.any_cons, List.any_cons, e, e]
  simp
/-- an atom made -/
theorem fitPart {ds : List D} {d : D} (h : Fit (.tup ds)) (hd : d ∈ ds) : Fit d := by
  refine ⟨?_, txlL_mem (by simpa [txl] using h.2) hd⟩
  have h1 := h.1
  simp only [sz] at h1
  have : sz d ≤ szL ds := by
    clear h h1
    induction ds with
    | nil => cases hd
    | cons x r ih =>
      simp only [szL]
      rcases List.mem_cons.mp hd with rfl | hd
      · omega
      · have := ih hd; omega
  omega
end Hc

namespace Hc
open PySem PySem.Spec PyProof.Rows L2 Hr
/-- len of a list or a tuple -/
def rLn (K : PySem.W.Frag) : List V → Hp → VK → Prop := fun xs H Q => ∃ p ys, xs = [.ref p] ∧ (SqL K H p ys ∨ SqT K H p ys) ∧ Q (.int ys.length) H
theorem call_lenS {X : Cx} : CallR X (.builtin "len") (rLn X.K) := call_len_seq
theorem walk_zipT {K : PySem.W.Frag} {a b : Addr} {xs ys : List V} {n : Nat} (hn : n = min xs.length ys.length) : Walk (RZ.ItzT K a b) n (fun H => SqT K H a xs ∧ SqT K H b ys) (YPair (fun i => xs[i]?) (fun i => ys[i]?)) := by
  subst hn
  refine ⟨fun i _ hi q => ?_, fun _ q => ⟨xs, ys, q.1, q.2, by omega⟩, fun i H v H' _ q y => ?_⟩
  · have h1 : i < xs.length := by omega
    have h2 : i < ys.length := by omega
    exact ⟨xs, ys, xs[i], ys[i], q.1, q.2, by simp [h1], by simp [h2]⟩
  · obtain ⟨t, x, z, e1, e2, e3, e4, e5⟩ := y
    exact ⟨t, x, z, e1, e2, e3, e4 xs q.1, e5 ys q.2⟩
def nameD : D → Bool | .tup (.str _ :: _) => true | _ => false
def numD (d : D) (lo hi : Int) : Bool := match d with | .int i => decide (lo ≤ i) && decide (i < hi) | _ => false
def formD (d : D) (z : Str) (m : Int) : Bool := isNum d && (if z = "register" then numD d 0 4 else if z = "place" then numD d 0 m else true)
def instrF (fs : List Str) (ds : List D) (m : Int) : Bool := decide (ds.length = fs.length) && (ds.zip fs).all fun p => formD p.1 p.2 m
def instrD (d : D) (m : Int) : Bool := match d with
  | .tup (.str k :: ds) => (match formsM k with | some fs => instrF fs ds m | none => false)
  | _ => false
/-- the name, if there is one, is known to be one or to be none -/
def NmOk (more : List Str) (d : D) : Prop := match d with | .tup (.str k :: ds) => ((∃ p ∈ progF, p.1 = k) ∨ k ∈ more) ∧ ds.length ≤ 1000 | _ => True
theorem kf_at {K : PySem.W.Frag} {mg : Str → Option Value} {w : World} {more : List Str} (F : KForms K mg w "FORMS_machine" progF more) (hm : ∀ k ∈ more, formsM k = none) : ∃ g es n, (∃ u, mg "FORMS_machine" = some u ∧ RelV (.ref g) u) ∧ KDict K w g es n ∧
    ∀ k : Str, ((∃ p ∈ progF, p.1 = k) ∨ k ∈ more) → (∃ t fs, formsM k = some fs ∧ PySem.W.nsIn K g k = some (some (.ref t)) ∧ KTup K t fs) ∨ (formsM k = none ∧ PySem.W.nsIn K g k = some none) := by
  obtain ⟨g, es, n, hg, kd, h1, h2⟩ := F.ex
  refine ⟨g, es, n, hg, kd, fun k hk => ?_⟩
  rcases hk with ⟨p, hp, rfl⟩ | hk
  · obtain ⟨t, e1, e2⟩ := h1 p hp
    refine .inl ⟨t, p.2, ?_, e1, e2⟩
    have : ∀ p ∈ progF, formsM p.1 = some p.2 := by decide +kernel
    exact this p hp
  · exact .inr ⟨hm k hk, h2 k hk⟩
def spHN (C : Addr) : Sp := fun vs H Q _ => ∃ x d, vs = [x] ∧ Is C H x d ∧ Q (.bl (nameD d)) H
def spFm (C : Addr) : Sp := fun vs H Q _ => ∃ x d z m, vs = [x, .str z, .int m] ∧ Is C H x d ∧ ∀ H', Same H H' → Q (.bl (formD d z m)) H'
def spIn (C : Addr) (more : List Str) : Sp := fun vs H Q _ => ∃ x d m, vs = [x, .int m] ∧ Is C H x d ∧ NmOk more d ∧ ∀ H', Same H H' → Q (.bl (instrD d m)) H'
section
variable {P : Program} {w : World} {K : PySem.W.Frag} {mg : Str → Option Value} {base : Heap} {f : Addr} {fd : FuncData} {C : Addr}
abbrev s_is_host_word : Stmt := top 16
theorem sc_is_host_word : FnScope ["value"] ["value"] (C8.fnScope s_is_host_word) := C8.fnScope_by (by decide +kernel)
theorem ok_is_host_word (F : C8.Def K mg "is_host_word" s_is_host_word f fd) (b : Binds K fd ["value"] []) (T : Txt K mg w C) (c__is_within : C8.Cal P w K mg base 2 "_is_within" (spWithin C) []) : C8.Cal P w K mg base 3 "is_host_word" (spB C Fit (okW 10 36 0)) [] := by
  refine C8.cal0 F b .nil sc_is_host_word (fun vs H Q E h => ?_) (fun cdv A outer s H vs Q E hr h => ?_)
  · obtain ⟨x, d, rfl, _⟩ := h; rfl
  obtain ⟨x, d, rfl, hx, hz, q⟩ := h
  refine ⟨_, (pss_one (ps_ret (C8.pe_c c__is_within hr (by first | decide | omega) rfl (pa_cons (pv 0) (pa_cons (C8.pe_gc rfl T.c_MOST_DEEP_HOST) (pa_cons (C8.pe_gc rfl T.c_MOST_RANK_HOST) pa_nil)))))), ?_⟩
  exact ⟨x, rfl, x, d, 10, 36, rfl, hx, hz, q⟩
abbrev s_has_name : Stmt := top 28
theorem sc_has_name : FnScope ["value"] ["value"] (C8.fnScope s_has_name) := C8.fnScope_by (by decide +kernel)
theorem ok_has_name (F : C8.Def K mg "has_name" s_has_name f fd) (b : Binds K fd ["value"] []) (T : Txt K mg w C) : C8.Cal P w K mg base 1 "has_name" (spHN C) [] := by
  refine C8.cal0 F b .nil sc_has_name (fun vs H Q E h => ?_) (fun cdv A outer s H vs Q E hr h => ?_)
  · obtain ⟨x, d, rfl, _⟩ := h; rfl
  obtain ⟨x, d, rfl, hx, q⟩ := h
  refine ⟨_, (pss_one (ps_ret (pe_and (pe_cmpR (op_isTyA (C := C)) (pe_callTy (call_typeA (C := C)) rfl T.z_type bt_type (pa_cons (pv 0) pa_nil)) (pe_bltn (v := .ty "tuple") rfl T.z_tuple bt_tuple rfl) (nomark _)) (pe_and (pe_cmpR op_gt (pe_callB call_lenS rfl T.z_len bt_len (pa_cons (pv 0) pa_nil)) pe_int (nomark _)) (pe_one (pe_cmpR (op_isTyA (C := C)) (pe_callTy (call_typeA (C := C)) rfl T.z_type bt_type (pa_cons (pe_ix ix_tup (pv 0) pe_int (fun _ _ => rfl)) pa_nil)) (pe_bltn (v := .ty "str") rfl T.z_str bt_str rfl) (nomark _))))))), ?_⟩
  refine ⟨_, rfl, x, d, rfl, hx, kyV_ok d, .inl ⟨_, rfl⟩, _, rfl, ?_⟩
  by_cases ct : kyV C d = .ty "tuple"
  · refine ifT ct ?_
    obtain ⟨ds, rfl⟩ := kyV_tup.mp ct
    cases hx with
    | @tup a xs _ ha hxs =>
    refine ⟨_, rfl, a, xs, rfl, .inr (SqT.of ha), _, _, rfl, rfl, _, rfl, ?_⟩
    cases hxs with
    | nil => exact ifF (by simp) q
    | @cons y ys e es hy hys =>
      refine ifT (by simp) ⟨_, rfl, a, _, 0, y, rfl, rfl, SqT.of ha, atI_nat (j := 0) rfl, y, e, rfl, hy, kyV_ok e, .inl ⟨_, rfl⟩, ?_⟩
      have h : nameD (.tup (e :: es)) = decide (kyV C e = .ty "str") := by cases e <;> simp [nameD, kyV]
      rw [h] at q; exact q
  · have h : nameD d = false := by cases d <;> first | rfl | exact absurd rfl ct
    rw [h] at q
    exact ifF ct q
abbrev s__has_form : Stmt := top 37
theorem sc__has_form : FnScope ["part", "form", "many"] ["part", "form", "many"] (C8.fnScope s__has_form) := C8.fnScope_by (by decide +kernel)
theorem ok_hfm (F : C8.Fun K "_has_form" "_has_form" s__has_form f fd) (hm : mg "has_form_machine" = some (.ref f)) (kp : PySem.W.keepIn K (.ref f) = true) (b : Binds K fd ["part", "form", "many"] []) (T : Txt K mg w C) (c_is_number : C8.Cal P w K mg base 1 "is_number" (spB C (fun _ => True) isNum) []) : C8.Cal P w K mg base 2 "has_form_machine" (spFm C) [] := by
  refine calA F hm kp b .nil sc__has_form (fun vs H Q E h => ?_) (fun cdv A outer s H vs Q E hr h => ?_)
  · obtain ⟨x, d, z, m, rfl, _⟩ := h; rfl
  obtain ⟨x, d, z, m, rfl, hx, q⟩ := h
  refine ⟨_, (pss_cons (ps_if (pt_cmpR op_eq (pv 1) pe_str (nomark _)) (pss_one (ps_ret (pe_and (C8.pe_c c_is_number hr (by first | decide | omega) rfl (pa_cons (pv 0) pa_nil)) (pe_one (pe_chain op_le op_lt pe_int (pv 0) (C8.pe_gc rfl T.c_REGISTERS)))))) pss_nil)
      (pss_cons (ps_if (pt_cmpR op_eq (pv 1) pe_str (nomark _)) (pss_one (ps_ret (pe_and (C8.pe_c c_is_number hr (by first | decide | omega) rfl (pa_cons (pv 0) pa_nil)) (pe_one (pe_chain op_le op_lt pe_int (pv 0) (pv 2)))))) pss_nil)
      (pss_one (ps_ret (C8.pe_c c_is_number hr (by first | decide | omega) rfl (pa_cons (pv 0) pa_nil)))))), ?_⟩
  have rng : ∀ (hi : Int) (c1 : isNum d = true) (c2 : formD d z m = numD d 0 hi), ∃ j, d = .int j ∧ formD d z m = (decide (0 ≤ j) && decide (j < hi)) := fun hi c1 c2 => by
    cases d <;> first | (exact ⟨_, rfl, c2⟩) | (simp [isNum] at c1; done)
  refine ⟨_, rfl, rfl, _, rfl, ?_⟩
  by_cases z1 : z = "register"
  · refine ifT (by rw [z1]) ⟨_, rfl, x, d, rfl, hx, trivial, fun H1 s1 => ⟨_, rfl, ?_⟩⟩
    have q := q H1 s1
    cases c1 : isNum d with
    | false =>
      have e : formD d z m = false := by unfold formD; rw [c1]; rfl
      rw [e] at q; exact iteF q
    | true =>
      obtain ⟨j, rfl, e⟩ := rng 4 c1 (by unfold formD; rw [c1, if_pos z1]; rfl)
      rw [e] at q
      cases hx
      refine iteT ⟨_, rfl, _, _, rfl, rfl, _, rfl, ite2 (fun c => ?_) (fun c => ?_)⟩
      · refine ⟨_, _, rfl, rfl, ?_⟩
        rw [show decide (0 ≤ j) = true from c, Bool.true_and] at q; exact q
      · rw [show decide (0 ≤ j) = false by simpa using c, Bool.false_and] at q; exact q
  refine ifF (fun q => z1 (V.str.inj q)) ⟨_, rfl, rfl, _, rfl, ?_⟩
  by_cases z2 : z = "place"
  · refine ifT (by rw [z2]) ⟨_, rfl, x, d, rfl, hx, trivial, fun H1 s1 => ⟨_, rfl, ?_⟩⟩
    have q := q H1 s1
    cases c1 : isNum d with
    | false =>
      have e : formD d z m = false := by unfold formD; rw [c1]; rfl
      rw [e] at q; exact iteF q
    | true =>
      obtain ⟨j, rfl, e⟩ := rng m c1 (by unfold formD; rw [c1, if_neg z1, if_pos z2]; rfl)
      rw [e] at q
      cases hx
      refine iteT ⟨_, rfl, _, _, rfl, rfl, _, rfl, ite2 (fun c => ?_) (fun c => ?_)⟩
      · refine ⟨_, rfl, _, _, rfl, rfl, ?_⟩
        rw [show decide (0 ≤ j) = true from c, Bool.true_and] at q; exact q
      · rw [show decide (0 ≤ j) = false by simpa using c, Bool.false_and] at q; exact q
  refine ifF (fun q => z2 (V.str.inj q)) ⟨_, rfl, x, d, rfl, hx, trivial, fun H1 s1 => ?_⟩
  have q := q H1 s1
  have e : formD d z m = isNum d := by unfold formD; rw [if_neg z1, if_neg z2, Bool.and_true]
  rw [e] at q; exact q
end
end Hc

namespace Hc
open PySem PySem.Spec PyProof.Rows L2 Hr
def lastD (ds : List D) : Bool := match ds.getLast? with | some (.tup (.str k :: _)) => decide (k = "jump" ∨ k = "end") | _ => false
def progD (d : D) : Bool := match d with | .tup ds => decide (1 ≤ ds.length) && decide (ds.length ≤ 24) && ds.all (fun e => instrD e ds.length) && lastD ds | _ => false
def PgOk (more : List Str) (d : D) : Prop := match d with | .tup ds => ds.length ≤ 1000 ∧ ∀ e ∈ ds, NmOk more e | _ => True
def regD (d : D) : Bool := match d with | .tup ds => decide (ds.length = 4) && ds.all (okW 10 36 0) | _ => false
def wrapI (n : Int) : Int := (n - -2147483648) % 2 ^ (32 : Int).toNat + -2147483648
theorem instr_name {d : D} {m : Int} (h : instrD d m = true) : ∃ k ds, d = .tup (.str k :: ds) := by
  unfold instrD at h
  split at h
  · exact ⟨_, _, rfl⟩
  · cases h
section
variable {P : Program} {w : World} {K : PySem.W.Frag} {mg : Str → Option Value} {base : Heap} {f : Addr} {fd : FuncData} {C : Addr}
abbrev s__is_instruction : Stmt := top 36
theorem sc__is_instruction : FnScope ["value", "many", "forms", "part", "form"] ["value", "many"] (C8.fnScope s__is_instruction) := C8.fnScope_by (by decide +kernel)
theorem ok__is_instruction {more : List Str} (F : C8.Def K mg "_is_instruction" s__is_instruction f fd) (b : Binds K fd ["value", "many"] []) (T : Txt K mg w C) (KF : KForms K mg w "FORMS_machine" progF more) (hmore : ∀ k ∈ more, formsM k = none) (c_has_name : C8.Cal P w K mg base 1 "has_name" (spHN C) [])
    (c_hfm : C8.Cal P w K mg base 2 "has_form_machine" (spFm C) []) : C8.Cal P w K mg base 3 "_is_instruction" (spIn C more) [] := by
  refine C8.cal0 F b .nil sc__is_instruction (fun vs H Q E h => ?_) (fun cdv A outer s H vs Q E hr h => ?_)
  · obtain ⟨x, d, m, rfl, _⟩ := h; rfl
  obtain ⟨x, d, m, rfl, hx, hn, q⟩ := h
  obtain ⟨g, es, n, gF, KD, hf⟩ := kf_at KF hmore
  refine ⟨_, (pss_cons (ps_if (pt_not (pt_val (C8.pe_c c_has_name hr (by first | decide | omega) rfl (pa_cons (pv 0) pa_nil)))) (pss_one (ps_ret pe_bl)) pss_nil)
      (pss_cons (ps_set (i := 2) sc__is_instruction.nd rfl (Or.inl rfl) (pe_getW KD (C8.pe_gc rfl gF) (pe_ix ix_tup (pv 0) pe_int (fun _ _ => rfl))))
      (pss_cons (ps_if (PW.pt (pw_or (pt_cmpR op_isN (pv 2) pe_non (nomark _)) (pw_or1 (pt_cmpR op_ne (pe_callB call_lenS rfl T.z_len bt_len (pa_cons (pv 0) pa_nil)) (pe_op op_add (pe_callB call_lenS rfl T.z_len bt_len (pa_cons (pv 2) pa_nil)) pe_int) (nomark _))))) (pss_one (ps_ret pe_bl)) pss_nil)
      (pss_one (ps_ret (pe_callB (cr_all rfl) rfl T.z_all bt_all (pa_cons (pe_lc (own := [("part", 3), ("form", 4)]) (g := gTup K 2 (gCons (gName 3) (gCons (gName 4) gNil))) rfl sc__is_instruction.nd (RZ.pi_zipA rfl T.z_zip (pa_cons (pe_slice sl_tupA (pv 0) (po_some pe_int) po_none) (pa_cons (pv 2) pa_nil))) (blkOk_by (own := [("part", 3), ("form", 4)]) (N := ["value", "many", "forms", "part", "form"]) (sc := C8.fnScope s__is_instruction) (by decide +kernel)) (fun _ _ _ _ _ => (pg_tup rfl (pgs_cons (pg_name (i := 3) sc__is_instruction.nd rfl (Or.inl rfl)) (pgs_cons (pg_name (i := 4) sc__is_instruction.nd rfl (Or.inl rfl)) pgs_nil)))) (fun _ _ _ _ _ => pts_nil) (fun _ _ _ _ _ => (C8.pe_c c_hfm hr (by first | decide | omega) rfl (pa_cons (pv 3) (pa_cons (pv 4) (pa_cons (pv 1) pa_nil)))))) pa_nil))))))), ?_⟩
  refine ⟨_, rfl, x, d, rfl, hx, _, rfl, ?_⟩
  cases hnm : nameD d with
  | false =>
    have e : instrD d m = false := by
      unfold instrD
      split
      · simp [nameD] at hnm
      · rfl
    have q := q H (Same.refl H)
    rw [e] at q
    exact bT rfl q
  | true =>
    refine bF rfl ?_
    obtain ⟨k, ds, rfl⟩ : ∃ k ds, d = .tup (.str k :: ds) := by
      unfold nameD at hnm
      split at hnm
      · exact ⟨_, _, rfl⟩
      · cases hnm
    cases hx with
    | @tup a xs _ ha hxs =>
    cases hxs with
    | @cons y ys _ _ hy hys =>
    cases hy
    have hl := hys.len
    obtain ⟨hk, hlen⟩ := hn
    have fin : ∀ (r : Bool), r = instrD (.tup (.str k :: ds)) m → ∀ H', Same H H' → Q (.bl r) H' := fun r e H' s' => by rw [e]; exact q H' s'
    rcases hf k hk with ⟨t, fs, e1, hns, kt⟩ | ⟨e1, hns⟩
    · have eI : instrD (.tup (.str k :: ds)) m = instrF fs ds m := by simp only [instrD, e1]
      refine ⟨rfl, _, rfl, a, _, 0, _, rfl, rfl, SqT.of ha, atI_nat (j := 0) rfl, k, _, rfl, hns, (fun z => nomatch z), fun u hu => ⟨.ref t, (by cases hu; rfl), ?_⟩⟩
      refine ⟨_, rfl, rfl, _, rfl, ifF (fun z => nomatch z) ⟨_, rfl, a, _, rfl, .inr (SqT.of ha), _, rfl, t, _, rfl, .inr (kt H), _, _, rfl, rfl, rfl, _, rfl, ?_⟩⟩
      by_cases c3 : ds.length = fs.length
      · refine bF (by simp; omega) ?_
        refine ⟨_, rfl, 1, rfl, ?_⟩
        refine sl_goL ha fun H1 p s1 ep => ?_
        rw [show (1 : Int) = ((1 : Nat) : Int) from rfl, cut_from] at ep
        have ep : H1 p = some (.tup ys) := ep
        refine ⟨_, rfl, p, t, ys, fs.map V.str, rfl, .inr ⟨SqT.of ep, kt H1, fun Dl hD => ?_⟩⟩
        have hmin : ds.length = min ys.length (fs.map V.str).length := by rw [hl, List.length_map]; omega
        have sD := same_new (o := .lst []) hD
        refine lc_it (walk_zipT (K := K) (a := p) (b := t) (xs := ys) (ys := fs.map V.str) hmin) (fun i H3 => Same H1 H3 ∧ H3 Dl = some (.lst (((ds.zip fs).take i).map fun q => V.bl (formD q.1 q.2 m)))) ⟨sD, upd_same⟩ (fun i H3 _ h => ⟨SqT.of (h.1 _ _ ep), kt H3⟩) ?_ ?_
        · rintro i v H3 H4 hi ⟨s3, hz3⟩ ⟨tt, x, y, rfl, nt, rfl, ex, ey⟩
          have ex : ys[i]? = some x := ex
          obtain ⟨d, hd, hx⟩ := hys.at ex
          obtain ⟨z, hz2, rfl⟩ : ∃ z, fs[i]? = some z ∧ y = V.str z := by
            have ey : (fs.map V.str)[i]? = some y := ey
            rw [List.getElem?_map] at ey
            cases h : fs[i]? with
            | none => rw [h] at ey; cases ey
            | some z => rw [h] at ey; exact ⟨z, rfl, (Option.some.inj ey).symm⟩
          have s4 := same_new (o := .tup [x, .str z]) nt
          refine ⟨tt, [x, .str z], rfl, SqT.of upd_same, rfl, x, [.str z], rfl, .str z, [], rfl, rfl, rfl, yes ?_⟩
          refine ⟨_, rfl, _, rfl, _, rfl, x, d, z, m, rfl, hx.same ((s1.trans s3).trans s4), fun H5 s5 => ?_⟩
          have hpz : (ds.zip fs)[i]? = some (d, z) := by rw [List.getElem?_zip_eq_some]; exact ⟨hd, hz2⟩
          have hz5 := s5 _ _ (s4 _ _ hz3)
          refine ⟨_, hz5, small1000 (by rw [List.length_map, List.length_take, List.length_zip]; omega), same_put ((s3.trans s4).trans s5) hD, ?_⟩
          rw [upd_same, List.take_add_one, hpz, List.map_append]; rfl
        · rintro H3 ⟨s3, hz3⟩
          have hzl : (ds.zip fs).length = ds.length := by rw [List.length_zip]; omega
          rw [List.take_of_length_le (by omega)] at hz3
          refine ⟨Dl, (ds.zip fs).map fun q => formD q.1 q.2 m, rfl, SqL.of (by rw [List.map_map]; exact hz3), ?_⟩
          refine fin _ ?_ H3 (s1.trans s3)
          rw [eI, List.all_map]
          unfold instrF
          rw [decide_eq_true c3]; rfl
      · refine bT (by simp; omega) ?_
        refine fin _ ?_ H (Same.refl H)
        rw [eI]; unfold instrF; rw [decide_eq_false c3]; rfl
    · refine ⟨rfl, _, rfl, a, _, 0, _, rfl, rfl, SqT.of ha, atI_nat (j := 0) rfl, k, _, rfl, hns, (fun _ => ?_), fun u hu => nomatch hu⟩
      refine ⟨_, rfl, rfl, _, rfl, ifT rfl ?_⟩
      refine fin _ ?_ H (Same.refl H)
      simp only [instrD, e1]
abbrev s_is_registers : Stmt := top 34
theorem sc_is_registers : FnScope ["value", "word"] ["value"] (C8.fnScope s_is_registers) := C8.fnScope_by (by decide +kernel)
theorem ok_is_registers (F : C8.Def K mg "is_registers" s_is_registers f fd) (b : Binds K fd ["value"] []) (T : Txt K mg w C) (c_is_host_word : C8.Cal P w K mg base 3 "is_host_word" (spB C Fit (okW 10 36 0)) []) : C8.Cal P w K mg base 4 "is_registers" (spB C Fit regD) [] := by
  refine C8.cal0 F b .nil sc_is_registers (fun vs H Q E h => ?_) (fun cdv A outer s H vs Q E hr h => ?_)
  · obtain ⟨x, d, rfl, _⟩ := h; rfl
  obtain ⟨x, d, rfl, hx, hz, q⟩ := h
  refine ⟨_, (pss_one (ps_ret (pe_and (pe_cmpR (op_isTyA (C := C)) (pe_callTy (call_typeA (C := C)) rfl T.z_type bt_type (pa_cons (pv 0) pa_nil)) (pe_bltn (v := .ty "tuple") rfl T.z_tuple bt_tuple rfl) (nomark _)) (pe_and (pe_cmpR op_eq (pe_callB call_lenS rfl T.z_len bt_len (pa_cons (pv 0) pa_nil)) (C8.pe_gc rfl T.c_REGISTERS) (nomark _)) (pe_one (pe_callB (cr_all rfl) rfl T.z_all bt_all (pa_cons (pe_lc (own := [("word", 1)]) (g := gName 1) rfl sc_is_registers.nd (pi_tup (pv 0)) (blkOk_by (own := [("word", 1)]) (N := ["value", "word"]) (sc := C8.fnScope s_is_registers) (by decide +kernel)) (fun _ _ _ _ _ => (pg_name (i := 1) sc_is_registers.nd rfl (Or.inl rfl))) (fun _ _ _ _ _ => pts_nil) (fun _ _ _ _ _ => (C8.pe_c c_is_host_word hr (by first | decide | omega) rfl (pa_cons (pv 1) pa_nil)))) pa_nil))))))), ?_⟩
  refine ⟨_, rfl, x, d, rfl, hx, kyV_ok d, .inl ⟨_, rfl⟩, _, rfl, ?_⟩
  by_cases ct : kyV C d = .ty "tuple"
  · refine ifT ct ?_
    obtain ⟨ds, rfl⟩ := kyV_tup.mp ct
    cases hx with
    | @tup a xs _ ha hxs =>
    have hl := hxs.len
    refine ⟨_, rfl, a, xs, rfl, .inr (SqT.of ha), rfl, _, rfl, ?_⟩
    by_cases c4 : ds.length = 4
    · refine ifT (by rw [hl, c4]; rfl) ⟨_, rfl, a, rfl, ⟨_, SqT.of ha⟩, fun Dl hD => ?_⟩
      refine lc_tup (K := K) (a := a) (xs := xs) (fun i H3 => Same H H3 ∧ H3 Dl = some (.lst ((ds.take i).map fun e => V.bl (okW 10 36 0 e)))) ⟨same_new hD, upd_same⟩ (fun i H3 _ h => SqT.of (h.1 _ _ ha)) ?_ ?_
      · rintro i z H3 hi ⟨s3, hz3⟩
        obtain ⟨e, he, hze⟩ := hxs.at hi
        refine ⟨rfl, yes ⟨_, rfl, z, e, rfl, hze.same s3, fitPart hz (List.mem_of_getElem? he), fun H5 s5 => ?_⟩⟩
        refine ⟨_, s5 _ _ hz3, small1000 (by rw [List.length_map, List.length_take]; omega), same_put (s3.trans s5) hD, ?_⟩
        rw [upd_same, List.take_add_one, he, List.map_append]; rfl
      · rintro H3 ⟨s3, hz3⟩
        rw [List.take_of_length_le (by omega)] at hz3
        refine ⟨Dl, ds.map (okW 10 36 0), rfl, SqL.of (by rw [List.map_map]; exact hz3), ?_⟩
        have q := q H3 s3
        have e : regD (.tup ds) = (ds.map (okW 10 36 0)).all id := by
          simp only [regD]
          rw [decide_eq_true c4, List.all_map]; rfl
        rw [e] at q; exact q
    · have q := q H (Same.refl H)
      have e : regD (.tup ds) = false := by simp only [regD]; rw [decide_eq_false c4]; rfl
      rw [e] at q
      exact ifF (fun z => c4 (by have := V.int.inj z; omega)) q
  · have e : regD d = false := by cases d <;> first | rfl | exact absurd rfl ct
    have q := q H (Same.refl H)
    rw [e] at q
    exact ifF ct q
def spWr : Sp := fun vs H Q _ => ∃ n : Int, vs = [.int n] ∧ Q (.int (wrapI n)) H
abbrev s_wrapped : Stmt := top 35
theorem sc_wrapped : FnScope ["number"] ["number"] (C8.fnScope s_wrapped) := C8.fnScope_by (by decide +kernel)
theorem ok_wrapped (F : C8.Def K mg "wrapped" s_wrapped f fd) (b : Binds K fd ["number"] []) (T : Txt K mg w C) : C8.Cal P w K mg base 1 "wrapped" spWr [] := by
  refine C8.cal0 F b .nil sc_wrapped (fun vs H Q E h => ?_) (fun cdv A outer s H vs Q E hr h => ?_)
  · obtain ⟨n, rfl, _⟩ := h; rfl
  obtain ⟨n, rfl, q⟩ := h
  refine ⟨_, (pss_one (ps_ret (pe_op op_add (pe_op op_mod (pe_op op_sub (pv 0) (C8.pe_gc rfl T.c_LEAST)) (pe_op op_pow pe_int pe_int)) (C8.pe_gc rfl T.c_LEAST)))), ?_⟩
  exact ⟨_, rfl, _, _, rfl, rfl, 2, 32, rfl, rfl, by unfold CPow; decide, _, _, rfl, rfl, (by show (0 : Int) < 2 ^ (32 : Int).toNat; decide), _, _, rfl, rfl, q⟩
def spPr (C : Addr) (more : List Str) : Sp := fun vs H Q _ => ∃ x d, vs = [x] ∧ Is C H x d ∧ PgOk more d ∧ ∀ H', Same H H' → Q (.bl (progD d)) H'
abbrev s_is_program : Stmt := top 33
theorem sc_is_program : FnScope ["value", "each"] ["value"] (C8.fnScope s_is_program) := C8.fnScope_by (by decide +kernel)
theorem ok_is_program {more : List Str} (F : C8.Def K mg "is_program" s_is_program f fd) (b : Binds K fd ["value"] []) (T : Txt K mg w C) (c__is_instruction : C8.Cal P w K mg base 3 "_is_instruction" (spIn C more) []) : C8.Cal P w K mg base 4 "is_program" (spPr C more) [] := by
  refine C8.cal0 F b .nil sc_is_program (fun vs H Q E h => ?_) (fun cdv A outer s H vs Q E hr h => ?_)
  · obtain ⟨x, d, rfl, _⟩ := h; rfl
  obtain ⟨x, d, rfl, hx, hok, q⟩ := h
  refine ⟨_, (pss_cons (ps_if (PW.pt (pw_or (pt_cmpR (op_isNotTyA (C := C)) (pe_callTy (call_typeA (C := C)) rfl T.z_type bt_type (pa_cons (pv 0) pa_nil)) (pe_bltn (v := .ty "tuple") rfl T.z_tuple bt_tuple rfl) (nomark _)) (pw_or1 (pt_not (pt_chain op_le op_le pe_int (pe_callB call_lenS rfl T.z_len bt_len (pa_cons (pv 0) pa_nil)) (C8.pe_gc rfl T.c_MOST_INSTRUCTIONS)))))) (pss_one (ps_ret pe_bl)) pss_nil)
      (pss_cons (ps_if (pt_not (pt_val (pe_callB (cr_all rfl) rfl T.z_all bt_all (pa_cons (pe_lc (own := [("each", 1)]) (te := tCall (spIn C more) [] C8.E0 (tCons (tVar 1) (tCons (tCB (rLn K) (tCons (tVar 0) tNil)) tNil))) (g := gName 1) rfl sc_is_program.nd (pi_tup (pv 0)) (blkOk_by (own := [("each", 1)]) (N := ["value", "each"]) (sc := C8.fnScope s_is_program) (by decide +kernel)) (fun _ _ _ _ _ => (pg_name (i := 1) sc_is_program.nd rfl (Or.inl rfl))) (fun _ _ _ _ _ => pts_nil) (fun _ _ _ _ _ => (C8.pe_c c__is_instruction hr (by first | decide | omega) rfl (pa_cons (pv 1) (pa_cons (pe_callB call_lenS rfl T.z_len bt_len (pa_cons (pv 0) pa_nil)) pa_nil))))) pa_nil)))) (pss_one (ps_ret pe_bl)) pss_nil)
      (pss_one (ps_ret (pe_cmpR op_in_seq (pe_ix ix_tup (pe_ix ix_tup (pv 0) (pe_un un_neg pe_int) (fun _ _ => rfl)) pe_int (fun _ _ => rfl)) (pe_tup (pa_cons pe_str (pa_cons pe_str pa_nil))) (by with_unfolding_all rfl)))))), ?_⟩
  refine ⟨_, rfl, x, d, rfl, hx, kyV_ok d, .inl ⟨_, rfl⟩, _, rfl, ?_⟩
  by_cases ct : kyV C d = .ty "tuple"
  · rw [decide_eq_true ct]
    obtain ⟨ds, rfl⟩ := kyV_tup.mp ct
    obtain ⟨hlen, hnm⟩ := hok
    cases hx with
    | @tup a xs _ ha hxs =>
    have hl := hxs.len
    have bad : (∀ H', Same H H' → progD (.tup ds) = false → Q (.bl false) H') := fun H' s' e => by have q := q H' s'; rw [e] at q; exact q
    refine iteF ⟨_, rfl, a, xs, rfl, .inr (SqT.of ha), _, _, rfl, rfl, _, rfl, ?_⟩
    by_cases c1 : 1 ≤ ds.length
    · refine ifT (by omega) ⟨_, _, rfl, rfl, _, rfl, ?_⟩
      by_cases c2 : ds.length ≤ 24
      · refine bF (by simp; omega) ⟨_, rfl, a, rfl, ⟨_, SqT.of ha⟩, fun Dl hD => ?_⟩
        refine lc_tup (K := K) (a := a) (xs := xs) (fun i H3 => Same H H3 ∧ H3 Dl = some (.lst ((ds.take i).map fun e => V.bl (instrD e ds.length)))) ⟨same_new hD, upd_same⟩ (fun i H3 _ h => SqT.of (h.1 _ _ ha)) ?_ ?_
        · rintro i z H3 hi ⟨s3, hz3⟩
          obtain ⟨e, he, hze⟩ := hxs.at hi
          refine ⟨rfl, yes ⟨_, rfl, _, rfl, a, xs, rfl, .inr (SqT.of (s3 _ _ ha)), z, e, xs.length, rfl, hze.same s3, hnm e (List.mem_of_getElem? he), fun H5 s5 => ?_⟩⟩
          rw [hl]
          refine ⟨_, s5 _ _ hz3, small1000 (by rw [List.length_map, List.length_take]; omega), same_put (s3.trans s5) hD, ?_⟩
          rw [upd_same, List.take_add_one, he, List.map_append]; rfl
        · rintro H3 ⟨s3, hz3⟩
          rw [List.take_of_length_le (by omega)] at hz3
          refine ⟨Dl, ds.map fun e => instrD e ds.length, rfl, SqL.of (by rw [List.map_map]; exact hz3), _, rfl, ?_⟩
          rw [List.all_map]
          have e0 : progD (.tup ds) = (ds.all (id ∘ fun e => instrD e ds.length) && lastD ds) := by
            simp only [progD]
            rw [decide_eq_true c1, decide_eq_true c2]; rfl
          cases hall : ds.all (id ∘ fun e => instrD e ds.length) with
          | false => exact bT rfl (bad H3 s3 (by rw [e0, hall]; rfl))
          | true =>
            refine bF rfl ?_
            obtain ⟨es, e, rfl⟩ : ∃ es e, ds = es ++ [e] := by
              rcases List.eq_nil_or_concat ds with h | ⟨es, e, h⟩
              · rw [h] at c1; simp at c1
              · exact ⟨es, e, by rw [h, List.concat_eq_append]⟩
            obtain ⟨ys, y, rfl, hys, hy⟩ := IsA.concat (ds := es) (e := e) (by rw [List.concat_eq_append]; exact hxs)
            have hie : instrD e (es ++ [e]).length = true := by
              have := List.all_eq_true.mp hall e (by simp)
              exact this
            obtain ⟨k, r, rfl⟩ := instr_name hie
            cases hy with
            | @tup b2 zs _ hb hzs =>
            cases hzs with
            | @cons zk zs2 _ _ hk hzs2 =>
            cases hk
            refine ⟨_, rfl, 1, rfl, a, _, -1, .ref b2, rfl, rfl, SqT.of (s3 _ _ ha), atI_last _ _, b2, _, 0, _, rfl, rfl, SqT.of (s3 _ _ hb), atI_nat (j := 0) rfl, (by show 2 ≤ sizeLine; decide), fun m hm => ?_⟩
            refine ⟨m, _, rfl, .inr (SqT.of upd_same), rfl, rfl, ?_⟩
            show Q (.bl (inV (.str k) [.str "jump", .str "end"])) _
            rw [inVab]
            have q := q _ (s3.trans (same_new (o := .tup [.str "jump", .str "end"]) hm))
            have e1 : progD (.tup (es ++ [.tup (.str k :: r)])) = (decide (k = "jump") || decide (k = "end")) := by
              rw [e0, hall]
              simp only [lastD, List.getLast?_append, List.getLast?_singleton, Option.some_or, Bool.true_and]
              by_cases h1 : k = "jump" <;> by_cases h2 : k = "end" <;> simp [h1, h2]
            rw [e1] at q
            exact q
      · refine bT (by simp; omega) (bad H (Same.refl H) (by simp only [progD]; rw [decide_eq_false c2]; simp))
    · refine ifF (by omega) ⟨_, rfl, bT rfl (bad H (Same.refl H) (by simp only [progD]; rw [decide_eq_false c1]; rfl))⟩
  · have e : progD d = false := by cases d <;> first | rfl | exact absurd rfl ct
    have q := q H (Same.refl H)
    rw [e] at q
    rw [decide_eq_false ct]
    exact iteT q
end
end Hc

namespace Hc
open PySem PySem.Spec PyProof.Rows L2 Hr
section
variable {X : Cx}
/-- xs[i] of a list, by values, for xs[i] op= e -/
def rGetL (K : PySem.W.Frag) : V → V → Hp → VK → Prop := fun x y H Q => ∃ p xs j v, x = .ref p ∧ y = .int ((j : Nat) : Int) ∧ SqL K H p xs ∧ xs[j]? = some v ∧ Q v H
theorem pget_list : PGet X (rGetL X.K) := by
  intro pins s σ H o i ov iv Q I ro ri h
  obtain ⟨p, xs, j, v, rfl, rfl, hq, he, q⟩ := h
  cases ro
  obtain ⟨t, rfl⟩ := ri
  obtain ⟨its, r, pl, hz⟩ := I.list hq
  obtain ⟨w, ew, rw'⟩ := r.get he
  have hj := (List.getElem?_eq_some_iff.mp he).1
  have hn := line63
  exact wpAny_getItem_list pl.isList (by omega) (by omega) (by simpa using ew) ⟨v, H, I, rw', q⟩

end
/-- the tape at p: the script's ints at s, a place in them, what is left of a number, a number -/
def TapeIs (H : Hp) (p s : Addr) (ns : List Int) (pos : Nat) (rest mix : Int) : Prop :=
  H p = some (.lst [.ref s, .int (pos : Int), .int rest, .int mix]) ∧ H s = some (.lst (ns.map V.int)) ∧ p ≠ s ∧ pos ≤ ns.length
def Tape (H : Hp) (p s : Addr) : Prop := ∃ ns pos rest mix, TapeIs H p s ns pos rest mix
theorem Tape.s {H : Hp} {p s : Addr} (t : Tape H p s) : ∃ ns : List Int, H s = some (.lst (ns.map V.int)) := by
  obtain ⟨ns, pos, rest, mix, _, h2, _⟩ := t
  exact ⟨ns, h2⟩
theorem Tape.put {H : Hp} {p s l : Addr} {o : HO} (t : Tape H p s) (h1 : l ≠ p) (h2 : l ≠ s) : Tape (L2.upd H l o) p s := by
  obtain ⟨ns, pos, rest, mix, a1, a2, a3, a4⟩ := t
  exact ⟨ns, pos, rest, mix, by rw [upd_ne h1.symm]; exact a1, by rw [upd_ne h2.symm]; exact a2, a3, a4⟩
/-- all but p is as it was -/
def Off (p : Addr) (H H' : Hp) : Prop := ∀ b o, H b = some o → b ≠ p → H' b = some o
theorem Off.refl (p : Addr) (H : Hp) : Off p H H := fun _ _ h _ => h
theorem Off.trans {p : Addr} {H H1 H2 : Hp} (a : Off p H H1) (b : Off p H1 H2) : Off p H H2 := fun c o h n => b c o (a c o h n) n
theorem Off.upd {p : Addr} {H H1 : Hp} {o : HO} (a : Off p H H1) : Off p H (upd H1 p o) := fun c x h n => by rw [upd_ne n]; exact a c x h n
theorem Off.new {p q : Addr} {H : Hp} {o : HO} (h : H q = none) : Off p H (L2.upd H q o) := fun c x e n => by rw [upd_ne (ne_of_none e h)]; exact e
theorem Same.off {p : Addr} {H H1 : Hp} (h : Same H H1) : Off p H H1 := fun c x e _ => h c x e
theorem Tape.same {H H1 : Hp} {p s : Addr} (t : Tape H p s) (h : Same H H1) : Tape H1 p s := by
  obtain ⟨ns, pos, rest, mix, h1, h2, h3, h4⟩ := t
  exact ⟨ns, pos, rest, mix, h _ _ h1, h _ _ h2, h3, h4⟩
theorem Tape.upd {H : Hp} {p s : Addr} {ns : List Int} {pos pos' : Nat} {rest mix rest' mix' : Int} (t : TapeIs H p s ns pos rest mix) (hp : pos' ≤ ns.length) : TapeIs (L2.upd H p (.lst [.ref s, .int (pos' : Int), .int rest', .int mix'])) p s ns pos' rest' mix' := by
  obtain ⟨h1, h2, h3, h4⟩ := t
  exact ⟨upd_same, by rw [upd_ne h3.symm]; exact h2, h3, hp⟩
/-! ### a heap without some cells -/
def nx (ps : List Addr) (H : Hp) : Hp := fun b => if b ∈ ps then none else H b
theorem nx_le {ps : List Addr} {H : Hp} : Same (nx ps H) H := fun b o e => by
  unfold nx at e
  by_cases h : b ∈ ps
  · rw [if_pos h] at e; cases e
  · rwa [if_neg h] at e
theorem nx_off {ps : List Addr} {H : Hp} {b : Addr} (h : b ∉ ps) : nx ps H b = H b := if_neg h
theorem nx_in {ps : List Addr} {H : Hp} {b : Addr} {o : HO} (e : nx ps H b = some o) : b ∉ ps := fun h => by
  unfold nx at e; rw [if_pos h] at e; cases e
theorem nx_same {ps : List Addr} {H H' : Hp} (s : Same H H') : Same (nx ps H) (nx ps H') := fun x o e => by
  have h := nx_in e
  rw [nx_off h] at e ⊢
  exact s _ _ e
theorem nx_tp {p : Addr} {H H' : Hp} (b : Off p H H') : Same (nx [p] H) (nx [p] H') := fun x o e => by
  have h := nx_in e
  rw [nx_off h] at e ⊢
  exact b _ _ e (fun z => h (by simp [z]))
theorem nx_at {p b : Addr} {H : Hp} {o : HO} (e : H b = some o) (n : b ≠ p) : nx [p] H b = some o := by
  rw [nx_off (by simpa using n)]; exact e
theorem Tape.ne {H : Hp} {p s q : Addr} (t : Tape H p s) (h : H q = none) : q ≠ p := fun z => by
  obtain ⟨ns, pos, rest, mix, h1, _⟩ := t
  rw [z, h1] at h; cases h
mutual
/-- tuples alone within -/
def flatT : D → Bool
  | .tup ds => flatTL ds
  | .lst _ => false
  | .dct => false
  | .atom _ _ => false
  | _ => true
def flatTL : List D → Bool
  | [] => true
  | d :: ds => flatT d && flatTL ds
end
mutual
theorem is_nx {C p : Addr} {H : Hp} (h : ∀ xs, H p ≠ some (.tup xs)) : ∀ {x : V} {d : D}, flatT d = true → Is C H x d → Is C (nx [p] H) x d
  | _, _, _, .non => .non
  | _, _, _, .bl b => .bl b
  | _, _, _, .int i => .int i
  | _, _, _, .str s => .str s
  | _, _, c, .tup e t => .tup (nx_at e (fun z => h _ (z ▸ e))) (isA_nx h (by simpa [flatT] using c) t)
  | _, _, c, .lst _ _ => by simp [flatT] at c
  | _, _, c, .dct _ => by simp [flatT] at c
  | _, _, c, .atom _ _ _ => by simp [flatT] at c
theorem isA_nx {C p : Addr} {H : Hp} (h : ∀ xs, H p ≠ some (.tup xs)) : ∀ {xs : List V} {ds : List D}, flatTL ds = true → IsA C H xs ds → IsA C (nx [p] H) xs ds
  | _, _, _, .nil => .nil
  | _, _, c, .cons e t => by
    simp only [flatTL, Bool.and_eq_true] at c
    exact .cons (is_nx h c.1 e) (isA_nx h c.2 t)
end
theorem Tape.nt {H : Hp} {p s : Addr} (t : Tape H p s) (xs : List V) : H p ≠ some (.tup xs) := fun z => by
  obtain ⟨ns, pos, rest, mix, h1, _⟩ := t
  rw [h1] at z; cases z
/-! ### forms and rows, as the law draws them -/
def lawF : List (Str × Str) := [("set", "rn"), ("copy", "rr"), ("add", "rrr"), ("less", "rrr"), ("same", "rrr"), ("zero", "rt"), ("jump", "t"), ("load", "rrr"), ("store", "rrr"), ("tell", "rr"), ("token", "rr"), ("end", "")]
def lawFD : List D := lawF.map fun p => .tup [.str p.1, .str p.2]
def srt (z : Str) : Str := if z = "r" then "register" else if z = "t" then "place" else "number"
def chs (z : Str) : List Str := z.cps.toList.map fun c => ⟨#[c]⟩
theorem law_prog : lawF.map (fun p => (p.1, (chs p.2).map srt)) = progF := by decide +kernel
def spLF (C : Addr) : Sp := fun vs H Q _ => vs = [] ∧ ∀ H' l xs, Same H H' → H l = none → H' l = some (.lst xs) → IsA C H' xs lawFD → Q (.ref l) H'
def spPart : Sp := fun vs H Q _ => ∃ p s z m, vs = [.ref p, .str z, .int m] ∧ Tape H p s ∧ 0 < m ∧ m < 1000 ∧ ∀ H' i, Tape H' p s → Off p H H' → formD (.int i) (srt z) m = true → Q (.int i) H'
def spNext : Sp := fun vs H Q _ => ∃ p s m, vs = [.ref p, .int m] ∧ Tape H p s ∧ 0 < m ∧ m < 2 ^ 60 ∧ ∀ H' r, Tape H' p s → Off p H H' → 0 ≤ r → r < m → Q (.int r) H'
section
variable {P : Program} {w : World} {K : PySem.W.Frag} {mg : Str → Option Value} {base : Heap} {f : Addr} {fd : FuncData} {C : Addr}
abbrev s__law_next : Stmt := top 40
theorem sc__law_next : FnScope ["tape", "many", "rest", "cell"] ["tape", "many"] (C8.fnScope s__law_next) := C8.fnScope_by (by decide +kernel)
theorem ok__law_next (F : C8.Def K mg "_law_next" s__law_next f fd) (b : Binds K fd ["tape", "many"] []) (T : Txt K mg w C) : C8.Cal P w K mg base 1 "_law_next" spNext [] := by
  refine C8.cal0 F b .nil sc__law_next (fun vs H Q E h => ?_) (fun cdv A outer s H vs Q E hr h => ?_)
  · obtain ⟨p, sa, m, rfl, _⟩ := h; rfl
  obtain ⟨p, sa, m, rfl, ⟨ns, pos, rest, mix, t⟩, hm, hm2, q⟩ := h
  refine ⟨_, (pss_cons (ps_set (i := 2) sc__law_next.nd rfl (Or.inl rfl) (pe_ix ix_list (pv 0) pe_int (fun _ _ => rfl)))
      (pss_cons (ps_if (pt_cmpR op_gt (pv 2) pe_int (nomark _)) (pss_cons (ps_asg (pe_op op_fdivW (pv 2) (pv 1)) (pg_sub (pv 0) pe_int set_list))
      (pss_one (ps_ret (pe_op op_mod (pe_callTy call_int1 rfl T.z_int bt_int (pa_cons (pv 2) pa_nil)) (pv 1))))) pss_nil)
      (pss_cons (ps_set (i := 3) sc__law_next.nd rfl (Or.inl rfl) pe_int)
      (C8.pss_cut (ps_if (pt_cmpR op_lt (pe_ix ix_list (pv 0) pe_int (fun _ _ => rfl)) (pe_callB call_lenS rfl T.z_len bt_len (pa_cons (pe_ix ix_list (pv 0) pe_int (fun _ _ => rfl)) pa_nil)) (nomark _)) (pss_cons (ps_set (i := 3) sc__law_next.nd rfl (Or.inl rfl) (pe_callB call_abs rfl T.z_abs bt_abs (pa_cons (pe_ix ix_list (pe_ix ix_list (pv 0) pe_int (fun _ _ => rfl)) (pe_ix ix_list (pv 0) pe_int (fun _ _ => rfl)) (fun _ _ => rfl)) pa_nil)))
      (pss_one (ps_augS (pv 0) pe_int pget_list pe_int ip_add set_list))) pss_nil)
      (pss_cons (ps_if (pt_cmpR op_ge (pv 3) (pe_op op_pow pe_int pe_int) (nomark _)) (pss_cons (ps_asg (pe_op op_fdivW (pv 3) (pv 1)) (pg_sub (pv 0) pe_int set_list))
      (pss_one (ps_ret (pe_op op_mod (pe_callTy call_int1 rfl T.z_int bt_int (pa_cons (pv 3) pa_nil)) (pv 1))))) pss_nil)
      (pss_cons (ps_asg (pe_op op_mod (pe_callTy call_int1 rfl T.z_int bt_int (pa_cons (pe_op op_add (pe_op op_add (pe_op op_mul (pe_ix ix_list (pv 0) pe_int (fun _ _ => rfl)) pe_int) (pe_op op_mul (pv 3) pe_int)) pe_int) pa_nil)) pe_int) (pg_sub (pv 0) pe_int set_list))
      (pss_one (ps_ret (pe_op op_mod (pe_callTy call_int1 rfl T.z_int bt_int (pa_cons (pe_op op_fdiv (pe_op op_mod (pe_op op_mul (pe_ix ix_list (pv 0) pe_int (fun _ _ => rfl)) pe_int) pe_int) pe_int) pa_nil)) (pv 1)))))))))), ?_⟩
  obtain ⟨hp, hs, hne, hpos⟩ := id t
  refine ⟨_, rfl, p, _, 2, _, rfl, rfl, SqL.of hp, atI_nat (j := 2) rfl, ?_⟩
  refine ⟨_, rfl, _, _, rfl, rfl, _, rfl, ite2 (fun c => ?_) (fun c => ?_)⟩
  · refine ⟨_, rfl, _, rfl, _, _, rfl, rfl, wide_div hm (b := 60) (by have := hm2; omega) (by decide) (by decide), _, rfl, p, _, 2, 2, rfl, rfl, hp, rfl, ?_⟩
    refine ⟨_, rfl, .inl ⟨_, rfl, _, rfl, _, _, rfl, rfl, hm, ?_⟩⟩
    exact q _ _ ⟨ns, pos, _, mix, Tape.upd t hpos⟩ (Off.upd (Off.refl p H)) (Int.emod_nonneg _ (by omega)) (Int.emod_lt_of_pos _ hm)
  refine ⟨fun σ' H' => ∃ cell pos', σ' = [some (.ref p), some (.int m), some (.int rest), some (.int cell)] ∧ TapeIs H' p sa ns pos' rest mix ∧ Off p H H', ?_, ?_⟩
  · refine ⟨_, rfl, p, _, 1, _, rfl, rfl, SqL.of hp, atI_nat (j := 1) rfl, _, rfl, p, _, 0, _, rfl, rfl, SqL.of hp, atI_nat (j := 0) rfl, sa, _, rfl, .inl (SqL.of hs), _, _, rfl, rfl, _, rfl, ite2 (fun c1 => ?_) (fun c1 => ?_)⟩
    · have c2 : (pos : Int) < ((ns.map V.int).length : Int) := of_decide_eq_true c1
      rw [List.length_map] at c2
      have c3 : pos < ns.length := by omega
      have hz : (ns.map V.int)[pos]? = some (.int ns[pos]) := by rw [List.getElem?_map, List.getElem?_eq_getElem c3]; rfl
      refine ⟨_, rfl, p, _, 0, _, rfl, rfl, SqL.of hp, atI_nat (j := 0) rfl, _, rfl, p, _, 1, _, rfl, rfl, SqL.of hp, atI_nat (j := 1) rfl, sa, _, _, _, rfl, rfl, SqL.of hs, atI_nat hz, _, rfl, ?_⟩
      refine ⟨_, rfl, p, _, 1, _, rfl, rfl, SqL.of hp, rfl, _, _, rfl, rfl, p, _, 1, 1, rfl, rfl, hp, rfl, ?_⟩
      exact ⟨_, pos + 1, rfl, Tape.upd (pos' := pos + 1) (rest' := rest) (mix' := mix) t c3, Off.upd (Off.refl p H)⟩
    · exact ⟨0, pos, rfl, t, Off.refl p H⟩
  rintro σ' H' ⟨cell, pos', rfl, t', off⟩
  obtain ⟨hp', hs', hne', hpos'⟩ := id t'
  refine ⟨_, rfl, _, _, rfl, rfl, ⟨by decide, by decide, by decide⟩, _, _, rfl, rfl, _, rfl, ite2 (fun c => ?_) (fun c => ?_)⟩
  · refine ⟨_, rfl, _, rfl, _, _, rfl, rfl, wide_div hm (b := 60) (by have := hm2; omega) (by decide) (by decide), _, rfl, p, _, 2, 2, rfl, rfl, hp', rfl, ?_⟩
    refine ⟨_, rfl, .inl ⟨_, rfl, _, rfl, _, _, rfl, rfl, hm, ?_⟩⟩
    exact q _ _ ⟨ns, pos', _, mix, Tape.upd t' hpos'⟩ (Off.upd off) (Int.emod_nonneg _ (by omega)) (Int.emod_lt_of_pos _ hm)
  · refine ⟨_, rfl, p, _, 3, _, rfl, rfl, SqL.of hp', atI_nat (j := 3) rfl, _, _, rfl, rfl, .inr ⟨by decide, by decide⟩, _, rfl, _, _, rfl, rfl, .inr ⟨by decide, by decide⟩, _, _, rfl, rfl, _, _, rfl, rfl, .inl ⟨_, rfl, _, _, rfl, rfl, (by show (0 : Int) < 2147483647; decide), _, rfl, p, _, 3, 3, rfl, rfl, hp', rfl, ?_⟩⟩
    refine ⟨_, rfl, p, _, 3, _, rfl, rfl, SqL.of upd_same, atI_nat (j := 3) rfl, _, _, rfl, rfl, .inr ⟨by decide, by decide⟩, _, _, rfl, rfl, (by show (0 : Int) < 2147483647; decide), _, _, rfl, rfl, ⟨by decide, by decide⟩, .inl ⟨_, rfl, _, rfl, _, _, rfl, rfl, hm, ?_⟩⟩
    exact q _ _ ⟨ns, pos', rest, _, Tape.upd t' hpos'⟩ (Off.upd off) (Int.emod_nonneg _ (by omega)) (Int.emod_lt_of_pos _ hm)
abbrev s__law_forms : Stmt := top 41
theorem sc__law_forms : FnScope ["rows"] [] (C8.fnScope s__law_forms) := C8.fnScope_by (by decide +kernel)
theorem ok__law_forms (F : C8.Def K mg "_law_forms" s__law_forms f fd) (b : Binds K fd [] []) (T : Txt K mg w C) : C8.Cal P w K mg base 1 "_law_forms" (spLF C) [] := by
  refine C8.cal0 F b .nil sc__law_forms (fun vs H Q E h => ?_) (fun cdv A outer s H vs Q E hr h => ?_)
  · obtain ⟨rfl, _⟩ := h; rfl
  obtain ⟨rfl, q⟩ := h
  refine ⟨_, (pss_cons (ps_set (i := 0) sc__law_forms.nd rfl (Or.inl rfl) (pe_lst (pa_cons (pe_tup (pa_cons pe_str (pa_cons pe_str pa_nil))) (pa_cons (pe_tup (pa_cons pe_str (pa_cons pe_str pa_nil))) (pa_cons (pe_tup (pa_cons pe_str (pa_cons pe_str pa_nil))) (pa_cons (pe_tup (pa_cons pe_str (pa_cons pe_str pa_nil))) (pa_cons (pe_tup (pa_cons pe_str (pa_cons pe_str pa_nil))) (pa_cons (pe_tup (pa_cons pe_str (pa_cons pe_str pa_nil))) (pa_cons (pe_tup (pa_cons pe_str (pa_cons pe_str pa_nil))) pa_nil)))))))))
      (pss_one (ps_ret (pe_op op_cat (pv 0) (pe_lst (pa_cons (pe_tup (pa_cons pe_str (pa_cons pe_str pa_nil))) (pa_cons (pe_tup (pa_cons pe_str (pa_cons pe_str pa_nil))) (pa_cons (pe_tup (pa_cons pe_str (pa_cons pe_str pa_nil))) (pa_cons (pe_tup (pa_cons pe_str (pa_cons pe_str pa_nil))) (pa_cons (pe_tup (pa_cons pe_str (pa_cons pe_str pa_nil))) pa_nil)))))))))), ?_⟩
  refine ⟨(by show 2 ≤ sizeLine; decide), fun p1 h1 => ?_⟩
  have s1 := same_new (o := .tup [.str "set", .str "rn"]) h1
  have e1 : upd H p1 (.tup [.str "set", .str "rn"]) p1 = some (.tup [.str "set", .str "rn"]) := upd_same
  generalize upd H p1 (.tup [.str "set", .str "rn"]) = H1 at *
  refine ⟨(by show 2 ≤ sizeLine; decide), fun p2 h2 => ?_⟩
  have s2 := same_new (o := .tup [.str "copy", .str "rr"]) h2
  have e2 : upd H1 p2 (.tup [.str "copy", .str "rr"]) p2 = some (.tup [.str "copy", .str "rr"]) := upd_same
  generalize upd H1 p2 (.tup [.str "copy", .str "rr"]) = H2 at *
  refine ⟨(by show 2 ≤ sizeLine; decide), fun p3 h3 => ?_⟩
  have s3 := same_new (o := .tup [.str "add", .str "rrr"]) h3
  have e3 : upd H2 p3 (.tup [.str "add", .str "rrr"]) p3 = some (.tup [.str "add", .str "rrr"]) := upd_same
  generalize upd H2 p3 (.tup [.str "add", .str "rrr"]) = H3 at *
  refine ⟨(by show 2 ≤ sizeLine; decide), fun p4 h4 => ?_⟩
  have s4 := same_new (o := .tup [.str "less", .str "rrr"]) h4
  have e4 : upd H3 p4 (.tup [.str "less", .str "rrr"]) p4 = some (.tup [.str "less", .str "rrr"]) := upd_same
  generalize upd H3 p4 (.tup [.str "less", .str "rrr"]) = H4 at *
  refine ⟨(by show 2 ≤ sizeLine; decide), fun p5 h5 => ?_⟩
  have s5 := same_new (o := .tup [.str "same", .str "rrr"]) h5
  have e5 : upd H4 p5 (.tup [.str "same", .str "rrr"]) p5 = some (.tup [.str "same", .str "rrr"]) := upd_same
  generalize upd H4 p5 (.tup [.str "same", .str "rrr"]) = H5 at *
  refine ⟨(by show 2 ≤ sizeLine; decide), fun p6 h6 => ?_⟩
  have s6 := same_new (o := .tup [.str "zero", .str "rt"]) h6
  have e6 : upd H5 p6 (.tup [.str "zero", .str "rt"]) p6 = some (.tup [.str "zero", .str "rt"]) := upd_same
  generalize upd H5 p6 (.tup [.str "zero", .str "rt"]) = H6 at *
  refine ⟨(by show 2 ≤ sizeLine; decide), fun p7 h7 => ?_⟩
  have s7 := same_new (o := .tup [.str "jump", .str "t"]) h7
  have e7 : upd H6 p7 (.tup [.str "jump", .str "t"]) p7 = some (.tup [.str "jump", .str "t"]) := upd_same
  generalize upd H6 p7 (.tup [.str "jump", .str "t"]) = H7 at *
  refine ⟨(by show 7 ≤ sizeLine; decide), fun l1 hl1 => ⟨_, rfl, ?_⟩⟩
  have sA := same_new (o := .lst [.ref p1, .ref p2, .ref p3, .ref p4, .ref p5, .ref p6, .ref p7]) hl1
  have eA : upd H7 l1 (.lst [.ref p1, .ref p2, .ref p3, .ref p4, .ref p5, .ref p6, .ref p7]) l1 = some (.lst [.ref p1, .ref p2, .ref p3, .ref p4, .ref p5, .ref p6, .ref p7]) := upd_same
  generalize upd H7 l1 (.lst [.ref p1, .ref p2, .ref p3, .ref p4, .ref p5, .ref p6, .ref p7]) = HA at *
  refine ⟨(by show 2 ≤ sizeLine; decide), fun p8 h8 => ?_⟩
  have s8 := same_new (o := .tup [.str "load", .str "rrr"]) h8
  have e8 : upd HA p8 (.tup [.str "load", .str "rrr"]) p8 = some (.tup [.str "load", .str "rrr"]) := upd_same
  generalize upd HA p8 (.tup [.str "load", .str "rrr"]) = H8 at *
  refine ⟨(by show 2 ≤ sizeLine; decide), fun p9 h9 => ?_⟩
  have s9 := same_new (o := .tup [.str "store", .str "rrr"]) h9
  have e9 : upd H8 p9 (.tup [.str "store", .str "rrr"]) p9 = some (.tup [.str "store", .str "rrr"]) := upd_same
  generalize upd H8 p9 (.tup [.str "store", .str "rrr"]) = H9 at *
  refine ⟨(by show 2 ≤ sizeLine; decide), fun p10 h10 => ?_⟩
  have s10 := same_new (o := .tup [.str "tell", .str "rr"]) h10
  have e10 : upd H9 p10 (.tup [.str "tell", .str "rr"]) p10 = some (.tup [.str "tell", .str "rr"]) := upd_same
  generalize upd H9 p10 (.tup [.str "tell", .str "rr"]) = H10 at *
  refine ⟨(by show 2 ≤ sizeLine; decide), fun p11 h11 => ?_⟩
  have s11 := same_new (o := .tup [.str "token", .str "rr"]) h11
  have e11 : upd H10 p11 (.tup [.str "token", .str "rr"]) p11 = some (.tup [.str "token", .str "rr"]) := upd_same
  generalize upd H10 p11 (.tup [.str "token", .str "rr"]) = H11 at *
  refine ⟨(by show 2 ≤ sizeLine; decide), fun p12 h12 => ?_⟩
  have s12 := same_new (o := .tup [.str "end", .str ""]) h12
  have e12 : upd H11 p12 (.tup [.str "end", .str ""]) p12 = some (.tup [.str "end", .str ""]) := upd_same
  generalize upd H11 p12 (.tup [.str "end", .str ""]) = H12 at *
  refine ⟨(by show 5 ≤ sizeLine; decide), fun l2 hl2 => ?_⟩
  have sB := same_new (o := .lst [.ref p8, .ref p9, .ref p10, .ref p11, .ref p12]) hl2
  have eB : upd H12 l2 (.lst [.ref p8, .ref p9, .ref p10, .ref p11, .ref p12]) l2 = some (.lst [.ref p8, .ref p9, .ref p10, .ref p11, .ref p12]) := upd_same
  generalize upd H12 l2 (.lst [.ref p8, .ref p9, .ref p10, .ref p11, .ref p12]) = HB at *
  have tB := sB
  have t12 := s12.trans tB
  have t11 := s11.trans t12
  have t10 := s10.trans t11
  have t9 := s9.trans t10
  have t8 := s8.trans t9
  have tA := sA.trans t8
  have t7 := s7.trans tA
  have t6 := s6.trans t7
  have t5 := s5.trans t6
  have t4 := s4.trans t5
  have t3 := s3.trans t4
  have t2 := s2.trans t3
  have t1 := s1.trans t2
  refine ⟨l1, l2, _, _, rfl, rfl, t8 _ _ eA, eB, (by show 12 ≤ sizeLine; decide), fun l3 hl3 => ?_⟩
  have sC := same_new (o := .lst ([.ref p1, .ref p2, .ref p3, .ref p4, .ref p5, .ref p6, .ref p7] ++ [.ref p8, .ref p9, .ref p10, .ref p11, .ref p12])) hl3
  refine q _ l3 ([.ref p1, .ref p2, .ref p3, .ref p4, .ref p5, .ref p6, .ref p7] ++ [.ref p8, .ref p9, .ref p10, .ref p11, .ref p12]) (t1.trans sC) (t1.free hl3) upd_same ?_
  exact (.cons (.tup (sC _ _ (t2 _ _ e1)) (.cons (.str _) (.cons (.str _) .nil))) (.cons (.tup (sC _ _ (t3 _ _ e2)) (.cons (.str _) (.cons (.str _) .nil))) (.cons (.tup (sC _ _ (t4 _ _ e3)) (.cons (.str _) (.cons (.str _) .nil))) (.cons (.tup (sC _ _ (t5 _ _ e4)) (.cons (.str _) (.cons (.str _) .nil))) (.cons (.tup (sC _ _ (t6 _ _ e5)) (.cons (.str _) (.cons (.str _) .nil))) (.cons (.tup (sC _ _ (t7 _ _ e6)) (.cons (.str _) (.cons (.str _) .nil))) (.cons (.tup (sC _ _ (tA _ _ e7)) (.cons (.str _) (.cons (.str _) .nil))) (.cons (.tup (sC _ _ (t9 _ _ e8)) (.cons (.str _) (.cons (.str _) .nil))) (.cons (.tup (sC _ _ (t10 _ _ e9)) (.cons (.str _) (.cons (.str _) .nil))) (.cons (.tup (sC _ _ (t11 _ _ e10)) (.cons (.str _) (.cons (.str _) .nil))) (.cons (.tup (sC _ _ (t12 _ _ e11)) (.cons (.str _) (.cons (.str _) .nil))) (.cons (.tup (sC _ _ (tB _ _ e12)) (.cons (.str _) (.cons (.str _) .nil))) .nil))))))))))))
abbrev s__law_part : Stmt := top 42
theorem sc__law_part : FnScope ["tape", "sort", "many"] ["tape", "sort", "many"] (C8.fnScope s__law_part) := C8.fnScope_by (by decide +kernel)
theorem ok__law_part (F : C8.Def K mg "_law_part" s__law_part f fd) (b : Binds K fd ["tape", "sort", "many"] []) (T : Txt K mg w C) (c__law_next : C8.Cal P w K mg base 1 "_law_next" spNext []) : C8.Cal P w K mg base 2 "_law_part" spPart [] := by
  refine C8.cal0 F b .nil sc__law_part (fun vs H Q E h => ?_) (fun cdv A outer s H vs Q E hr h => ?_)
  · obtain ⟨p, s, z, m, rfl, _⟩ := h; rfl
  obtain ⟨p, s0, z, m, rfl, t, m0, m1, q⟩ := h
  refine ⟨_, (pss_cons (ps_if (pt_cmpR op_eq (pv 1) pe_str (nomark _)) (pss_one (ps_ret (C8.pe_c c__law_next hr (by first | decide | omega) rfl (pa_cons (pv 0) (pa_cons pe_int pa_nil))))) pss_nil)
      (pss_cons (ps_if (pt_cmpR op_eq (pv 1) pe_str (nomark _)) (pss_one (ps_ret (C8.pe_c c__law_next hr (by first | decide | omega) rfl (pa_cons (pv 0) (pa_cons (pv 2) pa_nil))))) pss_nil)
      (pss_one (ps_ret (pe_op op_sub (C8.pe_c c__law_next hr (by first | decide | omega) rfl (pa_cons (pv 0) (pa_cons (pe_op op_pow pe_int pe_int) pa_nil))) (pe_op op_pow pe_int pe_int)))))), ?_⟩
  have nR : ∀ i : Int, -2147483648 ≤ i → i ≤ 2147483647 → numOk i = true := fun i h1 h2 => by unfold numOk; rw [decide_eq_true h1, decide_eq_true h2]; rfl
  refine ⟨_, rfl, rfl, _, rfl, ?_⟩
  by_cases z1 : z = "r"
  · refine ifT (by rw [z1]) ⟨_, rfl, p, s0, 4, rfl, t, by decide, by decide, fun H' i t' off g0 g1 => q H' i t' off ?_⟩
    have e : srt z = "register" := by unfold srt; rw [if_pos z1]
    unfold formD
    rw [if_pos e]
    simp only [isNum, numD]
    rw [nR i (by omega) (by omega), decide_eq_true g0, decide_eq_true g1]; rfl
  refine ifF (fun y => z1 (V.str.inj y)) ⟨_, rfl, rfl, _, rfl, ?_⟩
  by_cases z2 : z = "t"
  · refine ifT (by rw [z2]) ⟨_, rfl, _, rfl, p, s0, m, rfl, t, m0, by omega, fun H' i t' off g0 g1 => q H' i t' off ?_⟩
    have e : srt z = "place" := by unfold srt; rw [if_neg z1, if_pos z2]
    unfold formD
    rw [if_neg (by rw [e]; decide +kernel), if_pos e]
    simp only [isNum, numD]
    rw [nR i (by omega) (by omega), decide_eq_true g0, decide_eq_true g1]; rfl
  refine ifF (fun y => z2 (V.str.inj y)) ⟨_, rfl, 2, 32, rfl, rfl, by unfold CPow; decide, p, s0, _, rfl, t, by show (0 : Int) < 2 ^ (32 : Int).toNat; decide, by show (2 : Int) ^ (32 : Int).toNat < 2 ^ 60; decide, fun H' i t' off g0 g1 => ?_⟩
  refine ⟨2, 31, rfl, rfl, by unfold CPow; decide, _, _, rfl, rfl, q H' _ t' off ?_⟩
  have e : srt z = "number" := by unfold srt; rw [if_neg z1, if_neg z2]
  have g1 : i < 4294967296 := g1
  unfold formD
  rw [if_neg (by rw [e]; decide +kernel), if_neg (by rw [e]; decide +kernel)]
  simp only [isNum]
  rw [nR _ (by show -2147483648 ≤ i - 2147483648; omega) (by show i - 2147483648 ≤ 2147483647; omega)]; rfl
end
end Hc

set_option maxHeartbeats 8000000
namespace Hc
open PySem PySem.Spec PyProof.Rows L2 Hr
def itm (e : D) : Prop := e = .non ∨ (∃ i, e = .int i) ∨ (∃ b, e = .bl b) ∨ (∃ k, e = .str k ∧ ((∃ p ∈ progF, p.1 = k) ∨ k = "r")) ∨ e = .tup [.int 1]
/-- a row as the law has it -/
def RowW (n : Nat) (d : D) : Prop := ∃ es, (d = .tup es ∨ d = .lst es) ∧ es.length ≤ n ∧ ∀ e ∈ es, itm e
theorem RowW.up {n m : Nat} {d : D} (h : RowW n d) (k : n ≤ m) : RowW m d := by
  obtain ⟨es, a, b, c⟩ := h
  exact ⟨es, a, Nat.le_trans b k, c⟩
theorem RowW.nm {n : Nat} {d : D} (h : RowW n d) (hn : n ≤ 1000) : NmOk ["r"] d := by
  obtain ⟨es, e | e, hl, hi⟩ := h
  · subst e
    unfold NmOk
    split
    · rename_i k ds q
      cases q
      rcases hi (.str k) (by simp) with h | ⟨_, h⟩ | ⟨_, h⟩ | ⟨k', h, h2⟩ | h
      · cases h
      · cases h
      · cases h
      · cases h
        refine ⟨?_, by simp at hl; omega⟩
        rcases h2 with h2 | h2
        · exact .inl h2
        · exact .inr (by simp [h2])
      · cases h
    · trivial
  · subst e; trivial
theorem law_forms_at : ∀ p ∈ lawF, formsM p.1 = some ((chs p.2).map srt) ∧ (∃ q ∈ progF, q.1 = p.1) ∧ (chs p.2).length ≤ 3 := by
  have h : ∀ p ∈ lawF, formsM p.1 = some ((chs p.2).map srt) ∧ (progF.any fun q => decide (q.1 = p.1)) = true ∧ (chs p.2).length ≤ 3 := by decide +kernel
  intro p hp
  obtain ⟨h1, h2, h3⟩ := h p hp
  refine ⟨h1, ?_, h3⟩
  obtain ⟨q, hq, e⟩ := List.any_eq_true.mp h2
  exact ⟨q, hq, of_decide_eq_true e⟩
theorem law_last : ∀ j, j = 6 ∨ j = 11 → ∃ p, lawF[j]? = some p ∧ (p.1 = ("jump" : Str) ∨ p.1 = ("end" : Str)) := by
  intro j hj
  rcases hj with rfl | rfl
  · exact ⟨_, rfl, .inl rfl⟩
  · exact ⟨_, rfl, .inr rfl⟩
def lastK (d : D) : Prop := ∃ k ds, d = .tup (.str k :: ds) ∧ (k = "jump" ∨ k = "end")
def spRowL (C : Addr) : Sp := fun vs H Q _ => ∃ p s m l, vs = [.ref p, .int m, .bl l] ∧ Tape H p s ∧ 0 < m ∧ m < 1000 ∧ ∀ H' a d, Tape H' p s → Off p H H' → Is C (nx [p] H') (.ref a) d → instrD d m = true → (l = true → lastK d) → RowW 4 d → Q (.ref a) H'
section
variable {P : Program} {w : World} {K : PySem.W.Frag} {mg : Str → Option Value} {base : Heap} {f : Addr} {fd : FuncData} {C : Addr}
abbrev s__law_row : Stmt := top 43
theorem sc__law_row : FnScope ["tape", "many", "last", "kind", "form", "sort"] ["tape", "many", "last"] (C8.fnScope s__law_row) := C8.fnScope_by (by decide +kernel)
theorem ok__law_row (F : C8.Def K mg "_law_row" s__law_row f fd) (b : Binds K fd ["tape", "many", "last"] []) (T : Txt K mg w C) (c__law_next : C8.Cal P w K mg base 1 "_law_next" spNext []) (c__law_forms : C8.Cal P w K mg base 1 "_law_forms" (spLF C) []) (c__law_part : C8.Cal P w K mg base 2 "_law_part" spPart []) : C8.Cal P w K mg base 3 "_law_row" (spRowL C) [] := by
  refine C8.cal0 F b .nil sc__law_row (fun vs H Q E h => ?_) (fun cdv A outer s H vs Q E hr h => ?_)
  · obtain ⟨p, s, m, l, rfl, _⟩ := h; rfl
  obtain ⟨p, s0, m, lb, rfl, t, m0, m1, q⟩ := h
  refine ⟨_, (pss_cons (ps_asg (pe_ix ix_list (Hr.pe_c0 c__law_forms hr (by first | decide | omega) rfl) (pe_ix ix_tup (pe_tup (pa_cons (C8.pe_c c__law_next hr (by first | decide | omega) rfl (pa_cons (pv 0) (pa_cons pe_int pa_nil))) (pa_cons (pe_ix ix_tup (pe_tup (pa_cons pe_int (pa_cons pe_int pa_nil))) (C8.pe_c c__law_next hr (by first | decide | omega) rfl (pa_cons (pv 0) (pa_cons pe_int pa_nil))) (fun _ _ => rfl)) pa_nil))) (pe_callTy call_int1 rfl T.z_int bt_int (pa_cons (pv 2) pa_nil)) (fun _ _ => rfl)) (fun _ _ => rfl)) (pg_tup rfl (pgs_cons (pg_name (i := 3) sc__law_row.nd rfl (Or.inl rfl)) (pgs_cons (pg_name (i := 4) sc__law_row.nd rfl (Or.inl rfl)) pgs_nil))))
      (pss_one (ps_ret (pe_op op_catA (pe_tup (pa_cons (pv 3) pa_nil)) (pe_callTy call_tuple_of rfl T.z_tuple bt_tuple (pa_cons (pe_lc (own := [("sort", 5)]) (g := gName 5) rfl sc__law_row.nd (pi_str (pv 4)) (blkOk_by (own := [("sort", 5)]) (N := ["tape", "many", "last", "kind", "form", "sort"]) (sc := C8.fnScope s__law_row) (by decide +kernel)) (fun _ _ _ _ _ => (pg_name (i := 5) sc__law_row.nd rfl (Or.inl rfl))) (fun _ _ _ _ _ => pts_nil) (fun _ _ _ _ _ => (C8.pe_c c__law_part hr (by first | decide | omega) rfl (pa_cons (pv 0) (pa_cons (pv 5) (pa_cons (pv 1) pa_nil)))))) pa_nil)))))), ?_⟩
  refine ⟨rfl, fun H1 l xs s1 hl0 hl ix => ?_⟩
  have t1 := t.same s1
  have npl : l ≠ p := t.ne hl0
  refine ⟨_, rfl, p, s0, 12, rfl, t1, by decide, by decide, fun H2 r1 t2 o2 g0 g1 => ⟨(by show 2 ≤ sizeLine; decide), fun u hu => ?_⟩⟩
  have su := same_new (o := .tup [.int 6, .int 11]) hu
  have eu : upd H2 u (.tup [.int 6, .int 11]) u = some (.tup [.int 6, .int 11]) := upd_same
  have npu := t2.ne hu
  have t3 := t2.same su
  generalize upd H2 u (.tup [.int 6, .int 11]) = H3 at *
  refine ⟨_, rfl, p, s0, 2, rfl, t3, by decide, by decide, fun H4 r2 t4 o4 k0 k1 => ?_⟩
  obtain ⟨e, he, he2⟩ : ∃ e : Nat, atI [V.int 6, .int 11] r2 = some (.int (e : Nat)) ∧ (e = 6 ∨ e = 11) := by
    have : r2 = 0 ∨ r2 = 1 := by omega
    rcases this with rfl | rfl
    · exact ⟨6, atI_nat (j := 0) rfl, .inl rfl⟩
    · exact ⟨11, atI_nat (j := 1) rfl, .inr rfl⟩
  refine ⟨u, _, r2, _, rfl, rfl, SqT.of (o4 _ _ eu npu), he, (by show 2 ≤ sizeLine; decide), fun u2 hu2 => ?_⟩
  have su2 := same_new (o := .tup [.int r1, .int (e : Nat)]) hu2
  have eu2 : upd H4 u2 (.tup [.int r1, .int (e : Nat)]) u2 = some (.tup [.int r1, .int (e : Nat)]) := upd_same
  have t5 := t4.same su2
  have o5 : Off p H1 (upd H4 u2 (.tup [.int r1, .int (e : Nat)])) := fun b o hb n => su2 _ _ (o4 _ _ (su _ _ (o2 _ _ hb n)) n)
  generalize upd H4 u2 (.tup [.int r1, .int (e : Nat)]) = H5 at *
  obtain ⟨r1, rfl⟩ : ∃ j : Nat, r1 = (j : Int) := ⟨r1.toNat, by omega⟩
  obtain ⟨j, hj, hj12, hjl⟩ : ∃ j : Nat, atI [V.int (r1 : Nat), .int (e : Nat)] (if lb = true then 1 else 0) = some (.int (j : Nat)) ∧ j < 12 ∧ (lb = true → j = 6 ∨ j = 11) := by
    cases lb with
    | true => exact ⟨e, atI_nat (j := 1) rfl, by omega, fun _ => he2⟩
    | false => exact ⟨r1, atI_nat (j := 0) rfl, by omega, fun z => nomatch z⟩
  refine ⟨_, rfl, .inr ⟨lb, rfl, u2, _, _, _, rfl, rfl, SqT.of eu2, hj, ?_⟩⟩
  have ix1 := isA_nx t1.nt (by decide) ix
  have ix5 := ix1.same (nx_tp o5)
  have hl5 := o5 _ _ hl npl
  obtain ⟨⟨kd, fm⟩, hkf⟩ : ∃ q, lawF[j]? = some q := ⟨lawF[j]'(by show j < 12; exact hj12), List.getElem?_eq_getElem _⟩
  have hdj : lawFD[j]? = some (.tup [.str kd, .str fm]) := by unfold lawFD; rw [List.getElem?_map, hkf]; rfl
  obtain ⟨z, hz, iz⟩ := ix5.get hdj
  obtain ⟨hfm, ⟨q0, hq0, hq1⟩, hlen⟩ := law_forms_at _ (List.mem_of_getElem? hkf)
  have hlen : (chs fm).length ≤ 3 := hlen
  cases iz with
  | @tup tz zs _ ez iz =>
  cases iz with
  | @cons _ _ _ _ a1 iz => cases iz with
  | @cons _ _ _ _ a2 iz =>
  cases a1
  cases a2
  cases iz
  have ez := nx_le _ _ ez
  refine ⟨l, xs, _, _, rfl, rfl, SqL.of hl5, atI_nat hz, tz, _, rfl, SqT.of ez, rfl, _, _, rfl, _, [], rfl, rfl, ?_⟩
  -- the parts
  refine ⟨_, rfl, (by show 1 ≤ sizeLine; decide), fun w hw => ?_⟩
  have sw := same_new (o := .tup [.str kd]) hw
  have ew : upd H5 w (.tup [.str kd]) w = some (.tup [.str kd]) := upd_same
  have t6 := t5.same sw
  have npw := t5.ne hw
  have o6 : Off p H (upd H5 w (.tup [.str kd])) := fun b o hb n => sw _ _ (o5 _ _ (s1 _ _ hb) n)
  generalize upd H5 w (.tup [.str kd]) = H6 at *
  refine ⟨_, rfl, fm, rfl, fun Dl hD => ?_⟩
  have npD := t6.ne hD
  have cl : (chs fm).length = fm.cps.size := by unfold chs; rw [List.length_map, Array.length_toList]
  refine lc_it (walk_str (z := fm)) (fun i H' => Tape H' p s0 ∧ Off p H6 H' ∧ ∃ is : List Int, H' Dl = some (.lst (is.map V.int)) ∧ is.length = i ∧ ∀ y ∈ is.zip ((chs fm).map srt), formD (.int y.1) y.2 m = true) ⟨t6.same (same_new hD), (Off.new hD), [], upd_same, rfl, fun y hy => by simp at hy⟩ (fun _ _ _ _ => trivial) ?_ ?_
  · rintro i y H7 H8 hi ⟨t7, o7, is, hz7, hl7, hf7⟩ ⟨rfl, c, hc, rfl⟩
    refine ⟨rfl, yes ⟨_, rfl, _, rfl, _, rfl, p, s0, _, m, rfl, t7, m0, m1, fun H9 i9 t9 o9 hf9 => ?_⟩⟩
    have hz9 := o9 _ _ hz7 npD
    refine ⟨_, hz9, small1000 (by rw [List.length_map]; omega), t9.put npD (fun z => ?_), fun b o hb n => ?_, is ++ [i9], by rw [upd_same, List.map_append]; rfl, by simp [hl7], fun y hy => ?_⟩
    · obtain ⟨ns, h⟩ := t6.s
      rw [z, h] at hD; cases hD
    · rw [upd_ne (ne_of_none hb hD)]
      exact o9 _ _ (o7 _ _ hb n) n
    · have hci : ((chs fm).map srt)[i]? = some (srt ⟨#[c]⟩) := by
        unfold chs
        rw [List.getElem?_map, List.getElem?_map, Array.getElem?_toList, hc]; rfl
      have hzip : (is ++ [i9]).zip ((chs fm).map srt) = is.zip ((chs fm).map srt) ++ [(i9, srt ⟨#[c]⟩)] := by
        have hsp : (chs fm).map srt = ((chs fm).map srt).take i ++ srt ⟨#[c]⟩ :: ((chs fm).map srt).drop (i + 1) := by
          have hlt := (List.getElem?_eq_some_iff.mp hci)
          obtain ⟨h1, h2⟩ := hlt
          rw [← h2]
          exact (List.take_append_drop i _).symm.trans (by rw [List.drop_eq_getElem_cons h1])
        have hti : (((chs fm).map srt).take i).length = is.length := by
          have hlt := (List.getElem?_eq_some_iff.mp hci).1
          rw [List.length_take]; omega
        rw [hsp, List.zip_append hti.symm]
        have e2 : is.zip (((chs fm).map srt).take i ++ srt ⟨#[c]⟩ :: ((chs fm).map srt).drop (i + 1)) = is.zip (((chs fm).map srt).take i) := by
          have := List.zip_append (l₁ := is) (r₁ := []) (l₂ := ((chs fm).map srt).take i) (r₂ := srt ⟨#[c]⟩ :: ((chs fm).map srt).drop (i + 1)) hti.symm
          simpa using this
        rw [e2]; simp
      rw [hzip] at hy
      rcases List.mem_append.mp hy with hy | hy
      · exact hf7 y hy
      · rw [List.mem_singleton.mp hy]; exact hf9
  · rintro H7 ⟨t7, o7, is, hz7, hl7, hf7⟩
    refine ⟨Dl, _, rfl, .inl ⟨SqL.of hz7, fun t8 ht8 => ?_⟩⟩
    have s8 := same_new (o := .tup (is.map V.int)) ht8
    have e8 : upd H7 t8 (.tup (is.map V.int)) t8 = some (.tup (is.map V.int)) := upd_same
    have t9 := t7.same s8
    have ew8 := s8 _ _ (o7 _ _ ew npw)
    have o9 : Off p H (upd H7 t8 (.tup (is.map V.int))) := fun b o hb n => s8 _ _ (o7 _ _ (o6 _ _ hb n) n)
    generalize upd H7 t8 (.tup (is.map V.int)) = H9 at *
    refine cat_go ew8 e8 (Nat.le_of_lt (small1000 (by simp; omega))) fun Ha a sa ea => ?_
    have ta := t9.same sa
    have hil : is.length = ((chs fm).map srt).length := by rw [List.length_map, cl, hl7]
    have iA : ∀ js : List Int, IsA C Ha (js.map V.int) (js.map D.int) := fun js => by
      induction js with
      | nil => exact .nil
      | cons x js ih => exact .cons (.int x) ih
    have isd : Is C Ha (.ref a) (.tup (.str kd :: is.map D.int)) := .tup ea (.cons (.str kd) (iA is))
    have fl : ∀ js : List Int, flatTL (js.map D.int) = true := fun js => by
      induction js with
      | nil => rfl
      | cons x js ih => simp only [List.map_cons, flatTL, flatT, ih]; rfl
    refine q Ha a _ ta (fun b o hb n => sa _ _ (o9 _ _ hb n)) (is_nx ta.nt (by simp only [flatT, flatTL]; exact fl is) isd) ?_ (fun hlb => ?_) ⟨_, .inl rfl, by simp only [List.length_cons, List.length_map]; rw [hil, List.length_map]; omega, fun e he => ?_⟩
    · have h2 : formsM kd = some ((chs fm).map srt) := hfm
      simp only [instrD, h2]
      unfold instrF
      rw [List.length_map, decide_eq_true hil, Bool.true_and, List.all_eq_true]
      intro y hy
      rw [List.zip_map_left] at hy
      obtain ⟨y2, hy2, rfl⟩ := List.mem_map.mp hy
      exact hf7 y2 hy2
    · obtain ⟨q2, hq2, hq3⟩ := law_last j (hjl hlb)
      rw [hkf] at hq2
      cases hq2
      exact ⟨kd, _, rfl, hq3⟩
    · rcases List.mem_cons.mp he with rfl | he
      · exact .inr (.inr (.inr (.inl ⟨kd, rfl, .inl ⟨q0, hq0, hq1⟩⟩)))
      · obtain ⟨y, _, rfl⟩ := List.mem_map.mp he
        exact .inr (.inl ⟨y, rfl⟩)
end
end Hc

set_option maxHeartbeats 8000000
namespace Hc
open PySem PySem.Spec PyProof.Rows L2 Hr
theorem room64 {k : Nat} {A : Around} (hr : Room k A) : A.units + 64 < cLine := by
  have := hr.un
  omega
mutual
/-- the datum in the words of the library -/
def pyd : D → PyData
  | .non => .none | .bl b => .bool b | .int i => .int i | .str s => .str s
  | .tup ds => .tuple (pydL ds)
  | .lst ds => .list (pydL ds)
  | _ => .none
def pydL : List D → List PyData
  | [] => []
  | d :: ds => pyd d :: pydL ds
end
mutual
def pln : D → Bool
  | .tup ds => plnL ds
  | .lst ds => plnL ds
  | .str s => PyData.strOk s
  | .dct => false
  | .atom _ _ => false
  | _ => true
def plnL : List D → Bool
  | [] => true
  | d :: ds => pln d && plnL ds
end
mutual
theorem is_dp {K : PySem.W.Frag} {C : Addr} {H : Hp} : ∀ {x : V} {d : D}, pln d = true → Is C H x d → Dp K H x (pyd d)
  | _, _, _, .non => .non
  | _, _, _, .bl b => .bl b
  | _, _, _, .int i => .int i
  | _, _, _, .str s => .str s
  | _, _, c, .tup h t => .tup (SqT.of h) (isA_dp (by simpa [pln] using c) t)
  | _, _, c, .lst h t => .lst (SqL.of h) (isA_dp (by simpa [pln] using c) t)
  | _, _, c, .dct _ => by simp [pln] at c
  | _, _, c, .atom _ _ _ => by simp [pln] at c
theorem isA_dp {K : PySem.W.Frag} {C : Addr} {H : Hp} : ∀ {xs : List V} {ds : List D}, plnL ds = true → IsA C H xs ds → DpAll K H xs (pydL ds)
  | _, _, _, .nil => .nil
  | _, _, c, .cons h t => by
    simp only [plnL, Bool.and_eq_true] at c
    exact .cons (is_dp c.1 h) (isA_dp c.2 t)
end
mutual
def dpt : D → Nat
  | .tup ds => dptL ds + 1
  | .lst ds => dptL ds + 1
  | _ => 0
def dptL : List D → Nat
  | [] => 0
  | d :: ds => max (dpt d) (dptL ds)
end
mutual
theorem pyd_lay : ∀ d : D, pln d = true → PyData.canLay0 (pyd d) = true ∧ PyData.depth (pyd d) ≤ dpt d
  | .tup ds, h => by
    have := pydL_lay ds (by simpa [pln] using h)
    simp only [pyd, PyData.canLay0, PyData.depth, dpt]; exact ⟨this.1, by omega⟩
  | .lst ds, h => by
    have := pydL_lay ds (by simpa [pln] using h)
    simp only [pyd, PyData.canLay0, PyData.depth, dpt]; exact ⟨this.1, by omega⟩
  | .non, _ => by simp [pyd, PyData.canLay0, PyData.depth]
  | .bl _, _ => by simp [pyd, PyData.canLay0, PyData.depth]
  | .int _, _ => by simp [pyd, PyData.canLay0, PyData.depth]
  | .str s, h => by simp only [pyd, PyData.canLay0, PyData.depth]; exact ⟨by simpa [pln] using h, Nat.zero_le _⟩
  | .dct, h => by simp [pln] at h
  | .atom _ _, h => by simp [pln] at h
theorem pydL_lay : ∀ ds : List D, plnL ds = true → PyData.canLayAll0 (pydL ds) = true ∧ PyData.depthAll (pydL ds) ≤ dptL ds
  | [], _ => by simp [pydL, PyData.canLayAll0, PyData.depthAll]
  | d :: ds, h => by
    simp only [plnL, Bool.and_eq_true] at h
    have h1 := pyd_lay d h.1
    have h2 := pydL_lay ds h.2
    simp only [pydL, PyData.canLayAll0, PyData.depthAll, dptL, Bool.and_eq_true]
    exact ⟨⟨h1.1, h2.1⟩, by omega⟩
end
theorem pyd_shaped {d : D} (h : pln d = true) (k : dpt d ≤ 64) : SeqAt.shaped (pyd d) = true := by
  have := pyd_lay d h
  unfold SeqAt.shaped
  rw [this.1, decide_eq_true (Nat.le_trans this.2 k)]; rfl
theorem itm_pln {e : D} (h : itm e) : pln e = true ∧ flatT e = true ∧ dpt e ≤ 1 := by
  rcases h with rfl | ⟨i, rfl⟩ | ⟨b, rfl⟩ | ⟨k, rfl, hk⟩ | rfl
  · exact ⟨rfl, rfl, by decide⟩
  · exact ⟨rfl, rfl, Nat.zero_le _⟩
  · exact ⟨rfl, rfl, Nat.zero_le _⟩
  · refine ⟨?_, rfl, Nat.zero_le _⟩
    simp only [pln]
    rcases hk with ⟨p, hp, rfl⟩ | rfl
    · have : ∀ p ∈ progF, PyData.strOk p.1 = true := by decide +kernel
      exact this p hp
    · decide +kernel
  · exact ⟨by decide, by decide, by decide⟩
theorem itmL_pln : ∀ {es : List D}, (∀ e ∈ es, itm e) → plnL es = true ∧ flatTL es = true ∧ dptL es ≤ 1
  | [], _ => ⟨rfl, rfl, by decide⟩
  | e :: es, h => by
    have h1 := itm_pln (h e (by simp))
    have h2 := itmL_pln (es := es) fun x hx => h x (by simp [hx])
    refine ⟨by simp only [plnL, h1.1, h2.1]; rfl, by simp only [flatTL, h1.2.1, h2.2.1]; rfl, by simp only [dptL]; omega⟩
theorem eqv_nil (ds : List D) : PyData.eqv (.list (pydL ds)) (.list []) = ds.isEmpty := by
  cases ds <;> simp [pydL, PyData.eqv, PyData.eqvAll]
mutual
theorem is_tups {C : Addr} {H H' : Hp} (k : Tups H H') : ∀ {x : V} {d : D}, flatT d = true → Is C H x d → Is C H' x d
  | _, _, _, .non => .non
  | _, _, _, .bl b => .bl b
  | _, _, _, .int i => .int i
  | _, _, _, .str s => .str s
  | _, _, c, .tup e t => .tup (k _ _ e) (isA_tups k (by simpa [flatT] using c) t)
  | _, _, c, .lst _ _ => by simp [flatT] at c
  | _, _, c, .dct _ => by simp [flatT] at c
  | _, _, c, .atom _ _ _ => by simp [flatT] at c
theorem isA_tups {C : Addr} {H H' : Hp} (k : Tups H H') : ∀ {xs : List V} {ds : List D}, flatTL ds = true → IsA C H xs ds → IsA C H' xs ds
  | _, _, _, .nil => .nil
  | _, _, c, .cons e t => by
    simp only [flatTL, Bool.and_eq_true] at c
    exact .cons (is_tups k c.1 e) (isA_tups k c.2 t)
end
theorem Tape.tups {H H' : Hp} {p s : Addr} (t : Tape H p s) (o : Off p H H') : Tups H H' := fun b xs e => o b _ e fun z => t.nt xs (z ▸ e)
theorem isA_set {C : Addr} {H : Hp} {y : V} {e : D} (h : Is C H y e) : ∀ {xs : List V} {ds : List D} (j : Nat), IsA C H xs ds → IsA C H (xs.set j y) (ds.set j e)
  | _, _, _, .nil => by simp only [List.set_nil]; exact .nil
  | _, _, 0, .cons a t => by simp only [List.set_cons_zero]; exact .cons h t
  | _, _, j + 1, .cons a t => by simp only [List.set_cons_succ]; exact .cons a (isA_set h j t)
theorem cut_neg (xs : List V) : cutV xs none (some (-1)) = xs.take (xs.length - 1) := by
  unfold cutV
  have e : HT.sIx xs.length xs.length (some (-1)) = xs.length - 1 := by
    show (if (-1 : Int) < 0 then ((-1 : Int) + (xs.length : Int)).toNat else min (-1 : Int).toNat xs.length) = _
    rw [if_pos (by decide)]; omega
  rw [e, HT.sIx_none, List.drop_zero, Nat.sub_zero]
/-- what stands, as the law goes on: the tape, and all that stood -/
structure On (p s : Addr) (Hb H : Hp) : Prop where
  t : Tape H p s
  o : Off p Hb H
theorem On.same {p s : Addr} {Hb H H' : Hp} (a : On p s Hb H) (e : Same H H') : On p s Hb H' := ⟨a.t.same e, fun b o hb n => e _ _ (a.o b o hb n)⟩
theorem On.go {p s : Addr} {Hb H H' : Hp} (a : On p s Hb H) (t : Tape H' p s) (o : Off p H H') : On p s Hb H' := ⟨t, fun b u hb n => o _ _ (a.o b u hb n) n⟩
theorem On.put {p s l : Addr} {Hb H : Hp} {o : HO} {xs : List V} (a : On p s Hb H) (h : Hb l = none) (np : l ≠ p) (ns : l ≠ s) : On p s Hb (upd H l o) := ⟨a.t.put np ns, fun b u hb n => by rw [upd_ne (ne_of_none hb h)]; exact a.o b u hb n⟩
def spBent (C : Addr) : Sp := fun vs H Q _ => ∃ p s l xs ds n, vs = [.ref p, .ref l] ∧ Tape H p s ∧ l ≠ p ∧ H l = some (.lst xs) ∧ IsA C (nx [p] H) xs ds ∧ 0 < ds.length ∧ ds.length ≤ 100 ∧ n ≤ 100 ∧ 3 ≤ n ∧ (∀ d ∈ ds, RowW n d) ∧
  ∀ H' l' xs' ds', Tape H' p s → Off p H H' → l' ≠ p → H' l' = some (.lst xs') → IsA C (nx [p] H') xs' ds' → (∀ d ∈ ds', RowW (n + 1) d) → ds'.length ≤ ds.length + 1 → Q (.ref l') H'
section
variable {P : Program} {w : World} {K : PySem.W.Frag} {mg : Str → Option Value} {base : Heap} {f : Addr} {fd : FuncData} {C : Addr}
abbrev s__law_bent : Stmt := top 44
theorem sc__law_bent : FnScope ["tape", "rows", "place", "row", "odd", "way"] ["tape", "rows"] (C8.fnScope s__law_bent) := C8.fnScope_by (by decide +kernel)
theorem ok__law_bent (F : C8.Def K mg "_law_bent" s__law_bent f fd) (b : Binds K fd ["tape", "rows"] []) (T : Txt K mg w C) (c__law_next : C8.Cal P w K mg base 1 "_law_next" spNext []) : C8.Cal P w K mg base 2 "_law_bent" (spBent C) [] := by
  refine C8.cal0 F b .nil sc__law_bent (fun vs H Q E h => ?_) (fun cdv A outer s H vs Q E hr h => ?_)
  · obtain ⟨p, s, l, xs, ds, n, rfl, _⟩ := h; rfl
  obtain ⟨p, s0, l, xs, ds, n, rfl, t, nlp, hl, ix, h0, h100, hn, hn3, hrow, q⟩ := h
  have hxl := ix.len
  refine ⟨_, (pss_cons (ps_set (i := 2) sc__law_bent.nd rfl (Or.inl rfl) (C8.pe_c c__law_next hr (by first | decide | omega) rfl (pa_cons (pv 0) (pa_cons (pe_callB call_lenS rfl T.z_len bt_len (pa_cons (pv 1) pa_nil)) pa_nil))))
      (pss_cons (ps_set (i := 3) sc__law_bent.nd rfl (Or.inl rfl) (pe_callTy call_list_of rfl T.z_list bt_list (pa_cons (pe_ix ix_list (pv 1) (pv 2) (fun _ _ => rfl)) pa_nil)))
      (pss_cons (ps_set (i := 4) sc__law_bent.nd rfl (Or.inl rfl) (pe_ix ix_tup (pe_tup (pa_cons (pe_un un_neg pe_int) (pa_cons pe_int (pa_cons pe_int (pa_cons (pe_op op_pow pe_int pe_int) (pa_cons (pe_op op_sub (pe_un un_neg (pe_op op_pow pe_int pe_int)) pe_int) (pa_cons pe_bl (pa_cons pe_non (pa_cons pe_str (pa_cons (pe_tup (pa_cons pe_int pa_nil)) pa_nil)))))))))) (C8.pe_c c__law_next hr (by first | decide | omega) rfl (pa_cons (pv 0) (pa_cons pe_int pa_nil))) (fun _ _ => rfl)))
      (pss_cons (ps_set (i := 5) sc__law_bent.nd rfl (Or.inl rfl) (C8.pe_c c__law_next hr (by first | decide | omega) rfl (pa_cons (pv 0) (pa_cons pe_int pa_nil))))
      (C8.pss_cut (ps_if (PW.pt (pw_and (pt_cmpR op_eq (pv 5) pe_int (nomark _)) (pw_and1 (pt_cmpR (op_neD (room64 hr)) (pv 3) (pe_lst pa_nil) (nomark _))))) (pss_one (ps_asg (pv 4) (pg_sub (pv 3) (C8.pe_c c__law_next hr (by first | decide | omega) rfl (pa_cons (pv 0) (pa_cons (pe_callB call_lenS rfl T.z_len bt_len (pa_cons (pv 3) pa_nil)) pa_nil))) set_list))) (pss_one (ps_if (pt_cmpR op_eq (pv 5) pe_int (nomark _)) (pss_one (ps_expr (pe_bm PySem.F.plainAttrs_list PySem.F.slot_list_append PySem.F.type_list_append mt_append (pv 3) (pa_cons (pv 4) pa_nil)))) (pss_one (ps_if (pt_cmpR op_eq (pv 5) pe_int (nomark _)) (pss_one (ps_set (i := 3) sc__law_bent.nd rfl (Or.inl rfl) (pe_slice sl_list (pv 3) po_none (po_some (pe_un un_neg pe_int))))) (pss_one (ps_if (pt_cmpR op_eq (pv 5) pe_int (nomark _)) (pss_one (ps_ret (pe_op op_cat (pv 1) (pe_lst (pa_cons (pe_tup (pa_cons pe_str (pa_cons pe_int (pa_cons pe_int pa_nil)))) pa_nil))))) (pss_one (ps_if (pt_cmpR op_eq (pv 5) pe_int (nomark _)) (pss_one (ps_ret (pe_op op_cat (pe_slice sl_list (pv 1) po_none (po_some (pv 2))) (pe_slice sl_list (pv 1) (po_some (pe_op op_add (pv 2) pe_int)) po_none)))) (pss_one (ps_ret (pe_op op_cat (pe_op op_cat (pe_slice sl_list (pv 1) po_none (po_some (pv 2))) (pe_lst (pa_cons (pv 3) pa_nil))) (pe_slice sl_list (pv 1) (po_some (pe_op op_add (pv 2) pe_int)) po_none)))))))))))))
      (pss_one (ps_ret (pe_op op_cat (pe_op op_cat (pe_slice sl_list (pv 1) po_none (po_some (pv 2))) (pe_lst (pa_cons (pe_callTy call_tuple_of rfl T.z_tuple bt_tuple (pa_cons (pv 3) pa_nil)) pa_nil))) (pe_slice sl_list (pv 1) (po_some (pe_op op_add (pv 2) pe_int)) po_none))))))))), ?_⟩
  -- place
  refine ⟨_, rfl, _, rfl, l, xs, rfl, .inl (SqL.of hl), p, s0, _, rfl, t, by omega, by omega, fun H1 pl t1 o1 g0 g1 => ?_⟩
  obtain ⟨pl, rfl⟩ : ∃ j : Nat, pl = (j : Int) := ⟨pl.toNat, by omega⟩
  have on1 : On p s0 H H1 := ⟨t1, o1⟩
  have hl1 := o1 _ _ hl nlp
  have ix1 := ix.same (nx_tp o1)
  obtain ⟨x, hx⟩ : ∃ x, xs[pl]? = some x := ⟨xs[pl]'(by omega), List.getElem?_eq_getElem _⟩
  obtain ⟨d, hd, ixd⟩ := ix1.at hx
  obtain ⟨es, hes, hesl, hesi⟩ := hrow d (List.mem_of_getElem? hd)
  obtain ⟨plE, flE, dpE⟩ := itmL_pln hesi
  -- row = list(rows[place])
  obtain ⟨a, ys, rfl, hsq, iy⟩ : ∃ a ys, x = .ref a ∧ (SqL K H1 a ys ∨ SqT K H1 a ys) ∧ IsA C H1 ys es := by
    rcases hes with rfl | rfl
    · cases ixd with
      | tup e i => exact ⟨_, _, rfl, .inr (SqT.of (nx_le _ _ e)), i.same nx_le⟩
    · cases ixd with
      | lst e i => exact ⟨_, _, rfl, .inl (SqL.of (nx_le _ _ e)), i.same nx_le⟩
  refine ⟨_, rfl, _, rfl, l, xs, _, _, rfl, rfl, SqL.of hl1, atI_nat hx, a, ys, rfl, hsq, fun r hr0 => ?_⟩
  have sr := same_new (o := .lst ys) hr0
  have er : upd H1 r (.lst ys) r = some (.lst ys) := upd_same
  have iy2 := iy.same sr
  have on2 := on1.same sr
  have nrp := t1.ne hr0
  have nrs : r ≠ s0 := fun z => by
    obtain ⟨ns, h⟩ := t1.s
    rw [z, h] at hr0; cases hr0
  have hrH : H r = none := by
    cases e : H r with
    | none => rfl
    | some o => rw [o1 _ _ e nrp] at hr0; cases hr0
  have nrl : l ≠ r := ne_of_none hl1 hr0
  generalize upd H1 r (.lst ys) = H2 at *
  -- odd
  refine ⟨1, rfl, 2, 31, rfl, rfl, by unfold CPow; decide, 2, 31, rfl, rfl, by unfold CPow; decide, _, rfl, _, _, rfl, rfl, (by show 1 ≤ sizeLine; decide), fun w hw => ?_⟩
  have sw := same_new (o := .tup [.int 1]) hw
  have ew : upd H2 w (.tup [.int 1]) w = some (.tup [.int 1]) := upd_same
  have on3 := on2.same sw
  have npw := on2.t.ne hw
  have er := sw _ _ er
  have iy3 := iy2.same sw
  generalize upd H2 w (.tup [.int 1]) = H3 at *
  refine ⟨(by show 9 ≤ sizeLine; decide), fun v hv => ?_⟩
  have sv := same_new (o := .tup [.int (-1), .int 4, .int 24, .int (2 ^ (31 : Int).toNat), .int (-(2 ^ (31 : Int).toNat) - 1), .bl true, .non, .str "r", .ref w]) hv
  have ev : upd H3 v (.tup [.int (-1), .int 4, .int 24, .int (2 ^ (31 : Int).toNat), .int (-(2 ^ (31 : Int).toNat) - 1), .bl true, .non, .str "r", .ref w]) v = some (.tup [.int (-1), .int 4, .int 24, .int (2 ^ (31 : Int).toNat), .int (-(2 ^ (31 : Int).toNat) - 1), .bl true, .non, .str "r", .ref w]) := upd_same
  have on4 := on3.same sv
  have npv := on3.t.ne hv
  have er := sv _ _ er
  have ew4 := sv _ _ ew
  have iy4 := iy3.same sv
  generalize upd H3 v (.tup [.int (-1), .int 4, .int 24, .int (2 ^ (31 : Int).toNat), .int (-(2 ^ (31 : Int).toNat) - 1), .bl true, .non, .str "r", .ref w]) = H4 at *
  refine ⟨_, rfl, p, s0, 9, rfl, on4.t, by decide, by decide, fun H5 k5 t5 o5 a0 a1 => ?_⟩
  have on5 := on4.go t5 o5
  have er := o5 _ _ er nrp
  have ew5 := o5 _ _ ew4 npw
  have ev5 := o5 _ _ ev npv
  have iy5 := isA_tups (on4.t.tups o5) flE iy4
  have ew6 := ew5
  obtain ⟨od, odD, hod, iod, mod⟩ : ∃ od odD, atI [.int (-1), .int 4, .int 24, .int (2 ^ (31 : Int).toNat), .int (-(2 ^ (31 : Int).toNat) - 1), .bl true, .non, .str "r", .ref w] k5 = some od ∧ Is C H5 od odD ∧ itm odD := by
    have : k5 = 0 ∨ k5 = 1 ∨ k5 = 2 ∨ k5 = 3 ∨ k5 = 4 ∨ k5 = 5 ∨ k5 = 6 ∨ k5 = 7 ∨ k5 = 8 := by omega
    rcases this with rfl | rfl | rfl | rfl | rfl | rfl | rfl | rfl | rfl
    · exact ⟨_, .int (-1), atI_nat (j := 0) rfl, .int _, .inr (.inl ⟨_, rfl⟩)⟩
    · exact ⟨_, .int 4, atI_nat (j := 1) rfl, .int _, .inr (.inl ⟨_, rfl⟩)⟩
    · exact ⟨_, .int 24, atI_nat (j := 2) rfl, .int _, .inr (.inl ⟨_, rfl⟩)⟩
    · exact ⟨_, .int (2 ^ (31 : Int).toNat), atI_nat (j := 3) rfl, .int _, .inr (.inl ⟨_, rfl⟩)⟩
    · exact ⟨_, .int (-(2 ^ (31 : Int).toNat) - 1), atI_nat (j := 4) rfl, .int _, .inr (.inl ⟨_, rfl⟩)⟩
    · exact ⟨_, .bl true, atI_nat (j := 5) rfl, .bl _, .inr (.inr (.inl ⟨_, rfl⟩))⟩
    · exact ⟨_, .non, atI_nat (j := 6) rfl, .non, .inl rfl⟩
    · exact ⟨_, .str "r", atI_nat (j := 7) rfl, .str _, .inr (.inr (.inr (.inl ⟨_, rfl, .inr rfl⟩)))⟩
    · exact ⟨_, .tup [.int 1], atI_nat (j := 8) rfl, .tup ew6 (.cons (.int 1) .nil), .inr (.inr (.inr (.inr rfl)))⟩
  obtain ⟨_, flO, _⟩ := itm_pln mod
  refine ⟨v, _, _, od, rfl, rfl, SqT.of ev5, hod, ?_⟩
  -- way
  refine ⟨_, rfl, p, s0, 6, rfl, t5, by decide, by decide, fun H6 way t6 o6 b0 b1 => ?_⟩
  have on6 := on5.go t6 o6
  have er6 := o6 _ _ er nrp
  have iy6 := isA_tups (t5.tups o6) flE iy5
  have iod6 := is_tups (t5.tups o6) flO iod
  -- what all ways end with
  have slice : ∀ (H' : Hp), On p s0 H H' → IsA C (nx [p] H') (xs.take pl) (ds.take pl) ∧ IsA C (nx [p] H') (xs.drop (pl + 1)) (ds.drop (pl + 1)) ∧ H' l = some (.lst xs) := fun H' on => by
    have i' := ix.same (nx_tp on.o)
    exact ⟨isA_take pl i', isA_drop (pl + 1) i', on.o _ _ hl nlp⟩
  have rw1 : ∀ d ∈ ds.take pl, RowW (n + 1) d := fun d hd => (hrow d (List.mem_of_mem_take hd)).up (by omega)
  have rw2 : ∀ d ∈ ds.drop (pl + 1), RowW (n + 1) d := fun d hd => (hrow d (List.mem_of_mem_drop hd)).up (by omega)
  have hplt : pl < ds.length := by omega
  have lt1 : (xs.take pl).length = pl := by rw [List.length_take]; omega
  have ld1 : (xs.drop (pl + 1)).length = ds.length - (pl + 1) := by rw [List.length_drop]; omega
  refine ⟨fun σ' H' => ∃ r' ys' es', σ' = [some (.ref p), some (.ref l), some (.int (pl : Nat)), some (.ref r'), some od, some (.int way)] ∧ On p s0 H H' ∧ H' r' = some (.lst ys') ∧ r' ≠ p ∧ IsA C H' ys' es' ∧ es'.length ≤ n + 1 ∧ ∀ e ∈ es', itm e, ?_, ?_⟩
  · refine ⟨_, rfl, rfl, _, rfl, ?_⟩
    by_cases w0 : way = 0
    · refine ifT (by rw [w0]) ⟨_, rfl, (by show 0 ≤ sizeLine; decide), fun q0 hq0 => ?_⟩
      have sq := same_new (o := .lst []) hq0
      have eq0 : upd H6 q0 (.lst []) q0 = some (.lst []) := upd_same
      have onq := on6.same sq
      have erq := sq _ _ er6
      have iyq := iy6.same sq
      have iodq := iod6.same sq
      generalize upd H6 q0 (.lst []) = Hq at *
      have shp : SeqAt.shaped (.list (pydL es)) = true := pyd_shaped (d := .lst es) (by simp only [pln]; exact plE) (by simp only [dpt]; omega)
      refine ⟨.list (pydL es), .list [], .lst (SqL.of erq) (isA_dp plE iyq), .lst (SqL.of eq0) .nil, shp, rfl, _, rfl, ?_⟩
      rw [eqv_nil]
      cases hem : es.isEmpty with
      | false =>
        refine bT rfl ?_
        have hpos : 0 < es.length := by cases es <;> simp at hem ⊢
        have hyl := iyq.len
        refine ⟨_, rfl, _, rfl, _, rfl, _, rfl, r, ys, rfl, .inl (SqL.of erq), p, s0, _, rfl, onq.t, by omega, by omega, fun H7 j t7 o7 c0 c1 => ?_⟩
        obtain ⟨j, rfl⟩ : ∃ k : Nat, j = (k : Int) := ⟨j.toNat, by omega⟩
        have er7 := o7 _ _ erq nrp
        have iy7 := isA_tups (onq.t.tups o7) flE iyq
        have iod7 := is_tups (onq.t.tups o7) flO iodq
        have on7 := onq.go t7 o7
        refine ⟨r, ys, _, j, rfl, rfl, er7, (by unfold ixN; rw [if_pos (by omega), if_pos (by omega)]; simp), r, ys.set j od, es.set j odD, rfl, on7.put (xs := ys) hrH nrp nrs, upd_same, nrp, ?_, by rw [List.length_set]; omega, fun e he => ?_⟩
        · have := isA_set iod7 j iy7
          have fl2 : flatTL (es.set j odD) = true := (itmL_pln fun e he => by
            rcases List.mem_or_eq_of_mem_set he with h | h
            · exact hesi e h
            · rw [h]; exact mod).2.1
          exact isA_tups (Tups.put er7) fl2 this
        · rcases List.mem_or_eq_of_mem_set he with h | h
          · exact hesi e h
          · rw [h]; exact mod
      | true =>
        refine bF rfl ?_
        refine ⟨_, rfl, rfl, _, rfl, ifF (by rw [w0]; decide) ?_⟩
        refine ⟨_, rfl, rfl, _, rfl, ifF (by rw [w0]; decide) ?_⟩
        refine ⟨_, rfl, rfl, _, rfl, ifF (by rw [w0]; decide) ?_⟩
        refine ⟨_, rfl, rfl, _, rfl, ifF (by rw [w0]; decide) ?_⟩
        obtain ⟨iA, iB, hl7'⟩ := slice Hq onq
        have iR := (.lst (nx_at erq nrp) (isA_nx onq.t.nt flE iyq) : Is C (nx [p] Hq) (.ref r) (.lst es))
        refine ⟨_, rfl, _, rfl, (pl : Int), rfl, l, xs, rfl, SqL.of hl7', fun q1 hq1 => ?_⟩
        rw [cut_to]
        have s1 := same_new (o := .lst (xs.take pl)) hq1
        have e1 : upd Hq q1 (.lst (xs.take pl)) q1 = some (.lst (xs.take pl)) := upd_same
        have on8 := onq.same s1
        have iA := iA.same (nx_same s1)
        have iB := iB.same (nx_same s1)
        have iR := iR.same (nx_same s1)
        have hl8 := s1 _ _ hl7'
        generalize upd Hq q1 (.lst (xs.take pl)) = H8 at *
        refine ⟨_, rfl, (by show 1 ≤ sizeLine; decide), fun q3 hq3 => ?_⟩
        have s3 := same_new (o := .lst [.ref r]) hq3
        have e3 : upd H8 q3 (.lst [.ref r]) q3 = some (.lst [.ref r]) := upd_same
        have ona := on8.same s3
        have e1 := s3 _ _ e1
        have iA := iA.same (nx_same s3)
        have iB := iB.same (nx_same s3)
        have iR := iR.same (nx_same s3)
        have hla := s3 _ _ hl8
        generalize upd H8 q3 (.lst [.ref r]) = Ha at *
        refine ⟨q1, q3, _, _, rfl, rfl, e1, e3, Nat.le_of_lt (small1000 (by simp only [List.length_singleton]; omega)), fun q4 hq4 => ?_⟩
        have s4 := same_new (o := .lst (xs.take pl ++ [.ref r])) hq4
        have e4 : upd Ha q4 (.lst (xs.take pl ++ [.ref r])) q4 = some (.lst (xs.take pl ++ [.ref r])) := upd_same
        have onb := ona.same s4
        have iA := iA.same (nx_same s4)
        have iB := iB.same (nx_same s4)
        have iR := iR.same (nx_same s4)
        have hlb := s4 _ _ hla
        generalize upd Ha q4 (.lst (xs.take pl ++ [.ref r])) = Hb at *
        refine ⟨_, rfl, _, rfl, _, _, rfl, rfl, _, rfl, l, xs, rfl, SqL.of hlb, fun q5 hq5 => ?_⟩
        rw [show ((pl : Nat) : Int) + 1 = ((pl + 1 : Nat) : Int) by omega, cut_from]
        have s5 := same_new (o := .lst (xs.drop (pl + 1))) hq5
        have e5 : upd Hb q5 (.lst (xs.drop (pl + 1))) q5 = some (.lst (xs.drop (pl + 1))) := upd_same
        have onc := onb.same s5
        have iA := iA.same (nx_same s5)
        have iB := iB.same (nx_same s5)
        have iR := iR.same (nx_same s5)
        have e4 := s5 _ _ e4
        generalize upd Hb q5 (.lst (xs.drop (pl + 1))) = Hc' at *
        refine ⟨q4, q5, _, _, rfl, rfl, e4, e5, Nat.le_of_lt (small1000 (by simp only [List.length_append, List.length_singleton]; omega)), fun q6 hq6 => ?_⟩
        have s6 := same_new (o := .lst (xs.take pl ++ [.ref r] ++ xs.drop (pl + 1))) hq6
        have ond := onc.same s6
        refine q _ q6 _ (ds.take pl ++ [.lst es] ++ ds.drop (pl + 1)) ond.t ond.o (onc.t.ne hq6) upd_same ?_ (fun d hd => ?_) ?_
        · exact ((iA.same (nx_same s6)).app (.cons (iR.same (nx_same s6)) .nil)).app (iB.same (nx_same s6))
        · rcases List.mem_append.mp hd with hd | hd
          · rcases List.mem_append.mp hd with hd | hd
            · exact rw1 d hd
            · rw [List.mem_singleton.mp hd]; exact ⟨es, .inr rfl, by omega, hesi⟩
          · exact rw2 d hd
        · simp only [List.length_append, List.length_take, List.length_drop, List.length_singleton]; omega
    refine ifF (fun z => w0 (V.int.inj z)) (iteF ⟨_, rfl, rfl, _, rfl, ?_⟩)
    by_cases w1 : way = 1
    · refine ifT (by rw [w1]) ?_
      have hyl := iy6.len
      refine ⟨_, rfl, .inl ⟨rfl, _, SqL.of er6⟩, _, rfl, r, ys, od, rfl, rfl, er6, small1000 (by omega), r, ys ++ [od], es ++ [odD], rfl, on6.put (xs := ys) hrH nrp nrs, upd_same, nrp, ?_, by simp; omega, fun e he => ?_⟩
      · have fl2 : flatTL (es ++ [odD]) = true := (itmL_pln fun e he => by
          rcases List.mem_append.mp he with h | h
          · exact hesi e h
          · rw [List.mem_singleton.mp h]; exact mod).2.1
        exact isA_tups (Tups.put er6) fl2 (iy6.app (.cons iod6 .nil))
      · rcases List.mem_append.mp he with h | h
        · exact hesi e h
        · rw [List.mem_singleton.mp h]; exact mod
    refine ifF (fun z => w1 (V.int.inj z)) ⟨_, rfl, rfl, _, rfl, ?_⟩
    by_cases w2 : way = 2
    · refine ifT (by rw [w2]) ⟨_, rfl, 1, rfl, -1, rfl, r, ys, rfl, SqL.of er6, fun q1 hq1 => ?_⟩
      rw [cut_neg]
      have hyl := iy6.len
      refine ⟨q1, ys.take (ys.length - 1), es.take (ys.length - 1), rfl, on6.same (same_new hq1), upd_same, on6.t.ne hq1, (isA_take _ iy6).same (same_new hq1), by rw [List.length_take]; omega, fun e he => hesi e (List.mem_of_mem_take he)⟩
    refine ifF (fun z => w2 (V.int.inj z)) ⟨_, rfl, rfl, _, rfl, ?_⟩
    obtain ⟨iA, iB, hl7⟩ := slice H6 on6
    by_cases w3 : way = 3
    · refine ifT (by rw [w3]) ⟨_, rfl, (by show 3 ≤ sizeLine; decide), fun q1 hq1 => ⟨(by show 1 ≤ sizeLine; decide), fun q2 hq2 => ?_⟩⟩
      have s1 := same_new (o := .tup [.str "set", .int 0, .int 1]) hq1
      have e1 : upd H6 q1 (.tup [.str "set", .int 0, .int 1]) q1 = some (.tup [.str "set", .int 0, .int 1]) := upd_same
      have on7 := on6.same s1
      have np1 := on6.t.ne hq1
      have hl8 := s1 _ _ hl7
      generalize upd H6 q1 (.tup [.str "set", .int 0, .int 1]) = H7 at *
      have s2 := same_new (o := .lst [.ref q1]) hq2
      have e2 : upd H7 q2 (.lst [.ref q1]) q2 = some (.lst [.ref q1]) := upd_same
      have on8 := on7.same s2
      have e1 := s2 _ _ e1
      have hl9 := s2 _ _ hl8
      generalize upd H7 q2 (.lst [.ref q1]) = H8 at *
      refine ⟨l, q2, _, _, rfl, rfl, hl9, e2, Nat.le_of_lt (small1000 (by simp only [List.length_singleton]; omega)), fun q3 hq3 => ?_⟩
      have s3 := same_new (o := .lst (xs ++ [.ref q1])) hq3
      have on9 := on8.same s3
      refine q _ q3 _ (ds ++ [.tup [.str "set", .int 0, .int 1]]) on9.t on9.o (on8.t.ne hq3) upd_same ?_ (fun d hd => ?_) (by simp)
      · have i9 := ix.same (nx_tp on9.o)
        exact i9.app (.cons (.tup (nx_at (s3 _ _ e1) np1) (.cons (.str _) (.cons (.int _) (.cons (.int _) .nil)))) .nil)
      · rcases List.mem_append.mp hd with h | h
        · exact (hrow d h).up (by omega)
        · rw [List.mem_singleton.mp h]
          refine ⟨_, .inl rfl, by show 3 ≤ n + 1; omega, fun e he => ?_⟩
          simp only [List.mem_cons, List.not_mem_nil, or_false] at he
          rcases he with rfl | rfl | rfl
          · exact .inr (.inr (.inr (.inl ⟨_, rfl, .inl ⟨("set", ["register", "number"]), by simp [progF], rfl⟩⟩)))
          · exact .inr (.inl ⟨_, rfl⟩)
          · exact .inr (.inl ⟨_, rfl⟩)
    refine ifF (fun z => w3 (V.int.inj z)) ⟨_, rfl, rfl, _, rfl, ?_⟩
    by_cases w4 : way = 4
    · refine ifT (by rw [w4]) ⟨_, rfl, _, rfl, (pl : Int), rfl, l, xs, rfl, SqL.of hl7, fun q1 hq1 => ?_⟩
      rw [cut_to]
      have s1 := same_new (o := .lst (xs.take pl)) hq1
      have e1 : upd H6 q1 (.lst (xs.take pl)) q1 = some (.lst (xs.take pl)) := upd_same
      have on8 := on6.same s1
      have iA := iA.same (nx_same s1)
      have iB := iB.same (nx_same s1)
      have hl8 := s1 _ _ hl7
      generalize upd H6 q1 (.lst (xs.take pl)) = H8 at *
      refine ⟨_, rfl, _, rfl, _, _, rfl, rfl, _, rfl, l, xs, rfl, SqL.of hl8, fun q5 hq5 => ?_⟩
      rw [show ((pl : Nat) : Int) + 1 = ((pl + 1 : Nat) : Int) by omega, cut_from]
      have s5 := same_new (o := .lst (xs.drop (pl + 1))) hq5
      have e5 : upd H8 q5 (.lst (xs.drop (pl + 1))) q5 = some (.lst (xs.drop (pl + 1))) := upd_same
      have onc := on8.same s5
      have iA := iA.same (nx_same s5)
      have iB := iB.same (nx_same s5)
      have e1 := s5 _ _ e1
      generalize upd H8 q5 (.lst (xs.drop (pl + 1))) = Hc' at *
      refine ⟨q1, q5, _, _, rfl, rfl, e1, e5, Nat.le_of_lt (small1000 (by omega)), fun q6 hq6 => ?_⟩
      have s6 := same_new (o := .lst (xs.take pl ++ xs.drop (pl + 1))) hq6
      have ond := onc.same s6
      refine q _ q6 _ (ds.take pl ++ ds.drop (pl + 1)) ond.t ond.o (onc.t.ne hq6) upd_same ?_ (fun d hd => ?_) ?_
      · exact (iA.same (nx_same s6)).app (iB.same (nx_same s6))
      · rcases List.mem_append.mp hd with hd | hd
        · exact rw1 d hd
        · exact rw2 d hd
      · simp only [List.length_append, List.length_take, List.length_drop]; omega
    refine ifF (fun z => w4 (V.int.inj z)) ?_
    obtain ⟨iA, iB, hl7'⟩ := slice H6 on6
    have iR := (.lst (nx_at er6 nrp) (isA_nx on6.t.nt flE iy6) : Is C (nx [p] H6) (.ref r) (.lst es))
    refine ⟨_, rfl, _, rfl, (pl : Int), rfl, l, xs, rfl, SqL.of hl7', fun q1 hq1 => ?_⟩
    rw [cut_to]
    have s1 := same_new (o := .lst (xs.take pl)) hq1
    have e1 : upd H6 q1 (.lst (xs.take pl)) q1 = some (.lst (xs.take pl)) := upd_same
    have on8 := on6.same s1
    have iA := iA.same (nx_same s1)
    have iB := iB.same (nx_same s1)
    have iR := iR.same (nx_same s1)
    have hl8 := s1 _ _ hl7'
    generalize upd H6 q1 (.lst (xs.take pl)) = H8 at *
    refine ⟨_, rfl, (by show 1 ≤ sizeLine; decide), fun q3 hq3 => ?_⟩
    have s3 := same_new (o := .lst [.ref r]) hq3
    have e3 : upd H8 q3 (.lst [.ref r]) q3 = some (.lst [.ref r]) := upd_same
    have ona := on8.same s3
    have e1 := s3 _ _ e1
    have iA := iA.same (nx_same s3)
    have iB := iB.same (nx_same s3)
    have iR := iR.same (nx_same s3)
    have hla := s3 _ _ hl8
    generalize upd H8 q3 (.lst [.ref r]) = Ha at *
    refine ⟨q1, q3, _, _, rfl, rfl, e1, e3, Nat.le_of_lt (small1000 (by simp only [List.length_singleton]; omega)), fun q4 hq4 => ?_⟩
    have s4 := same_new (o := .lst (xs.take pl ++ [.ref r])) hq4
    have e4 : upd Ha q4 (.lst (xs.take pl ++ [.ref r])) q4 = some (.lst (xs.take pl ++ [.ref r])) := upd_same
    have onb := ona.same s4
    have iA := iA.same (nx_same s4)
    have iB := iB.same (nx_same s4)
    have iR := iR.same (nx_same s4)
    have hlb := s4 _ _ hla
    generalize upd Ha q4 (.lst (xs.take pl ++ [.ref r])) = Hb at *
    refine ⟨_, rfl, _, rfl, _, _, rfl, rfl, _, rfl, l, xs, rfl, SqL.of hlb, fun q5 hq5 => ?_⟩
    rw [show ((pl : Nat) : Int) + 1 = ((pl + 1 : Nat) : Int) by omega, cut_from]
    have s5 := same_new (o := .lst (xs.drop (pl + 1))) hq5
    have e5 : upd Hb q5 (.lst (xs.drop (pl + 1))) q5 = some (.lst (xs.drop (pl + 1))) := upd_same
    have onc := onb.same s5
    have iA := iA.same (nx_same s5)
    have iB := iB.same (nx_same s5)
    have iR := iR.same (nx_same s5)
    have e4 := s5 _ _ e4
    generalize upd Hb q5 (.lst (xs.drop (pl + 1))) = Hc' at *
    refine ⟨q4, q5, _, _, rfl, rfl, e4, e5, Nat.le_of_lt (small1000 (by simp only [List.length_append, List.length_singleton]; omega)), fun q6 hq6 => ?_⟩
    have s6 := same_new (o := .lst (xs.take pl ++ [.ref r] ++ xs.drop (pl + 1))) hq6
    have ond := onc.same s6
    refine q _ q6 _ (ds.take pl ++ [.lst es] ++ ds.drop (pl + 1)) ond.t ond.o (onc.t.ne hq6) upd_same ?_ (fun d hd => ?_) ?_
    · exact ((iA.same (nx_same s6)).app (.cons (iR.same (nx_same s6)) .nil)).app (iB.same (nx_same s6))
    · rcases List.mem_append.mp hd with hd | hd
      · rcases List.mem_append.mp hd with hd | hd
        · exact rw1 d hd
        · rw [List.mem_singleton.mp hd]; exact ⟨es, .inr rfl, by omega, hesi⟩
      · exact rw2 d hd
    · simp only [List.length_append, List.length_take, List.length_drop, List.length_singleton]; omega
  rintro σ' H7 ⟨r', ys', es', rfl, on7, er7, nrp', iy7, hl7, hi7⟩
  obtain ⟨_, fl7, _⟩ := itmL_pln hi7
  obtain ⟨iA, iB, hl7'⟩ := slice H7 on7
  refine ⟨_, rfl, _, rfl, (pl : Int), rfl, l, xs, rfl, SqL.of hl7', fun q1 hq1 => ?_⟩
  rw [cut_to]
  have s1 := same_new (o := .lst (xs.take pl)) hq1
  have e1 : upd H7 q1 (.lst (xs.take pl)) q1 = some (.lst (xs.take pl)) := upd_same
  have on8 := on7.same s1
  have iA := iA.same (nx_same s1)
  have iB := iB.same (nx_same s1)
  have hl8 := s1 _ _ hl7'
  have er8 := s1 _ _ er7
  have iy8 := iy7.same s1
  generalize upd H7 q1 (.lst (xs.take pl)) = H8 at *
  refine ⟨_, rfl, r', ys', rfl, .inl ⟨SqL.of er8, fun q2 hq2 => ⟨(by show 1 ≤ sizeLine; decide), fun q3 hq3 => ?_⟩⟩⟩
  have s2 := same_new (o := .tup ys') hq2
  have e2 : upd H8 q2 (.tup ys') q2 = some (.tup ys') := upd_same
  have on9 := on8.same s2
  have iy9 := iy8.same s2
  have e1 := s2 _ _ e1
  have iA := iA.same (nx_same s2)
  have iB := iB.same (nx_same s2)
  have hl9 := s2 _ _ hl8
  have iq2 : Is C (nx [p] (upd H8 q2 (.tup ys'))) (.ref q2) (.tup es') := .tup (nx_at e2 (on8.t.ne hq2)) (isA_nx on9.t.nt fl7 iy9)
  generalize upd H8 q2 (.tup ys') = H9 at *
  have s3 := same_new (o := .lst [.ref q2]) hq3
  have e3 : upd H9 q3 (.lst [.ref q2]) q3 = some (.lst [.ref q2]) := upd_same
  have ona := on9.same s3
  have e1 := s3 _ _ e1
  have iA := iA.same (nx_same s3)
  have iB := iB.same (nx_same s3)
  have iq2 := iq2.same (nx_same s3)
  have hla := s3 _ _ hl9
  generalize upd H9 q3 (.lst [.ref q2]) = Ha at *
  refine ⟨q1, q3, _, _, rfl, rfl, e1, e3, Nat.le_of_lt (small1000 (by simp only [List.length_singleton]; omega)), fun q4 hq4 => ?_⟩
  have s4 := same_new (o := .lst (xs.take pl ++ [.ref q2])) hq4
  have e4 : upd Ha q4 (.lst (xs.take pl ++ [.ref q2])) q4 = some (.lst (xs.take pl ++ [.ref q2])) := upd_same
  have onb := ona.same s4
  have iA := iA.same (nx_same s4)
  have iB := iB.same (nx_same s4)
  have iq2 := iq2.same (nx_same s4)
  have hlb := s4 _ _ hla
  generalize upd Ha q4 (.lst (xs.take pl ++ [.ref q2])) = Hb at *
  refine ⟨_, rfl, _, rfl, _, _, rfl, rfl, _, rfl, l, xs, rfl, SqL.of hlb, fun q5 hq5 => ?_⟩
  rw [show ((pl : Nat) : Int) + 1 = ((pl + 1 : Nat) : Int) by omega, cut_from]
  have s5 := same_new (o := .lst (xs.drop (pl + 1))) hq5
  have e5 : upd Hb q5 (.lst (xs.drop (pl + 1))) q5 = some (.lst (xs.drop (pl + 1))) := upd_same
  have onc := onb.same s5
  have iA := iA.same (nx_same s5)
  have iB := iB.same (nx_same s5)
  have iq2 := iq2.same (nx_same s5)
  have e4 := s5 _ _ e4
  generalize upd Hb q5 (.lst (xs.drop (pl + 1))) = Hc' at *
  refine ⟨q4, q5, _, _, rfl, rfl, e4, e5, Nat.le_of_lt (small1000 (by simp only [List.length_append, List.length_singleton]; omega)), fun q6 hq6 => ?_⟩
  have s6 := same_new (o := .lst (xs.take pl ++ [.ref q2] ++ xs.drop (pl + 1))) hq6
  have ond := onc.same s6
  refine q _ q6 _ (ds.take pl ++ [.tup es'] ++ ds.drop (pl + 1)) ond.t ond.o (onc.t.ne hq6) upd_same ?_ (fun d hd => ?_) ?_
  · exact ((iA.same (nx_same s6)).app (.cons (iq2.same (nx_same s6)) .nil)).app (iB.same (nx_same s6))
  · rcases List.mem_append.mp hd with hd | hd
    · rcases List.mem_append.mp hd with hd | hd
      · exact rw1 d hd
      · rw [List.mem_singleton.mp hd]; exact ⟨es', .inl rfl, hl7, hi7⟩
    · exact rw2 d hd
  · simp only [List.length_append, List.length_take, List.length_drop, List.length_singleton]; omega
end
end Hc

set_option maxHeartbeats 8000000
namespace Hc
open PySem PySem.Spec PyProof.Rows L2 Hr
def isBl : D → Bool | .bl _ => true | _ => false
def isIn : D → Bool | .int _ => true | .bl _ => true | _ => false
def isSt : D → Bool | .str _ => true | _ => false
def isTu : D → Bool | .tup _ => true | _ => false
def spNum (C : Addr) : Sp := fun vs H Q _ => ∃ x d lo hi, vs = [x, .int lo, .int hi] ∧ Is C H x d ∧ Q (.bl (numD d lo hi)) H
def spFits (C : Addr) : Sp := fun vs H Q _ => ∃ x d z m, vs = [x, .str z, .int m] ∧ Is C H x d ∧ m ≤ 1000 ∧ Q (.bl (formD d (srt z) m)) H
theorem numD_num {d : D} {m : Int} (h : m ≤ 1000) : numD d 0 m = (isNum d && numD d 0 m) := by
  cases d <;> simp only [numD, isNum, numOk] <;> try rfl
  rename_i i
  by_cases h1 : (0 : Int) ≤ i <;> by_cases h2 : i < m <;> simp [h1, h2] <;> omega
theorem numD_all (d : D) : numD d (-(2 ^ (31 : Int).toNat)) (2 ^ (31 : Int).toNat) = isNum d := by
  cases d <;> simp only [numD, isNum, numOk] <;> try rfl
  rename_i i
  have e : (2 : Int) ^ (31 : Int).toNat = 2147483648 := by decide
  rw [e]
  by_cases h1 : (-2147483648 : Int) ≤ i <;> by_cases h2 : i ≤ 2147483647 <;> simp [h1, h2] <;> omega
section
variable {P : Program} {w : World} {K : PySem.W.Frag} {mg : Str → Option Value} {base : Heap} {f : Addr} {fd : FuncData} {C : Addr}
theorem kitBo (T : Txt K mg w C) (d : D) : PySem.W.kitOne K (kyU C d) (.type "bool") = some (isBl d) := by rw [T.kit d "bool" (by simp)]; cases d <;> simp [isBl]
theorem kitIn (T : Txt K mg w C) (d : D) : PySem.W.kitOne K (kyU C d) (.type "int") = some (isIn d) := by rw [T.kit d "int" (by simp)]; cases d <;> simp [isIn]
theorem kitSt (T : Txt K mg w C) (d : D) : PySem.W.kitOne K (kyU C d) (.type "str") = some (isSt d) := by rw [T.kit d "str" (by simp)]; cases d <;> simp [isSt]
theorem kitTu (T : Txt K mg w C) (d : D) : PySem.W.kitOne K (kyU C d) (.type "tuple") = some (isTu d) := by rw [T.kit d "tuple" (by simp)]; cases d <;> simp [isTu]
abbrev s__law_number : Stmt := top 45
theorem sc__law_number : FnScope ["value", "low", "high"] ["value", "low", "high"] (C8.fnScope s__law_number) := C8.fnScope_by (by decide +kernel)
theorem ok__law_number (F : C8.Def K mg "_law_number" s__law_number f fd) (b : Binds K fd ["value", "low", "high"] []) (T : Txt K mg w C) : C8.Cal P w K mg base 1 "_law_number" (spNum C) [] := by
  refine C8.cal0 F b .nil sc__law_number (fun vs H Q E h => ?_) (fun cdv A outer s H vs Q E hr h => ?_)
  · obtain ⟨x, d, lo, hi, rfl, _⟩ := h; rfl
  obtain ⟨x, d, lo, hi, rfl, hx, q⟩ := h
  refine ⟨_, (pss_one (ps_ret (pe_and (pe_callB (call_isiA T.cl) rfl T.z_isinstance bt_isinstance (pa_cons (pv 0) (pa_cons (pe_bltn (v := .ty "int") rfl T.z_int bt_int rfl) pa_nil))) (pe_and (pe_not (pe_callB (call_isiA T.cl) rfl T.z_isinstance bt_isinstance (pa_cons (pv 0) (pa_cons (pe_bltn (v := .ty "bool") rfl T.z_bool bt_bool rfl) pa_nil)))) (pe_one (pe_chain op_le op_lt (pv 1) (pv 0) (pv 2))))))), ?_⟩
  refine ⟨_, rfl, x, _, _, _, _, rfl, hx, .ty _, kitIn T d, _, rfl, ?_⟩
  have bad : (∀ i, d ≠ .int i) → numD d lo hi = false := fun h => by cases d <;> first | rfl | exact absurd rfl (h _)
  cases hI : isIn d with
  | false =>
    have e : numD d lo hi = false := bad fun i h => by rw [h] at hI; cases hI
    rw [e] at q
    exact bF rfl q
  | true =>
    refine bT rfl ⟨_, rfl, x, _, _, _, _, rfl, hx, .ty _, kitBo T d, _, rfl, ?_⟩
    cases hB : isBl d with
    | true =>
      have e : numD d lo hi = false := bad fun i h => by rw [h] at hB; cases hB
      rw [e] at q
      exact ⟨_, rfl, bF rfl q⟩
    | false =>
      refine ⟨_, rfl, bT rfl ?_⟩
      obtain ⟨i, rfl⟩ : ∃ i, d = .int i := by
        cases d <;> first | exact ⟨_, rfl⟩ | (simp [isIn] at hI; done) | (simp [isBl] at hB; done)
      cases hx
      refine ⟨_, rfl, _, rfl, _, _, rfl, rfl, _, rfl, ite2 (fun c => ?_) (fun c => ?_)⟩
      · refine ⟨_, rfl, _, _, rfl, rfl, ?_⟩
        have e : numD (.int i) lo hi = decide (i < hi) := by simp only [numD]; rw [show decide (lo ≤ i) = true from c, Bool.true_and]
        rw [e] at q; exact q
      · have e : numD (.int i) lo hi = false := by simp only [numD]; rw [show decide (lo ≤ i) = false by simpa using c, Bool.false_and]
        rw [e] at q; exact q
abbrev s__law_fits : Stmt := top 46
theorem sc__law_fits : FnScope ["value", "sort", "many"] ["value", "sort", "many"] (C8.fnScope s__law_fits) := C8.fnScope_by (by decide +kernel)
theorem ok__law_fits (F : C8.Def K mg "_law_fits" s__law_fits f fd) (b : Binds K fd ["value", "sort", "many"] []) (T : Txt K mg w C) (c__law_number : C8.Cal P w K mg base 1 "_law_number" (spNum C) []) : C8.Cal P w K mg base 2 "_law_fits" (spFits C) [] := by
  refine C8.cal0 F b .nil sc__law_fits (fun vs H Q E h => ?_) (fun cdv A outer s H vs Q E hr h => ?_)
  · obtain ⟨x, d, z, m, rfl, _⟩ := h; rfl
  obtain ⟨x, d, z, m, rfl, hx, hm, q⟩ := h
  refine ⟨_, (pss_cons (ps_if (pt_cmpR op_eq (pv 1) pe_str (nomark _)) (pss_one (ps_ret (C8.pe_c c__law_number hr (by first | decide | omega) rfl (pa_cons (pv 0) (pa_cons pe_int (pa_cons pe_int pa_nil)))))) pss_nil)
      (pss_cons (ps_if (pt_cmpR op_eq (pv 1) pe_str (nomark _)) (pss_one (ps_ret (C8.pe_c c__law_number hr (by first | decide | omega) rfl (pa_cons (pv 0) (pa_cons pe_int (pa_cons (pv 2) pa_nil)))))) pss_nil)
      (pss_one (ps_ret (C8.pe_c c__law_number hr (by first | decide | omega) rfl (pa_cons (pv 0) (pa_cons (pe_un un_neg (pe_op op_pow pe_int pe_int)) (pa_cons (pe_op op_pow pe_int pe_int) pa_nil)))))))), ?_⟩
  refine ⟨_, rfl, rfl, _, rfl, ?_⟩
  by_cases z1 : z = "r"
  · refine ifT (by rw [z1]) ⟨_, rfl, x, d, 0, 4, rfl, hx, ?_⟩
    have e : srt z = "register" := by unfold srt; rw [if_pos z1]
    have e2 : formD d (srt z) m = numD d 0 4 := by unfold formD; rw [if_pos e]; exact (numD_num (by decide)).symm
    rw [e2] at q; exact q
  refine ifF (fun y => z1 (V.str.inj y)) ⟨_, rfl, rfl, _, rfl, ?_⟩
  by_cases z2 : z = "t"
  · refine ifT (by rw [z2]) ⟨_, rfl, _, rfl, x, d, 0, m, rfl, hx, ?_⟩
    have e : srt z = "place" := by unfold srt; rw [if_neg z1, if_pos z2]
    have e2 : formD d (srt z) m = numD d 0 m := by unfold formD; rw [if_neg (by rw [e]; decide +kernel), if_pos e]; exact (numD_num hm).symm
    rw [e2] at q; exact q
  refine ifF (fun y => z2 (V.str.inj y)) ⟨_, rfl, 2, 31, rfl, rfl, by unfold CPow; decide, _, rfl, 2, 31, rfl, rfl, by unfold CPow; decide, x, d, _, _, rfl, hx, ?_⟩
  have e : srt z = "number" := by unfold srt; rw [if_neg z1, if_neg z2]
  have e2 : formD d (srt z) m = numD d (-(2 ^ (31 : Int).toNat)) (2 ^ (31 : Int).toNat) := by
    unfold formD; rw [if_neg (by rw [e]; decide +kernel), if_neg (by rw [e]; decide +kernel), Bool.and_true, numD_all]
  rw [e2] at q; exact q
theorem lawF_none {k : Str} (h : ∀ p ∈ lawF, p.1 ≠ k) : formsM k = none := by
  unfold formsM
  have e : progF.find? (fun p => decide (p.1 = k)) = none := by
    rw [List.find?_eq_none]
    intro p hp
    rw [← law_prog] at hp
    obtain ⟨q, hq, rfl⟩ := List.mem_map.mp hp
    simpa using h q hq
  rw [e]; rfl
def spIsRow (C : Addr) : Sp := fun vs H Q _ => ∃ x d n m, vs = [x, .int m] ∧ Is C H x d ∧ RowW n d ∧ n ≤ 200 ∧ m ≤ 1000 ∧ ∀ H', Same H H' → Q (.bl (instrD d m)) H'
abbrev s__law_is_row : Stmt := top 47
theorem sc__law_is_row : FnScope ["row", "many", "kind", "form", "k"] ["row", "many"] (C8.fnScope s__law_is_row) := C8.fnScope_by (by decide +kernel)
theorem ok__law_is_row (F : C8.Def K mg "_law_is_row" s__law_is_row f fd) (b : Binds K fd ["row", "many"] []) (T : Txt K mg w C) (c__law_forms : C8.Cal P w K mg base 1 "_law_forms" (spLF C) []) (c__law_fits : C8.Cal P w K mg base 2 "_law_fits" (spFits C) []) : C8.Cal P w K mg base 3 "_law_is_row" (spIsRow C) [] := by
  refine C8.cal0 F b .nil sc__law_is_row (fun vs H Q E h => ?_) (fun cdv A outer s H vs Q E hr h => ?_)
  · obtain ⟨x, d, n, m, rfl, _⟩ := h; rfl
  obtain ⟨x, d, n, m, rfl, hx, hrw, hn, hm, q⟩ := h
  refine ⟨_, (pss_cons (ps_if (PW.pt (pw_or (pt_not (pt_val (pe_callB (call_isiA T.cl) rfl T.z_isinstance bt_isinstance (pa_cons (pv 0) (pa_cons (pe_bltn (v := .ty "tuple") rfl T.z_tuple bt_tuple rfl) pa_nil))))) (pw_or (pt_cmpR (op_eqD (room64 hr)) (pv 0) (pe_tup pa_nil) (nomark _)) (pw_or1 (pt_not (pt_val (pe_callB (call_isiA T.cl) rfl T.z_isinstance bt_isinstance (pa_cons (pe_ix ix_tup (pv 0) pe_int (fun _ _ => rfl)) (pa_cons (pe_bltn (v := .ty "str") rfl T.z_str bt_str rfl) pa_nil))))))))) (pss_one (ps_ret pe_bl)) pss_nil)
      (pss_cons (ps_for PassesOwn.never rfl (pi_list (Hr.pe_c0 c__law_forms hr (by first | decide | omega) rfl)) (pg_tup rfl (pgs_cons (pg_name (i := 2) sc__law_is_row.nd rfl (Or.inl rfl)) (pgs_cons (pg_name (i := 3) sc__law_is_row.nd rfl (Or.inr rfl)) pgs_nil)))
      (pss_one (ps_if (pt_cmpR op_eq (pe_ix ix_tup (pv 0) pe_int (fun _ _ => rfl)) (pv 2) (nomark _)) (pss_cons (ps_if (pt_cmpR op_ne (pe_callB call_lenS rfl T.z_len bt_len (pa_cons (pv 0) pa_nil)) (pe_op op_add (pe_callB call_len_str rfl T.z_len bt_len (pa_cons (pv 3) pa_nil)) pe_int) (nomark _)) (pss_one (ps_ret pe_bl)) pss_nil)
      (pss_one (ps_ret (pe_cmpR op_eq (pe_callB call_lenS rfl T.z_len bt_len (pa_cons (pe_lc (own := [("k", 4)]) (tt := tNot (tB (tCall (spFits C) [] C8.E0 (tCons (tOp (rIxT K) (tVar 0) (tOp (rI0 fun i j => V.int (i + j)) (tVar 4) (tC (.int 1)))) (tCons (tOp rIxS (tVar 3) (tVar 4)) (tCons (tVar 1) tNil)))))) (g := gName 4) rfl sc__law_is_row.nd (pi_range1 rfl T.z_range (pa_cons (pe_callB call_len_str rfl T.z_len bt_len (pa_cons (pv 3) pa_nil)) pa_nil)) (blkOk_by (own := [("k", 4)]) (N := ["row", "many", "kind", "form", "k"]) (sc := C8.fnScope s__law_is_row) (by decide +kernel)) (fun _ _ _ _ _ => (pg_name (i := 4) sc__law_is_row.nd rfl (Or.inl rfl))) (fun _ _ _ _ _ => (pts_one (pt_not (pt_val (C8.pe_c c__law_fits hr (by first | decide | omega) rfl (pa_cons (pe_ix ix_tup (pv 0) (pe_op op_add (pv 4) pe_int) (fun _ _ => rfl)) (pa_cons (pe_ix ix_str (pv 3) (pv 4) (fun _ _ => rfl)) (pa_cons (pv 1) pa_nil)))))))) (fun _ _ _ _ _ => (pv 4))) pa_nil)) pe_int (nomark _))))) pss_nil)))
      (pss_one (ps_ret pe_bl)))), ?_⟩
  obtain ⟨es, hes, hel, hei⟩ := hrw
  obtain ⟨plE, flE, dpE⟩ := itmL_pln hei
  refine ⟨_, rfl, x, _, _, _, _, rfl, hx, .ty _, kitTu T d, _, rfl, ?_⟩
  cases ht : isTu d with
  | false =>
    have e : instrD d m = false := by cases d <;> first | rfl | (simp [isTu] at ht; done)
    have q := q H (Same.refl H)
    rw [e] at q
    exact bT rfl q
  | true =>
    refine bF rfl ?_
    obtain rfl : d = .tup es := by
      rcases hes with h | h
      · exact h
      · rw [h] at ht; cases ht
    have shp : SeqAt.shaped (.tuple (pydL es)) = true := pyd_shaped (d := .tup es) (by simp only [pln]; exact plE) (by simp only [dpt]; omega)
    cases hx with
    | @tup a xs _ ha hxs =>
    have hl := hxs.len
    have bad : ∀ H', Same H H' → instrD (.tup es) m = false → Q (.bl false) H' := fun H' s' e => by have q := q H' s'; rw [e] at q; exact q
    refine ⟨_, rfl, (by show 0 ≤ sizeLine; decide), fun u hu => ?_⟩
    have su := same_new (o := .tup []) hu
    have eu : upd H u (.tup []) u = some (.tup []) := upd_same
    have ha1 := su _ _ ha
    have hxs1 := hxs.same su
    generalize upd H u (.tup []) = H1 at *
    refine ⟨.tuple (pydL es), .tuple [], .tup (SqT.of ha1) (isA_dp plE hxs1), .tup (SqT.of eu) .nil, shp, rfl, _, rfl, ?_⟩
    have eqn : PyData.eqv (.tuple (pydL es)) (.tuple []) = es.isEmpty := by cases es <;> simp [pydL, PyData.eqv, PyData.eqvAll]
    rw [eqn]
    cases hxs1 with
    | nil => exact bT rfl (bad H1 su rfl)
    | @cons x0 xr e0 er hx0 hxr =>
    refine bF rfl ⟨_, rfl, a, _, 0, _, rfl, rfl, SqT.of ha1, atI_nat (j := 0) rfl, x0, _, _, _, _, rfl, hx0, .ty _, kitSt T e0, _, rfl, ?_⟩
    cases hS : isSt e0 with
    | false => exact bT rfl (bad H1 su (by cases e0 <;> first | rfl | (simp [isSt] at hS; done)))
    | true =>
    refine bF rfl ?_
    obtain ⟨k, rfl⟩ : ∃ k, e0 = .str k := by cases e0 <;> first | exact ⟨_, rfl⟩ | (simp [isSt] at hS; done)
    cases hx0
    have hlr := hxr.len
    refine ⟨rfl, fun H2 l ys s2 hl0 hl2 ix => ⟨l, rfl, ⟨ys, SqL.of hl2⟩, for_it (walk_list (xs := ys)) (fun i σ H' => ∃ v2 v3, σ = [some (.ref a), some (.int m), v2, v3, none] ∧ Same H2 H' ∧ ∀ p ∈ lawF.take i, p.1 ≠ k) ⟨none, none, rfl, Same.refl H2, fun p hp => nomatch hp⟩ (fun i σ H3 _ h => by obtain ⟨_, _, _, s3, _⟩ := h; exact SqL.of (s3 _ _ hl2)) ?_ ?_⟩⟩
    · rintro i y σ H3 H4 hi ⟨v2, v3, rfl, s3, hne⟩ ⟨rfl, hy⟩
      obtain ⟨d, hd, hyd⟩ := ix.at hy
      have hyd := hyd.same s3
      obtain ⟨⟨kd, fm⟩, hkf, rfl⟩ : ∃ q, lawF[i]? = some q ∧ d = .tup [.str q.1, .str q.2] := by
        unfold lawFD at hd
        rw [List.getElem?_map] at hd
        cases h : lawF[i]? with
        | none => rw [h] at hd; cases hd
        | some q => rw [h] at hd; exact ⟨q, rfl, (Option.some.inj hd).symm⟩
      cases hyd with
      | @tup tz zs _ ez iz =>
      cases iz with
      | @cons _ _ _ _ a1 iz => cases iz with
      | @cons _ _ _ _ a2 iz =>
      cases a1
      cases a2
      cases iz
      obtain ⟨hfm, _, hlen⟩ := law_forms_at _ (List.mem_of_getElem? hkf)
      have hlen : (chs fm).length ≤ 3 := hlen
      have cl : (chs fm).length = fm.cps.size := by unfold chs; rw [List.length_map, Array.length_toList]
      have cl2 : fm.length = (chs fm).length := by rw [cl]; rfl
      have ha3 := s3 _ _ (s2 _ _ ha1)
      refine ⟨tz, [.str kd, .str fm], rfl, SqT.of ez, rfl, .str kd, [.str fm], rfl, .str fm, [], rfl, rfl, ?_⟩
      refine ⟨_, rfl, a, _, 0, _, rfl, rfl, SqT.of ha3, atI_nat (j := 0) rfl, _, rfl, rfl, _, rfl, ?_⟩
      by_cases hk : k = kd
      · refine ifT (by rw [hk]) ⟨_, rfl, a, _, rfl, .inr (SqT.of ha3), _, rfl, fm, rfl, Nat.le_of_lt (small1000 (by omega)), _, _, rfl, rfl, rfl, _, rfl, ?_⟩
        subst hk
        have eI : instrD (.tup (.str k :: er)) m = instrF ((chs fm).map srt) er m := by
          have h2 : formsM k = some ((chs fm).map srt) := hfm
          simp only [instrD, h2]
        have hs4 := su.trans (s2.trans s3)
        by_cases c3 : er.length = (chs fm).length
        · refine bF (by simp; omega) ?_
          refine ⟨_, rfl, fm, rfl, Nat.le_of_lt (small1000 (by omega)), _, rfl, by omega, by omega, fun Dl hD => ?_⟩
          have htn : ((fm.length : Nat) : Int).toNat = fm.length := by omega
          rw [htn]
          have hzl0 : (er.zip ((chs fm).map srt)).length = fm.length := by rw [List.length_zip, List.length_map]; omega
          refine lc_it (walk_range (lo := 0) (n := fm.length)) (fun i H' => Same H4 H' ∧ ∃ zs, H' Dl = some (.lst zs) ∧ zs.length ≤ i ∧ decide (zs.length = 0) = ((er.zip ((chs fm).map srt)).take i).all fun p => formD p.1 p.2 m) ⟨same_new hD, [], upd_same, Nat.zero_le _, rfl⟩ (fun _ _ _ _ => trivial) ?_ ?_
          · rintro i x H5 H6 hi ⟨s4, zs, hz, hzl, hzz⟩ ⟨rfl, rfl⟩
            obtain ⟨c, hc⟩ : ∃ c, fm.cps.toList[i]? = some c := ⟨fm.cps.toList[i]'(by rw [Array.length_toList]; exact hi), List.getElem?_eq_getElem _⟩
            have hil : i < er.length := by omega
            obtain ⟨v, hv⟩ : ∃ v, xr[i]? = some v := ⟨xr[i]'(by omega), List.getElem?_eq_getElem _⟩
            obtain ⟨d, hd2, hvd⟩ := hxr.at hv
            have hci : ((chs fm).map srt)[i]? = some (srt ⟨#[c]⟩) := by
              unfold chs
              rw [List.getElem?_map, List.getElem?_map, hc]; rfl
            have hpz : (er.zip ((chs fm).map srt))[i]? = some (d, srt ⟨#[c]⟩) := by rw [List.getElem?_zip_eq_some]; exact ⟨hd2, hci⟩
            have h45 := s2.trans (s3.trans s4)
            have ha5 := s4 _ _ ha3
            refine ⟨rfl, ?_⟩
            refine ⟨_, rfl, _, rfl, _, _, rfl, rfl, a, _, _, v, rfl, rfl, SqT.of ha5, ?_, _, rfl, _, rfl, fm, _, c, rfl, rfl, Nat.le_of_lt (small1000 (by omega)), ?_, _, rfl, v, d, _, m, rfl, hvd.same h45, hm, _, rfl, ?_⟩
            · have e : (0 + (i : Int) + 1) = ((i + 1 : Nat) : Int) := by omega
              show atI _ (0 + (i : Int) + 1) = _
              rw [e]
              exact atI_nat hv
            · show atI _ (0 + (i : Int)) = _
              rw [Int.zero_add]
              exact atI_nat hc
            · have hall : ((er.zip ((chs fm).map srt)).take (i + 1)).all (fun p => formD p.1 p.2 m) = (decide (zs.length = 0) && formD d (srt ⟨#[c]⟩) m) := by
                rw [List.take_add_one, hpz, List.all_append, hzz]
                simp
              cases hfd : formD d (srt ⟨#[c]⟩) m with
              | true =>
                refine iteF ⟨s4, zs, hz, by omega, ?_⟩
                rw [hall, hfd, Bool.and_true]
              | false =>
                refine iteT ⟨_, rfl, zs, hz, small1000 (by omega), same_put s4 hD, zs ++ [_], upd_same, by simp; omega, ?_⟩
                rw [hall, hfd, Bool.and_false]
                simp
          · rintro H5 ⟨s4, zs, hz, hzl, hzz⟩
            refine ⟨Dl, zs, rfl, .inl (SqL.of hz), rfl, ?_⟩
            have q := q H5 (su.trans (s2.trans (s3.trans s4)))
            rw [eI] at q
            unfold instrF at q
            rw [List.length_map, decide_eq_true c3, Bool.true_and] at q
            rw [List.take_of_length_le (by omega)] at hzz
            rw [← hzz] at q
            have e : decide (V.int (zs.length : Nat) = V.int 0) = decide (zs.length = 0) := by
              by_cases h : zs.length = 0
              · rw [decide_eq_true h, h]; rfl
              · rw [decide_eq_false h]
                exact decide_eq_false fun z => h (by have := V.int.inj z; omega)
            rw [← e] at q; exact q
        · refine bT (by simp; omega) ?_
          refine bad _ hs4 ?_
          rw [eI]; unfold instrF; rw [List.length_map, decide_eq_false c3]; rfl
      · refine ifF (fun z => hk (V.str.inj z)) ⟨_, _, rfl, s3, fun p hp => ?_⟩
        rw [List.take_add_one, hkf] at hp
        rcases List.mem_append.mp hp with hp | hp
        · exact hne p hp
        · simp only [Option.toList_some, List.mem_singleton] at hp
          rw [hp]; exact fun z => hk z.symm
    · rintro σ H3 ⟨v2, v3, rfl, s3, hne⟩
      have hyl : ys.length = lawF.length := by rw [ix.len]; rfl
      rw [hyl, List.take_length] at hne
      exact bad H3 (su.trans (s2.trans s3)) (by simp only [instrD, lawF_none hne])
def spDue (C : Addr) : Sp := fun vs H Q _ => ∃ l xs ds n, vs = [.ref l] ∧ H l = some (.lst xs) ∧ IsA C H xs ds ∧ (∀ d ∈ ds, RowW n d) ∧ n ≤ 200 ∧ ds.length ≤ 200 ∧ ∀ H', Same H H' → Q (.bl (progD (.tup ds))) H'
abbrev s__law_due : Stmt := top 48
theorem sc__law_due : FnScope ["rows", "row"] ["rows"] (C8.fnScope s__law_due) := C8.fnScope_by (by decide +kernel)
theorem ok__law_due (F : C8.Def K mg "_law_due" s__law_due f fd) (b : Binds K fd ["rows"] []) (T : Txt K mg w C) (c__law_is_row : C8.Cal P w K mg base 3 "_law_is_row" (spIsRow C) []) : C8.Cal P w K mg base 4 "_law_due" (spDue C) [] := by
  refine C8.cal0 F b .nil sc__law_due (fun vs H Q E h => ?_) (fun cdv A outer s H vs Q E hr h => ?_)
  · obtain ⟨l, xs, ds, n, rfl, _⟩ := h; rfl
  obtain ⟨l, xs, ds, n, rfl, hl0, hxs, hrw, hn, hd, q⟩ := h
  refine ⟨_, (pss_cons (ps_if (PW.pt (pw_or (pt_not (pt_chain op_le op_le pe_int (pe_callB call_lenS rfl T.z_len bt_len (pa_cons (pv 0) pa_nil)) pe_int)) (pw_or1 (pt_cmpR op_gt (pe_callB call_lenS rfl T.z_len bt_len (pa_cons (pe_lc (own := [("row", 1)]) (tt := tNot (tB (tCall (spIsRow C) [] C8.E0 (tCons (tVar 1) (tCons (tCB (rLn K) (tCons (tVar 0) tNil)) tNil))))) (g := gName 1) rfl sc__law_due.nd (pi_list (pv 0)) (blkOk_by (own := [("row", 1)]) (N := ["rows", "row"]) (sc := C8.fnScope s__law_due) (by decide +kernel)) (fun _ _ _ _ _ => (pg_name (i := 1) sc__law_due.nd rfl (Or.inl rfl))) (fun _ _ _ _ _ => (pts_one (pt_not (pt_val (C8.pe_c c__law_is_row hr (by first | decide | omega) rfl (pa_cons (pv 1) (pa_cons (pe_callB call_lenS rfl T.z_len bt_len (pa_cons (pv 0) pa_nil)) pa_nil))))))) (fun _ _ _ _ _ => (pv 1))) pa_nil)) pe_int (nomark _))))) (pss_one (ps_ret pe_bl)) pss_nil)
      (pss_one (ps_ret (pe_cmpR op_in_seq (pe_ix ix_tup (pe_ix ix_list (pv 0) (pe_un un_neg pe_int) (fun _ _ => rfl)) pe_int (fun _ _ => rfl)) (pe_tup (pa_cons pe_str (pa_cons pe_str pa_nil))) (by with_unfolding_all rfl))))), ?_⟩
  have hl := hxs.len
  have bad : (∀ H', Same H H' → progD (.tup ds) = false → Q (.bl false) H') := fun H' s' e => by have q := q H' s'; rw [e] at q; exact q
  refine ⟨_, rfl, l, xs, rfl, .inl (SqL.of hl0), _, _, rfl, rfl, _, rfl, ?_⟩
  by_cases c1 : 1 ≤ ds.length
  · refine ifT (by omega) ⟨_, _, rfl, rfl, _, rfl, ?_⟩
    by_cases c2 : ds.length ≤ 24
    · refine bF (by simp; omega) ⟨_, rfl, l, rfl, ⟨xs, SqL.of hl0⟩, fun Dl hD => ?_⟩
      refine lc_it (walk_list (K := K) (a := l) (xs := xs)) (fun i H' => Same H H' ∧ ∃ zs, H' Dl = some (.lst zs) ∧ zs.length ≤ i ∧ decide (zs.length = 0) = (ds.take i).all fun e => instrD e ds.length) ⟨same_new hD, [], upd_same, Nat.zero_le _, rfl⟩ (fun i H3 _ h => SqL.of (h.1 _ _ hl0)) ?_ ?_
      · rintro i x H4 H5 hi ⟨s4, zs, hz, hzl, hzz⟩ ⟨rfl, hx⟩
        obtain ⟨e, he, hxe⟩ := hxs.at hx
        refine ⟨rfl, ?_⟩
        refine ⟨_, rfl, _, rfl, l, xs, rfl, .inl (SqL.of (s4 _ _ hl0)), x, e, n, _, rfl, hxe.same s4, hrw e (List.mem_of_getElem? he), hn, by omega, fun H6 s6 => ⟨_, rfl, ?_⟩⟩
        have hall : (ds.take (i + 1)).all (fun e => instrD e ds.length) = (decide (zs.length = 0) && instrD e ds.length) := by
          rw [List.take_add_one, he, List.all_append, hzz]
          simp
        rw [hl]
        have hz6 := s6 _ _ hz
        cases hfd : instrD e ds.length with
        | true =>
          refine iteF ⟨s4.trans s6, zs, hz6, by omega, ?_⟩
          rw [hall, hfd, Bool.and_true]
        | false =>
          refine iteT ⟨_, rfl, zs, hz6, small1000 (by omega), same_put (s4.trans s6) hD, zs ++ [_], upd_same, by simp; omega, ?_⟩
          rw [hall, hfd, Bool.and_false]
          simp
      · rintro H4 ⟨s4, zs, hz, hzl, hzz⟩
        rw [List.take_of_length_le (by omega)] at hzz
        refine ⟨Dl, zs, rfl, .inl (SqL.of hz), _, _, rfl, rfl, _, rfl, ?_⟩
        have e0 : progD (.tup ds) = (ds.all (fun e => instrD e ds.length) && lastD ds) := by
          simp only [progD]
          rw [decide_eq_true c1, decide_eq_true c2]; rfl
        by_cases hz0 : zs.length = 0
        · refine ifF (by omega) ?_
          rw [decide_eq_true hz0] at hzz
          rw [← hzz, Bool.true_and] at e0
          obtain ⟨es, e, rfl⟩ : ∃ es e, ds = es ++ [e] := by
            rcases List.eq_nil_or_concat ds with h | ⟨es, e, h⟩
            · rw [h] at c1; simp at c1
            · exact ⟨es, e, by rw [h, List.concat_eq_append]⟩
          obtain ⟨ys, y, rfl, hys, hy⟩ := IsA.concat (ds := es) (e := e) (by rw [List.concat_eq_append]; exact hxs)
          have hie : instrD e (es ++ [e]).length = true := List.all_eq_true.mp hzz.symm e (by simp)
          obtain ⟨k, r, rfl⟩ := instr_name hie
          cases hy with
          | @tup b2 zs2 _ hb hzs =>
          cases hzs with
          | @cons zk zs3 _ _ hk hzs2 =>
          cases hk
          refine ⟨_, rfl, 1, rfl, l, _, -1, .ref b2, rfl, rfl, SqL.of (s4 _ _ hl0), atI_last _ _, b2, _, 0, _, rfl, rfl, SqT.of (s4 _ _ hb), atI_nat (j := 0) rfl, (by show 2 ≤ sizeLine; decide), fun m hm => ?_⟩
          refine ⟨m, _, rfl, .inr (SqT.of upd_same), rfl, rfl, ?_⟩
          show Q (.bl (inV (.str k) [.str "jump", .str "end"])) _
          rw [inVab]
          have q := q _ (s4.trans (same_new (o := .tup [.str "jump", .str "end"]) hm))
          have e1 : progD (.tup (es ++ [.tup (.str k :: r)])) = (decide (k = "jump") || decide (k = "end")) := by
            rw [e0]
            simp only [lastD, List.getLast?_append, List.getLast?_singleton, Option.some_or]
            by_cases h1 : k = "jump" <;> by_cases h2 : k = "end" <;> simp [h1, h2]
          rw [e1] at q
          exact q
        · refine ifT (by omega) (bad H4 s4 ?_)
          rw [decide_eq_false hz0] at hzz
          rw [e0, ← hzz, Bool.false_and]
    · exact bT (by simp; omega) (bad H (Same.refl H) (by simp only [progD]; rw [decide_eq_false c2]; simp))
  · exact ifF (by omega) ⟨_, rfl, bT rfl (bad H (Same.refl H) (by simp only [progD]; rw [decide_eq_false c1]; rfl))⟩
end
end Hc

set_option maxHeartbeats 8000000
namespace Hc
open PySem PySem.Spec PyProof.Rows L2 Hr
def spLaw (K : PySem.W.Frag) : Sp := fun vs H Q _ => ∃ (a : Addr) (ns : List Int), vs = [.ref a] ∧ SqL K H a (ns.map V.int) ∧ ns.length ≤ 1000 ∧ ∀ H', Q (.bl true) H'
theorem row_pln {n : Nat} {d : D} (h : RowW n d) : pln d = true ∧ dpt d ≤ 2 := by
  obtain ⟨es, e | e, _, hi⟩ := h
  · obtain ⟨a, _, c⟩ := itmL_pln hi
    subst e
    exact ⟨by simp only [pln]; exact a, by simp only [dpt]; omega⟩
  · obtain ⟨a, _, c⟩ := itmL_pln hi
    subst e
    exact ⟨by simp only [pln]; exact a, by simp only [dpt]; omega⟩
theorem rows_pln {n : Nat} : ∀ {ds : List D}, (∀ d ∈ ds, RowW n d) → plnL ds = true ∧ dptL ds ≤ 2
  | [], _ => ⟨rfl, by decide⟩
  | d :: ds, h => by
    have h1 := row_pln (h d (by simp))
    have h2 := rows_pln (ds := ds) fun x hx => h x (by simp [hx])
    exact ⟨by simp only [plnL, h1.1, h2.1]; rfl, by simp only [dptL]; omega⟩
theorem row_flat {n : Nat} {d : D} {m : Int} (h : RowW n d) (k : instrD d m = true) : flatT d = true := by
  obtain ⟨es, e | e, _, hi⟩ := h
  · subst e
    simp only [flatT]; exact (itmL_pln hi).2.1
  · subst e; cases k
theorem rows_flat : ∀ {ds : List D}, (∀ d ∈ ds, flatT d = true) → flatTL ds = true
  | [], _ => rfl
  | d :: ds, h => by
    simp only [flatTL, h d (by simp), rows_flat (ds := ds) fun x hx => h x (by simp [hx])]; rfl
theorem wrapI_ok (n : Int) : -2147483648 ≤ wrapI n ∧ wrapI n < 2147483648 ∧ (wrapI n - n) % 4294967296 = 0 := by
  have e : wrapI n = (n - -2147483648) % 4294967296 + -2147483648 := rfl
  rw [e]; omega
theorem prog_ok {es : List D} {e : D} {m : Int} (h : ∀ d ∈ es ++ [e], instrD d m = true) (hm : ((es ++ [e]).length : Int) = m) (h24 : (es ++ [e]).length ≤ 24) (hl : lastK e) : progD (.tup (es ++ [e])) = true := by
  obtain ⟨k, ds, rfl, hk⟩ := hl
  simp only [progD]
  have h1 : 1 ≤ (es ++ [D.tup (.str k :: ds)]).length := by simp
  rw [decide_eq_true h1, decide_eq_true h24, hm]
  have h2 : (es ++ [D.tup (.str k :: ds)]).all (fun e => instrD e m) = true := List.all_eq_true.mpr h
  rw [h2]
  simp only [lastD, List.getLast?_append, List.getLast?_singleton, Option.some_or, Bool.true_and]
  exact decide_eq_true hk
theorem notd {p : Prop} [Decidable p] (h : p) : (!decide p) = false := by rw [decide_eq_true h]; rfl
/-- the rows of the law, at l -/
structure RA (C p s l : Addr) (zs : List V) (ds : List D) (H : Hp) : Prop where
  t : Tape H p s
  at_ : H l = some (.lst zs)
  is : IsA C H zs ds
theorem RA.go {C p s l : Addr} {zs : List V} {ds : List D} {H H' : Hp} (a : RA C p s l zs ds H) (np : l ≠ p) (fl : flatTL ds = true) (t : Tape H' p s) (o : Off p H H') : RA C p s l zs ds H' := ⟨t, o _ _ a.at_ np, isA_tups (a.t.tups o) fl a.is⟩
theorem RA.same {C p s l : Addr} {zs : List V} {ds : List D} {H H' : Hp} (a : RA C p s l zs ds H) (e : Same H H') : RA C p s l zs ds H' := ⟨a.t.same e, e _ _ a.at_, a.is.same e⟩
section
variable {P : Program} {w : World} {K : PySem.W.Frag} {mg : Str → Option Value} {base : Heap} {f : Addr} {fd : FuncData} {C : Addr}
abbrev s_law : Stmt := top 49
theorem sc_law : FnScope ["script", "tape", "many", "rows", "k", "turn", "bent", "told", "number", "value"] ["script"] (C8.fnScope s_law) := C8.fnScope_by (by decide +kernel)
theorem fn_law (F : C8.Fun K "law" "law" s_law f fd) (b : Binds K fd ["script"] []) (T : Txt K mg w C) (c__law_next : C8.Cal P w K mg base 1 "_law_next" spNext []) (c__law_row : C8.Cal P w K mg base 3 "_law_row" (spRowL C) []) (c__law_bent : C8.Cal P w K mg base 2 "_law_bent" (spBent C) [])
    (c_is_program : C8.Cal P w K mg base 4 "is_program" (spPr C ["r"]) []) (c__law_due : C8.Cal P w K mg base 4 "_law_due" (spDue C) []) (c_wrapped : C8.Cal P w K mg base 1 "wrapped" spWr []) (c_is_registers : C8.Cal P w K mg base 4 "is_registers" (spB C Fit regD) []) :
    FnOk P w K mg base C8.CX0 5 f fd ["script"] (spLaw K) := by
  refine C8.fn0 F sc_law (fun vs H Q E h => ?_) (fun cdv A outer s H vs Q E hr h => ?_)
  · obtain ⟨a, ns, rfl, _⟩ := h; rfl
  obtain ⟨a, ns, rfl, ha, hns, q⟩ := h
  refine ⟨_, (pss_cons (ps_set (i := 1) sc_law.nd rfl (Or.inr rfl) (pe_lst (pa_cons (pe_callTy call_list_of rfl T.z_list bt_list (pa_cons (pv 0) pa_nil)) (pa_cons pe_int (pa_cons pe_int (pa_cons pe_int pa_nil))))))
      (pss_cons (ps_set (i := 2) sc_law.nd rfl (Or.inr rfl) (pe_ix ix_tup (pe_tup (pa_cons pe_int (pa_cons pe_int (pa_cons pe_int (pa_cons pe_int pa_nil))))) (C8.pe_c c__law_next hr (by first | decide | omega) rfl (pa_cons (pv 1) (pa_cons pe_int pa_nil))) (fun _ _ => rfl)))
      (pss_cons (ps_setLc (i := 3) (own := [("k", 4)]) (g := gName 4) rfl sc_law.nd rfl rfl (sw_true rfl rfl rfl rfl) (pi_range1 rfl T.z_range (pa_cons (pv 2) pa_nil)) (blkOk_by (own := [("k", 4)]) (N := ["script", "tape", "many", "rows", "k", "turn", "bent", "told", "number", "value"]) (sc := C8.fnScope s_law) (by decide +kernel)) (fun _ _ _ _ _ => (pg_name (i := 4) sc_law.nd rfl (Or.inl rfl))) (fun _ _ _ _ _ => pts_nil) (fun _ _ _ _ _ => (C8.pe_c c__law_row hr (by first | decide | omega) rfl (pa_cons (pv 1) (pa_cons (pv 2) (pa_cons (pe_cmpR op_eq (pv 4) (pe_op op_sub (pv 2) pe_int) (nomark _)) pa_nil))))))
      (pss_cons (ps_if (PW.pt (pw_or (pt_cmpR op_isnot_bl (C8.pe_c c_is_program hr (by first | decide | omega) rfl (pa_cons (pe_callTy call_tuple_of rfl T.z_tuple bt_tuple (pa_cons (pv 3) pa_nil)) pa_nil)) pe_bl (nomark _)) (pw_or1 (pt_val (C8.pe_c c_is_program hr (by first | decide | omega) rfl (pa_cons (pv 3) pa_nil)))))) (pss_one (ps_ret pe_bl)) pss_nil)
      (pss_cons (ps_for PassesOwn.never rfl (pi_range1 rfl T.z_range (pa_cons pe_int pa_nil)) (pg_name (i := 5) sc_law.nd rfl (Or.inl rfl))
      (pss_cons (ps_set (i := 6) sc_law.nd rfl (Or.inl rfl) (pv 3))
      (pss_cons (ps_for PassesOwn.never rfl (pi_range1 rfl T.z_range (pa_cons (pe_op op_add pe_int (C8.pe_c c__law_next hr (by first | decide | omega) rfl (pa_cons (pv 1) (pa_cons pe_int pa_nil)))) pa_nil)) (pg_name (i := 4) sc_law.nd rfl (Or.inl rfl))
      (pss_one (ps_if (pt_cmpR (op_neD (room64 hr)) (pv 6) (pe_lst pa_nil) (nomark _)) (pss_one (ps_set (i := 6) sc_law.nd rfl (Or.inl rfl) (C8.pe_c c__law_bent hr (by first | decide | omega) rfl (pa_cons (pv 1) (pa_cons (pv 6) pa_nil))))) pss_nil)))
      (pss_cons (ps_set (i := 7) sc_law.nd rfl (Or.inl rfl) (C8.pe_c c_is_program hr (by first | decide | omega) rfl (pa_cons (pe_callTy call_tuple_of rfl T.z_tuple bt_tuple (pa_cons (pv 6) pa_nil)) pa_nil)))
      (pss_cons (ps_if (PW.pt (pw_or (pt_not (pt_val (pe_callB (call_isiA T.cl) rfl T.z_isinstance bt_isinstance (pa_cons (pv 7) (pa_cons (pe_bltn (v := .ty "bool") rfl T.z_bool bt_bool rfl) pa_nil))))) (pw_or1 (pt_cmpR op_ne (pv 7) (C8.pe_c c__law_due hr (by first | decide | omega) rfl (pa_cons (pv 6) pa_nil)) (nomark _))))) (pss_one (ps_ret pe_bl)) pss_nil)
      (pss_cons (ps_set (i := 8) sc_law.nd rfl (Or.inl rfl) (pe_op op_mul (pe_op op_sub (C8.pe_c c__law_next hr (by first | decide | omega) rfl (pa_cons (pv 1) (pa_cons (pe_op op_pow pe_int pe_int) pa_nil))) (pe_op op_pow pe_int pe_int)) (pe_ix ix_tup (pe_tup (pa_cons pe_int (pa_cons pe_int (pa_cons (pe_op op_pow pe_int pe_int) pa_nil)))) (C8.pe_c c__law_next hr (by first | decide | omega) rfl (pa_cons (pv 1) (pa_cons pe_int pa_nil))) (fun _ _ => rfl))))
      (pss_cons (ps_set (i := 7) sc_law.nd rfl (Or.inl rfl) (C8.pe_c c_wrapped hr (by first | decide | omega) rfl (pa_cons (pv 8) pa_nil)))
      (pss_one (ps_if (PW.pt (pw_or (pt_not (pt_chain op_le op_lt (pe_un un_neg (pe_op op_pow pe_int pe_int)) (pv 7) (pe_op op_pow pe_int pe_int))) (pw_or1 (pt_cmpR op_ne (pe_op op_mod (pe_callTy call_int1 rfl T.z_int bt_int (pa_cons (pe_op op_sub (pv 7) (pv 8)) pa_nil)) (pe_op op_pow pe_int pe_int)) pe_int (nomark _))))) (pss_one (ps_ret pe_bl)) pss_nil)))))))))
      (pss_cons (ps_for PassesOwn.never rfl (pi_tup (pe_tup (pa_cons pe_non (pa_cons (pe_tup pa_nil) (pa_cons pe_str (pa_cons pe_int (pa_cons (pe_tup (pa_cons (pe_tup pa_nil) pa_nil)) (pa_cons (pe_lst (pa_cons (pe_tup (pa_cons pe_str pa_nil)) pa_nil)) pa_nil)))))))) (pg_name (i := 9) sc_law.nd rfl (Or.inl rfl))
      (pss_one (ps_if (pt_cmpR op_isnot_bl (C8.pe_c c_is_program hr (by first | decide | omega) rfl (pa_cons (pv 9) pa_nil)) pe_bl (nomark _)) (pss_one (ps_ret pe_bl)) pss_nil)))
      (pss_one (ps_ret (pe_and (pe_cmpR op_is_bl (C8.pe_c c_is_registers hr (by first | decide | omega) rfl (pa_cons (pe_tup (pa_cons pe_int (pa_cons pe_str (pa_cons (pe_tup (pa_cons pe_int (pa_cons pe_str pa_nil))) (pa_cons (pe_un un_neg pe_int) pa_nil))))) pa_nil)) pe_bl (nomark _)) (pe_and (pe_not (C8.pe_c c_is_registers hr (by first | decide | omega) rfl (pa_cons (pe_lst (pa_cons pe_int (pa_cons pe_int (pa_cons pe_int (pa_cons pe_int pa_nil))))) pa_nil))) (pe_one (pe_not (C8.pe_c c_is_registers hr (by first | decide | omega) rfl (pa_cons (pe_tup (pa_cons pe_int (pa_cons pe_int (pa_cons pe_int pa_nil)))) pa_nil)))))))))))))), ?_⟩
  refine ⟨_, rfl, a, _, rfl, .inl ha, fun s0 hs0 => ⟨(by show 4 ≤ sizeLine; decide), fun p hp => ?_⟩⟩
  have hs0p : s0 ≠ p := fun z => by
    rw [← z, upd_same] at hp; cases hp
  have t0 : Tape (upd (upd H s0 (.lst (ns.map V.int))) p (.lst [.ref s0, .int 0, .int 0, .int 5])) p s0 := ⟨ns, 0, 0, 5, upd_same, by rw [upd_ne hs0p]; exact upd_same, fun z => hs0p z.symm, Nat.zero_le _⟩
  generalize upd (upd H s0 (.lst (ns.map V.int))) p (.lst [.ref s0, .int 0, .int 0, .int 5]) = H1 at *
  refine ⟨(by show 4 ≤ sizeLine; decide), fun u hu => ?_⟩
  have eu : upd H1 u (.tup [.int 1, .int 3, .int 9, .int 24]) u = some (.tup [.int 1, .int 3, .int 9, .int 24]) := upd_same
  have npu := t0.ne hu
  have t1 := t0.same (same_new (o := .tup [.int 1, .int 3, .int 9, .int 24]) hu)
  generalize upd H1 u (.tup [.int 1, .int 3, .int 9, .int 24]) = H2 at *
  refine ⟨_, rfl, p, s0, 4, rfl, t1, by decide, by decide, fun H3 r t3 o3 g0 g1 => ?_⟩
  obtain ⟨M, hM, hM1, hM2⟩ : ∃ M : Nat, atI [V.int 1, .int 3, .int 9, .int 24] r = some (.int (M : Nat)) ∧ 1 ≤ M ∧ M ≤ 24 := by
    have : r = 0 ∨ r = 1 ∨ r = 2 ∨ r = 3 := by omega
    rcases this with rfl | rfl | rfl | rfl
    · exact ⟨1, atI_nat (j := 0) rfl, by decide, by decide⟩
    · exact ⟨3, atI_nat (j := 1) rfl, by decide, by decide⟩
    · exact ⟨9, atI_nat (j := 2) rfl, by decide, by decide⟩
    · exact ⟨24, atI_nat (j := 3) rfl, by decide, by decide⟩
  refine ⟨u, _, r, _, rfl, rfl, SqT.of (o3 _ _ eu npu), hM, ?_⟩
  refine ⟨_, rfl, _, rfl, by omega, by omega, fun Dl hD => ?_⟩
  rw [show ((M : Nat) : Int).toNat = M by omega]
  have npD := t3.ne hD
  have nsD : Dl ≠ s0 := fun z => by
    obtain ⟨ns', h⟩ := t3.s
    rw [z, h] at hD; cases hD
  refine lc_it (walk_range (lo := 0) (n := M)) (fun i H' => Tape H' p s0 ∧ ∃ zs ds, H' Dl = some (.lst zs) ∧ IsA C H' zs ds ∧ ds.length = i ∧ (∀ d ∈ ds, instrD d M = true ∧ RowW 4 d) ∧ (i = M → ∃ es e, ds = es ++ [e] ∧ lastK e)) ⟨t3.same (same_new hD), [], [], upd_same, .nil, rfl, (fun d hd => nomatch hd), fun z => by omega⟩ (fun _ _ _ _ => trivial) ?_ ?_
  · rintro i x H4 H5 hi ⟨t4, zs, ds, hz, iz, hlen, hds, _⟩ ⟨rfl, rfl⟩
    refine ⟨rfl, yes ⟨_, rfl, _, rfl, _, rfl, _, rfl, _, _, rfl, rfl, rfl, p, s0, (M : Nat), _, rfl, t4, by omega, by omega, fun H6 a6 d6 t6 o6 is6 hin hlast hrw => ?_⟩⟩
    have hz6 := o6 _ _ hz npD
    have fl4 : flatTL ds = true := rows_flat fun d hd => row_flat (hds d hd).2 (hds d hd).1
    have fl6 : flatT d6 = true := row_flat hrw hin
    have hzl := iz.len
    have i6 := (isA_tups (t4.tups o6) fl4 iz).app (.cons (is6.same nx_le) .nil)
    refine ⟨zs, hz6, small1000 (by omega), t6.put npD nsD, zs ++ [.ref a6], ds ++ [d6], upd_same, isA_tups (Tups.put hz6) (rows_flat fun d hd => ?_) i6, by simp [hlen], fun d hd => ?_, fun hiM => ⟨ds, d6, rfl, hlast ?_⟩⟩
    · rcases List.mem_append.mp hd with hd | hd
      · exact row_flat (hds d hd).2 (hds d hd).1
      · rw [List.mem_singleton.mp hd]; exact fl6
    · rcases List.mem_append.mp hd with hd | hd
      · exact hds d hd
      · rw [List.mem_singleton.mp hd]; exact ⟨hin, hrw⟩
    · refine decide_eq_true (congrArg V.int ?_)
      omega
  rintro H4 ⟨t4, zs, ds, hz, iz, hlen, hds, hlast⟩
  obtain ⟨es, e, hee, hlk⟩ := hlast rfl
  have fl : flatTL ds = true := rows_flat fun d hd => row_flat (hds d hd).2 (hds d hd).1
  have hprog : progD (.tup ds) = true := by
    rw [hee]
    refine prog_ok (m := (M : Nat)) (fun d hd => (hds d (by rw [hee]; exact hd)).1) (by rw [← hee, hlen]) (by rw [← hee]; omega) hlk
  have ra : RA C p s0 Dl zs ds H4 := ⟨t4, hz, iz⟩
  have hrw4 : ∀ d ∈ ds, RowW 4 d := fun d hd => (hds d hd).2
  have pgo : PgOk ["r"] (.tup ds) := ⟨by omega, fun e he => (hrw4 e he).nm (by decide)⟩
  refine ⟨_, rfl, Dl, zs, rfl, .inl ⟨SqL.of hz, fun q1 hq1 => ⟨.ref q1, .tup ds, rfl, .tup upd_same (iz.same (same_new hq1)), pgo, fun H6 s6 => ⟨_, _, rfl, rfl, _, rfl, ?_⟩⟩⟩⟩
  rw [hprog]
  have ra6 := ra.same ((same_new hq1).trans s6)
  refine bF rfl ⟨_, rfl, .ref Dl, .lst ds, rfl, .lst ra6.at_ ra6.is, trivial, fun H7 s7 => ⟨_, rfl, bF rfl ?_⟩⟩
  have ra7 := ra6.same s7
  refine ⟨6, rfl, by decide, by decide, ?_⟩
  refine for_it (walk_range (lo := 0) (n := 6)) (fun i σ H' => ∃ v4 v5 v6 v7 v8, σ = [some (.ref a), some (.ref p), some (.int (M : Nat)), some (.ref Dl), v4, v5, v6, v7, v8, none] ∧ RA C p s0 Dl zs ds H') ⟨none, none, none, none, none, rfl, ra7⟩ (fun _ _ _ _ _ => trivial) ?_ ?_
  · rintro i y σ H8 H9 hi ⟨v4, v5, v6, v7, v8, rfl, ra8⟩ ⟨rfl, rfl⟩
    refine ⟨_, rfl, ?_⟩
    refine ⟨_, rfl, p, s0, 2, rfl, ra8.t, by decide, by decide, fun Ha ra' ta oa a0 a1 => ⟨_, _, rfl, rfl, _, rfl, by omega, by omega, ?_⟩⟩
    have ra9 := ra8.go npD fl ta oa
    refine for_it (walk_range (lo := 0) (n := (1 + ra').toNat)) (fun j σ H' => ∃ v4 v5 lb xb db, σ = [some (.ref a), some (.ref p), some (.int (M : Nat)), some (.ref Dl), v4, v5, some (.ref lb), v7, v8, none] ∧ RA C p s0 Dl zs ds H' ∧ lb ≠ p ∧ H' lb = some (.lst xb) ∧ IsA C (nx [p] H') xb db ∧ (∀ d ∈ db, RowW (4 + j) d) ∧ db.length ≤ 24 + j) ⟨_, _, Dl, zs, ds, rfl, ra9, npD, ra9.at_, isA_nx ta.nt fl ra9.is, hrw4, by omega⟩ (fun _ _ _ _ _ => trivial) ?_ ?_
    · rintro j y σ Hb Hc' hj ⟨v4, v5, lb, xb, db, rfl, rb, nlb, hlb, ixb, hrb, hdb⟩ ⟨rfl, rfl⟩
      have hj2 : j < 2 := by omega
      refine ⟨_, rfl, (by show 0 ≤ sizeLine; decide), fun q0 hq0 => ?_⟩
      have sq := same_new (o := .lst []) hq0
      have eq0 : upd Hc' q0 (.lst []) q0 = some (.lst []) := upd_same
      have rb := rb.same sq
      have hlb := sq _ _ hlb
      have ixb := ixb.same (nx_same sq)
      generalize upd Hc' q0 (.lst []) = Hd at *
      obtain ⟨plb, dpb⟩ := rows_pln hrb
      have shp : SeqAt.shaped (.list (pydL db)) = true := pyd_shaped (d := .lst db) (by simp only [pln]; exact plb) (by simp only [dpt]; omega)
      refine ⟨.list (pydL db), .list [], .lst (SqL.of hlb) (isA_dp plb (ixb.same nx_le)), .lst (SqL.of eq0) .nil, shp, rfl, _, rfl, ?_⟩
      rw [eqv_nil]
      cases hem : db.isEmpty with
      | false =>
        have hpos : 0 < db.length := by cases db <;> simp at hem ⊢
        refine bT rfl ⟨_, rfl, _, rfl, p, s0, lb, xb, db, 4 + j, rfl, rb.t, nlb, hlb, ixb, hpos, by omega, by omega, by omega, hrb, fun He l' xs' ds' te oe nl' hl' ix' hr' hlen' => ?_⟩
        exact ⟨_, _, l', xs', ds', rfl, rb.go npD fl te oe, nl', hl', ix', hr', by omega⟩
      | true =>
        exact bF rfl ⟨_, _, lb, xb, db, rfl, rb, nlb, hlb, ixb, fun d hd => (hrb d hd).up (by omega), by omega⟩
    · rintro σ Hb ⟨v4, v5, lb, xb, db, rfl, rb, nlb, hlb, ixb, hrb, hdb⟩
      have hr2 : (1 + ra').toNat ≤ 2 := by omega
      refine ⟨_, rfl, lb, xb, rfl, .inl ⟨SqL.of hlb, fun q1 hq1 => ⟨.ref q1, .tup db, rfl, .tup upd_same ((ixb.same nx_le).same (same_new hq1)), ⟨by omega, fun e he => (hrb e he).nm (by omega)⟩, fun Hc' sc => ?_⟩⟩⟩
      have sc := (same_new (o := .tup xb) hq1).trans sc
      have rc := rb.same sc
      have hlb := sc _ _ hlb
      have ixb := (ixb.same nx_le).same sc
      refine ⟨_, rfl, _, .bl _, _, _, _, rfl, .bl _, .ty _, kitBo T _, _, rfl, bF rfl ?_⟩
      refine ⟨_, rfl, _, rfl, lb, xb, db, _, rfl, hlb, ixb, hrb, by omega, by omega, fun Hd sd => ⟨rfl, _, rfl, bF (by simp) ?_⟩⟩
      have rd := rc.same sd
      refine ⟨_, rfl, 2, 34, rfl, rfl, by unfold CPow; decide, p, s0, _, rfl, rd.t, by show (0 : Int) < 2 ^ (34 : Int).toNat; decide, by show (2 : Int) ^ (34 : Int).toNat < 2 ^ 60; decide, fun He re te oe b0 b1 => ?_⟩
      have b1 : re < 17179869184 := b1
      have ree := rd.go npD fl te oe
      refine ⟨2, 33, rfl, rfl, by unfold CPow; decide, _, _, rfl, rfl, 10, 12, rfl, rfl, by unfold CPow; decide, (by show 3 ≤ sizeLine; decide), fun u2 hu2 => ?_⟩
      have su2 := same_new (o := .tup [.int 1, .int 1, .int (10 ^ (12 : Int).toNat)]) hu2
      have eu2 : upd He u2 (.tup [.int 1, .int 1, .int (10 ^ (12 : Int).toNat)]) u2 = some (.tup [.int 1, .int 1, .int (10 ^ (12 : Int).toNat)]) := upd_same
      have npu2 := te.ne hu2
      have rf := ree.same su2
      generalize upd He u2 (.tup [.int 1, .int 1, .int (10 ^ (12 : Int).toNat)]) = Hf at *
      refine ⟨_, rfl, p, s0, 3, rfl, rf.t, by decide, by decide, fun Hg rg tg og c0 c1 => ?_⟩
      have rgg := rf.go npD fl tg og
      obtain ⟨cf, hcf⟩ : ∃ cf : Int, atI [V.int 1, .int 1, .int (10 ^ (12 : Int).toNat)] rg = some (.int cf) := by
        have : rg = 0 ∨ rg = 1 ∨ rg = 2 := by omega
        rcases this with rfl | rfl | rfl
        · exact ⟨1, atI_nat (j := 0) rfl⟩
        · exact ⟨1, atI_nat (j := 1) rfl⟩
        · exact ⟨_, atI_nat (j := 2) rfl⟩
      refine ⟨u2, _, rg, _, rfl, rfl, SqT.of (og _ _ eu2 npu2), hcf, _, _, rfl, rfl, .inl ⟨(by show -(2 ^ 64) < re - 8589934592; omega), (by show re - 8589934592 < 2 ^ 64; omega)⟩, ?_⟩
      refine ⟨_, rfl, (re - 2 ^ (33 : Int).toNat) * cf, rfl, ?_⟩
      obtain ⟨w1, w2, w3⟩ := wrapI_ok ((re - 2 ^ (33 : Int).toNat) * cf)
      refine ⟨2, 31, rfl, rfl, by unfold CPow; decide, _, rfl, _, rfl, _, _, rfl, rfl, _, rfl, ifT (by show -2147483648 ≤ wrapI ((re - 2 ^ (33 : Int).toNat) * cf); exact w1) ⟨2, 31, rfl, rfl, by unfold CPow; decide, _, _, rfl, rfl, _, rfl, ?_⟩⟩
      refine bF (notd (show wrapI ((re - 2 ^ (33 : Int).toNat) * cf) < 2 ^ (31 : Int).toNat from w2)) ?_
      refine ⟨_, rfl, _, rfl, _, _, rfl, rfl, .inl ⟨_, rfl, 2, 32, rfl, rfl, by unfold CPow; decide, _, _, rfl, rfl, (by show (0 : Int) < 2 ^ (32 : Int).toNat; decide), rfl, _, rfl, bF (notd (show V.int ((wrapI ((re - 2 ^ (33 : Int).toNat) * cf) - (re - 2 ^ (33 : Int).toNat) * cf) % 2 ^ (32 : Int).toNat) = V.int 0 from congrArg V.int w3)) ?_⟩⟩
      exact ⟨_, _, _, _, _, rfl, rgg⟩
  · rintro σ H8 ⟨v4, v5, v6, v7, v8, rfl, ra8⟩
    refine ⟨(by show 0 ≤ sizeLine; decide), fun p1 h1 => ?_⟩
    have e1 : upd H8 p1 (.tup []) p1 = some (.tup []) := upd_same
    generalize upd H8 p1 (.tup []) = Ha at *
    refine ⟨(by show 0 ≤ sizeLine; decide), fun p2 h2 => ⟨(by show 1 ≤ sizeLine; decide), fun p3 h3 => ?_⟩⟩
    have e2 : upd Ha p2 (.tup []) p2 = some (.tup []) := upd_same
    have s2 := same_new (o := .tup []) h2
    generalize upd Ha p2 (.tup []) = Hb at *
    have e3 : upd Hb p3 (.tup [.ref p2]) p3 = some (.tup [.ref p2]) := upd_same
    have s3 := same_new (o := .tup [.ref p2]) h3
    generalize upd Hb p3 (.tup [.ref p2]) = Hc' at *
    refine ⟨(by show 1 ≤ sizeLine; decide), fun p4 h4 => ⟨(by show 1 ≤ sizeLine; decide), fun p5 h5 => ?_⟩⟩
    have e4 : upd Hc' p4 (.tup [.str "end"]) p4 = some (.tup [.str "end"]) := upd_same
    have s4 := same_new (o := .tup [.str "end"]) h4
    generalize upd Hc' p4 (.tup [.str "end"]) = Hd at *
    have e5 : upd Hd p5 (.lst [.ref p4]) p5 = some (.lst [.ref p4]) := upd_same
    have s5 := same_new (o := .lst [.ref p4]) h5
    generalize upd Hd p5 (.lst [.ref p4]) = He at *
    refine ⟨(by show 6 ≤ sizeLine; decide), fun v hv => ?_⟩
    have ev : upd He v (.tup [.non, .ref p1, .str "", .int 5, .ref p3, .ref p5]) v = some (.tup [.non, .ref p1, .str "", .int 5, .ref p3, .ref p5]) := upd_same
    have sv := same_new (o := .tup [.non, .ref p1, .str "", .int 5, .ref p3, .ref p5]) hv
    generalize upd He v (.tup [.non, .ref p1, .str "", .int 5, .ref p3, .ref p5]) = Hf at *
    have u5 := s5.trans sv
    have u4 := s4.trans u5
    have u3 := s3.trans u4
    have u2 := s2.trans u3
    have ix : IsA C Hf [.non, .ref p1, .str "", .int 5, .ref p3, .ref p5] [.non, .tup [], .str "", .int 5, .tup [.tup []], .lst [.tup [.str "end"]]] :=
      .cons .non (.cons (.tup (u2 _ _ e1) .nil) (.cons (.str _) (.cons (.int _) (.cons (.tup (u4 _ _ e3) (.cons (.tup (u3 _ _ e2) .nil) .nil)) (.cons (.lst (sv _ _ e5) (.cons (.tup (u5 _ _ e4) (.cons (.str _) .nil)) .nil)) .nil)))))
    have hbad : ∀ d ∈ [D.non, .tup [], .str "", .int 5, .tup [.tup []], .lst [.tup [.str "end"]]], PgOk ["r"] d ∧ progD d = false := by
      intro d hd
      simp only [List.mem_cons, List.not_mem_nil, or_false] at hd
      rcases hd with rfl | rfl | rfl | rfl | rfl | rfl
      · exact ⟨trivial, rfl⟩
      · exact ⟨⟨by decide, fun e he => nomatch he⟩, rfl⟩
      · exact ⟨trivial, rfl⟩
      · exact ⟨trivial, rfl⟩
      · exact ⟨⟨by decide, fun e he => by rw [List.mem_singleton.mp he]; trivial⟩, rfl⟩
      · exact ⟨trivial, rfl⟩
    refine ⟨v, rfl, ⟨_, SqT.of ev⟩, for_it (walk_tup (xs := [.non, .ref p1, .str "", .int 5, .ref p3, .ref p5])) (fun i σ H' => ∃ v9, σ = [some (.ref a), some (.ref p), some (.int (M : Nat)), some (.ref Dl), v4, v5, v6, v7, v8, v9] ∧ Same Hf H') ⟨none, rfl, Same.refl Hf⟩ (fun i σ H1 _ h => by obtain ⟨_, _, s⟩ := h; exact SqT.of (s _ _ ev)) ?_ ?_⟩
    · rintro i y σ H9 Hg hi ⟨v9, rfl, sg⟩ ⟨rfl, hy⟩
      obtain ⟨d, hd, hyd⟩ := ix.at hy
      obtain ⟨hp1, hp2⟩ := hbad d (List.mem_of_getElem? hd)
      refine ⟨_, rfl, y, d, rfl, hyd.same sg, hp1, fun Hh sh => ⟨_, _, rfl, rfl, _, rfl, bF (by rw [hp2]; rfl) ?_⟩⟩
      exact ⟨_, rfl, sg.trans sh⟩
    · rintro σ H9 ⟨v9, rfl, sg⟩
      refine ⟨(by show 2 ≤ sizeLine; decide), fun r1 k1 => ?_⟩
      have f1 : upd H9 r1 (.tup [.int 1, .str "b"]) r1 = some (.tup [.int 1, .str "b"]) := upd_same
      generalize upd H9 r1 (.tup [.int 1, .str "b"]) = Hg at *
      refine ⟨_, rfl, (by show 4 ≤ sizeLine; decide), fun r2 k2 => ?_⟩
      have f2 : upd Hg r2 (.tup [.int 0, .str "a", .ref r1, .int (-5)]) r2 = some (.tup [.int 0, .str "a", .ref r1, .int (-5)]) := upd_same
      have g2 := same_new (o := .tup [.int 0, .str "a", .ref r1, .int (-5)]) k2
      refine ⟨.ref r2, .tup [.int 0, .str "a", .tup [.int 1, .str "b"], .int (-5)], rfl, .tup f2 (.cons (.int _) (.cons (.str _) (.cons (.tup (g2 _ _ f1) (.cons (.int _) (.cons (.str _) .nil))) (.cons (.int _) .nil)))), ?_, fun Hh sh => ⟨_, _, rfl, rfl, _, rfl, bT (by decide +kernel) ?_⟩⟩
      · refine ⟨by simp only [sz, szL]; decide, ?_⟩
        simp only [txl, txlL]
        exact ⟨trivial, small1000 (by decide) |> Nat.le_of_lt, ⟨trivial, small1000 (by decide) |> Nat.le_of_lt, trivial⟩, trivial, trivial⟩
      refine ⟨(by show 4 ≤ sizeLine; decide), fun r3 k3 => ?_⟩
      refine ⟨.ref r3, .lst [.int 0, .int 0, .int 0, .int 0], rfl, .lst upd_same (.cons (.int _) (.cons (.int _) (.cons (.int _) (.cons (.int _) .nil)))), ⟨by simp only [sz, szL]; decide, by simp only [txl, txlL]; simp⟩, fun Hi si => ⟨_, rfl, _, rfl, bT rfl ?_⟩⟩
      refine ⟨(by show 3 ≤ sizeLine; decide), fun r4 k4 => ?_⟩
      refine ⟨.ref r4, .tup [.int 0, .int 0, .int 0], rfl, .tup upd_same (.cons (.int _) (.cons (.int _) (.cons (.int _) .nil))), ⟨by simp only [sz, szL]; decide, by simp only [txl, txlL]; simp⟩, fun Hj sj => ⟨_, rfl, ?_⟩⟩
      exact q Hj
end
end Hc

namespace Hc
open PySem PySem.Spec PyProof.Rows L2 Hr
theorem all_mk {l : PySem.W.OpenLaw} {w : World} {K : PySem.W.Frag} {h : Heap} {mg : Str → Option Value} {fa C Fo tt1 tt2 tt3 tt4 tt5 tt6 tt7 tt8 tt9 tt10 tt11 tt12 f1 f2 f3 f4 f5 f6 f7 f8 f9 f10 f11 f12 f13 f14 f15 f16 f17 f18 f19 f20 : Addr} (X : K.In h) (G : h.Ns mainGlobals mg) (hfa : mg "law" = some (.ref fa))
    {od1 od2 od3 od4 od5 od6 od7 od8 od9 od10 od11 od12 od13 od14 od15 od16 od17 od18 od19 od20 an1 an2 an3 an4 an5 an6 an7 an8 an9 an10 an11 an12 an13 an14 an15 an16 an17 an18 an19 an20 : Option Addr} {sl1 sl2 sl3 sl4 sl5 sl6 sl7 sl8 sl9 sl10 sl11 sl12 sl13 sl14 sl15 sl16 sl17 sl18 sl19 sl20 : Array (Option Value)} {oc1 oc2 oc3 oc4 oc5 oc6 oc7 oc8 oc9 oc10 oc11 oc12 oc13 oc14 oc15 oc16 oc17 oc18 oc19 oc20 kV1 kV2 kV3 kV4 kV5 kV6 kV7 kV8 kV9 kV10 kV11 kV12 kV13 kV14 kV15 kV16 kV17 kV18 kV19 kV20 dc1 dc2 dc3 dc4 dc5 dc6 dc7 dc8 dc9 dc10 dc11 dc12 dc13 dc14 dc15 dc16 dc17 dc18 dc19 dc20 pm1 pm2 pm3 pm4 pm5 pm6 pm7 pm8 pm9 pm10 pm11 pm12 pm13 pm14 pm15 pm16 pm17 pm18 pm19 pm20 cd1 cd2 cd3 cd4 cd5 cd6 cd7 cd8 cd9 cd10 cd11 cd12 cd13 cd14 cd15 cd16 cd17 cd18 cd19 cd20 ct1 ct2 ct3 ct4 ct5 ct6 ct7 ct8 ct9 ct10 ct11 ct12 ct13 ct14 ct15 ct16 ct17 ct18 ct19 ct20 : Value}
    {tLEAST tGREATEST tMOST_CHARACTERS tMOST_DEEP_HOST tMOST_RANK_HOST tMOST_INSTRUCTIONS tREGISTERS : Tok} {esF : Array DictEntry} {nF : Nat}
    {utt1_0 utt1_1 utt2_0 utt2_1 utt3_0 utt3_1 utt3_2 utt4_0 utt4_1 utt4_2 utt5_0 utt5_1 utt5_2 utt6_0 utt6_1 utt7_0 utt8_0 utt8_1 utt8_2 utt9_0 utt9_1 utt9_2 utt10_0 utt10_1 utt11_0 utt11_1 : Tok} {ntt1 ntt2 ntt3 ntt4 ntt5 ntt6 ntt7 ntt8 ntt9 ntt10 ntt11 ntt12 : Nat} {dtt1 dtt2 dtt3 dtt4 dtt5 dtt6 dtt7 dtt8 dtt9 dtt10 dtt11 dtt12 : Option Addr} {stt1 stt2 stt3 stt4 stt5 stt6 stt7 stt8 stt9 stt10 stt11 stt12 : Array (Option Value)}
    (a1 : PySem.W.nsIn K mainGlobals "is_number" = some (some (.ref f1)))
    (l1 : K.lookup f1 = some ⟨oc1, od1, .func (PySem.W.fnOf "is_number" "is_number" (C8.fnArgs s_is_number) (C8.fnBody s_is_number) (C8.fnScope s_is_number) .none kV1 dc1 pm1 an1 cd1 ct1), sl1⟩)
    (c1 : PySem.W.codeIn K cd1 "is_number" = true)
    (k1 : PySem.W.keepIn K (.ref f1) = true)
    (a2 : PySem.W.nsIn K mainGlobals "is_text" = some (some (.ref f2)))
    (l2 : K.lookup f2 = some ⟨oc2, od2, .func (PySem.W.fnOf "is_text" "is_text" (C8.fnArgs s_is_text) (C8.fnBody s_is_text) (C8.fnScope s_is_text) .none kV2 dc2 pm2 an2 cd2 ct2), sl2⟩)
    (c2 : PySem.W.codeIn K cd2 "is_text" = true)
    (k2 : PySem.W.keepIn K (.ref f2) = true)
    (a3 : PySem.W.nsIn K mainGlobals "_is_within" = some (some (.ref f3)))
    (l3 : K.lookup f3 = some ⟨oc3, od3, .func (PySem.W.fnOf "_is_within" "_is_within" (C8.fnArgs s__is_within) (C8.fnBody s__is_within) (C8.fnScope s__is_within) .none kV3 dc3 pm3 an3 cd3 ct3), sl3⟩)
    (c3 : PySem.W.codeIn K cd3 "_is_within" = true)
    (k3 : PySem.W.keepIn K (.ref f3) = true)
    (a4 : PySem.W.nsIn K mainGlobals "is_host_word" = some (some (.ref f4)))
    (l4 : K.lookup f4 = some ⟨oc4, od4, .func (PySem.W.fnOf "is_host_word" "is_host_word" (C8.fnArgs s_is_host_word) (C8.fnBody s_is_host_word) (C8.fnScope s_is_host_word) .none kV4 dc4 pm4 an4 cd4 ct4), sl4⟩)
    (c4 : PySem.W.codeIn K cd4 "is_host_word" = true)
    (k4 : PySem.W.keepIn K (.ref f4) = true)
    (a5 : PySem.W.nsIn K mainGlobals "has_name" = some (some (.ref f5)))
    (l5 : K.lookup f5 = some ⟨oc5, od5, .func (PySem.W.fnOf "has_name" "has_name" (C8.fnArgs s_has_name) (C8.fnBody s_has_name) (C8.fnScope s_has_name) .none kV5 dc5 pm5 an5 cd5 ct5), sl5⟩)
    (c5 : PySem.W.codeIn K cd5 "has_name" = true)
    (k5 : PySem.W.keepIn K (.ref f5) = true)
    (a6 : PySem.W.nsIn K mainGlobals "has_form_machine" = some (some (.ref f6)))
    (l6 : K.lookup f6 = some ⟨oc6, od6, .func (PySem.W.fnOf "_has_form" "_has_form" (C8.fnArgs s__has_form) (C8.fnBody s__has_form) (C8.fnScope s__has_form) .none kV6 dc6 pm6 an6 cd6 ct6), sl6⟩)
    (c6 : PySem.W.codeIn K cd6 "_has_form" = true)
    (k6 : PySem.W.keepIn K (.ref f6) = true)
    (a7 : PySem.W.nsIn K mainGlobals "_is_instruction" = some (some (.ref f7)))
    (l7 : K.lookup f7 = some ⟨oc7, od7, .func (PySem.W.fnOf "_is_instruction" "_is_instruction" (C8.fnArgs s__is_instruction) (C8.fnBody s__is_instruction) (C8.fnScope s__is_instruction) .none kV7 dc7 pm7 an7 cd7 ct7), sl7⟩)
    (c7 : PySem.W.codeIn K cd7 "_is_instruction" = true)
    (k7 : PySem.W.keepIn K (.ref f7) = true)
    (a8 : PySem.W.nsIn K mainGlobals "is_registers" = some (some (.ref f8)))
    (l8 : K.lookup f8 = some ⟨oc8, od8, .func (PySem.W.fnOf "is_registers" "is_registers" (C8.fnArgs s_is_registers) (C8.fnBody s_is_registers) (C8.fnScope s_is_registers) .none kV8 dc8 pm8 an8 cd8 ct8), sl8⟩)
    (c8 : PySem.W.codeIn K cd8 "is_registers" = true)
    (k8 : PySem.W.keepIn K (.ref f8) = true)
    (a9 : PySem.W.nsIn K mainGlobals "wrapped" = some (some (.ref f9)))
    (l9 : K.lookup f9 = some ⟨oc9, od9, .func (PySem.W.fnOf "wrapped" "wrapped" (C8.fnArgs s_wrapped) (C8.fnBody s_wrapped) (C8.fnScope s_wrapped) .none kV9 dc9 pm9 an9 cd9 ct9), sl9⟩)
    (c9 : PySem.W.codeIn K cd9 "wrapped" = true)
    (k9 : PySem.W.keepIn K (.ref f9) = true)
    (a10 : PySem.W.nsIn K mainGlobals "is_program" = some (some (.ref f10)))
    (l10 : K.lookup f10 = some ⟨oc10, od10, .func (PySem.W.fnOf "is_program" "is_program" (C8.fnArgs s_is_program) (C8.fnBody s_is_program) (C8.fnScope s_is_program) .none kV10 dc10 pm10 an10 cd10 ct10), sl10⟩)
    (c10 : PySem.W.codeIn K cd10 "is_program" = true)
    (k10 : PySem.W.keepIn K (.ref f10) = true)
    (a11 : PySem.W.nsIn K mainGlobals "_law_next" = some (some (.ref f11)))
    (l11 : K.lookup f11 = some ⟨oc11, od11, .func (PySem.W.fnOf "_law_next" "_law_next" (C8.fnArgs s__law_next) (C8.fnBody s__law_next) (C8.fnScope s__law_next) .none kV11 dc11 pm11 an11 cd11 ct11), sl11⟩)
    (c11 : PySem.W.codeIn K cd11 "_law_next" = true)
    (k11 : PySem.W.keepIn K (.ref f11) = true)
    (a12 : PySem.W.nsIn K mainGlobals "_law_forms" = some (some (.ref f12)))
    (l12 : K.lookup f12 = some ⟨oc12, od12, .func (PySem.W.fnOf "_law_forms" "_law_forms" (C8.fnArgs s__law_forms) (C8.fnBody s__law_forms) (C8.fnScope s__law_forms) .none kV12 dc12 pm12 an12 cd12 ct12), sl12⟩)
    (c12 : PySem.W.codeIn K cd12 "_law_forms" = true)
    (k12 : PySem.W.keepIn K (.ref f12) = true)
    (a13 : PySem.W.nsIn K mainGlobals "_law_part" = some (some (.ref f13)))
    (l13 : K.lookup f13 = some ⟨oc13, od13, .func (PySem.W.fnOf "_law_part" "_law_part" (C8.fnArgs s__law_part) (C8.fnBody s__law_part) (C8.fnScope s__law_part) .none kV13 dc13 pm13 an13 cd13 ct13), sl13⟩)
    (c13 : PySem.W.codeIn K cd13 "_law_part" = true)
    (k13 : PySem.W.keepIn K (.ref f13) = true)
    (a14 : PySem.W.nsIn K mainGlobals "_law_row" = some (some (.ref f14)))
    (l14 : K.lookup f14 = some ⟨oc14, od14, .func (PySem.W.fnOf "_law_row" "_law_row" (C8.fnArgs s__law_row) (C8.fnBody s__law_row) (C8.fnScope s__law_row) .none kV14 dc14 pm14 an14 cd14 ct14), sl14⟩)
    (c14 : PySem.W.codeIn K cd14 "_law_row" = true)
    (k14 : PySem.W.keepIn K (.ref f14) = true)
    (a15 : PySem.W.nsIn K mainGlobals "_law_bent" = some (some (.ref f15)))
    (l15 : K.lookup f15 = some ⟨oc15, od15, .func (PySem.W.fnOf "_law_bent" "_law_bent" (C8.fnArgs s__law_bent) (C8.fnBody s__law_bent) (C8.fnScope s__law_bent) .none kV15 dc15 pm15 an15 cd15 ct15), sl15⟩)
    (c15 : PySem.W.codeIn K cd15 "_law_bent" = true)
    (k15 : PySem.W.keepIn K (.ref f15) = true)
    (a16 : PySem.W.nsIn K mainGlobals "_law_number" = some (some (.ref f16)))
    (l16 : K.lookup f16 = some ⟨oc16, od16, .func (PySem.W.fnOf "_law_number" "_law_number" (C8.fnArgs s__law_number) (C8.fnBody s__law_number) (C8.fnScope s__law_number) .none kV16 dc16 pm16 an16 cd16 ct16), sl16⟩)
    (c16 : PySem.W.codeIn K cd16 "_law_number" = true)
    (k16 : PySem.W.keepIn K (.ref f16) = true)
    (a17 : PySem.W.nsIn K mainGlobals "_law_fits" = some (some (.ref f17)))
    (l17 : K.lookup f17 = some ⟨oc17, od17, .func (PySem.W.fnOf "_law_fits" "_law_fits" (C8.fnArgs s__law_fits) (C8.fnBody s__law_fits) (C8.fnScope s__law_fits) .none kV17 dc17 pm17 an17 cd17 ct17), sl17⟩)
    (c17 : PySem.W.codeIn K cd17 "_law_fits" = true)
    (k17 : PySem.W.keepIn K (.ref f17) = true)
    (a18 : PySem.W.nsIn K mainGlobals "_law_is_row" = some (some (.ref f18)))
    (l18 : K.lookup f18 = some ⟨oc18, od18, .func (PySem.W.fnOf "_law_is_row" "_law_is_row" (C8.fnArgs s__law_is_row) (C8.fnBody s__law_is_row) (C8.fnScope s__law_is_row) .none kV18 dc18 pm18 an18 cd18 ct18), sl18⟩)
    (c18 : PySem.W.codeIn K cd18 "_law_is_row" = true)
    (k18 : PySem.W.keepIn K (.ref f18) = true)
    (a19 : PySem.W.nsIn K mainGlobals "_law_due" = some (some (.ref f19)))
    (l19 : K.lookup f19 = some ⟨oc19, od19, .func (PySem.W.fnOf "_law_due" "_law_due" (C8.fnArgs s__law_due) (C8.fnBody s__law_due) (C8.fnScope s__law_due) .none kV19 dc19 pm19 an19 cd19 ct19), sl19⟩)
    (c19 : PySem.W.codeIn K cd19 "_law_due" = true)
    (k19 : PySem.W.keepIn K (.ref f19) = true)
    (a20 : PySem.W.nsIn K mainGlobals "law" = some (some (.ref f20)))
    (l20 : K.lookup f20 = some ⟨oc20, od20, .func (PySem.W.fnOf "law" "law" (C8.fnArgs s_law) (C8.fnBody s_law) (C8.fnScope s_law) .none kV20 dc20 pm20 an20 cd20 ct20), sl20⟩)
    (c20 : PySem.W.codeIn K cd20 "law" = true)
    (k20 : PySem.W.keepIn K (.ref f20) = true)
    (aC : PySem.W.nsIn K mainGlobals "Atom" = some (some (.ref C)))
    (pgC : PySem.W.plainGet K C Str.empty = true)
    (hdC : PySem.W.hasDictIn K C = true)
    (poC : PySem.W.plainOver K C = true)
    (saC : PySem.W.findIn K (.ref C) "__setattr__" = some (some (.builtin "object.__setattr__")))
    (mkC : PySem.W.makesIn K C = true)
    (ha : PySem.W.findIn K (.ref C) "__class__" = some (some (.builtin "object.__class__")))
    (hn : PySem.W.specialIn K (.builtin "object.__class__") "__get__" = some (some (.builtin "getset_descriptor.__get__")))
    (htk : PySem.W.takesIn K (.builtin "object.__class__") = some true)
    (hm : PySem.W.mroIn K C (.type "object") = some true)
    (me : PySem.W.kitOne K (.ref C) (.ref C) = some true)
    (nakind : PySem.W.findIn K (.ref C) "kind" = some none)
    (naterm : PySem.W.findIn K (.ref C) "term" = some none)
    (narank : PySem.W.findIn K (.ref C) "rank" = some none)
    (qint : PySem.W.kitOne K (.ref C) (.type "int") = some false)
    (qstr : PySem.W.kitOne K (.ref C) (.type "str") = some false)
    (qtuple : PySem.W.kitOne K (.ref C) (.type "tuple") = some false)
    (qbool : PySem.W.kitOne K (.ref C) (.type "bool") = some false)
    (qlist : PySem.W.kitOne K (.ref C) (.type "list") = some false)
    (qdict : PySem.W.kitOne K (.ref C) (.type "dict") = some false)
    (rNoneType : PySem.W.kitOne K (.type "NoneType") (.ref C) = some false)
    (rbool : PySem.W.kitOne K (.type "bool") (.ref C) = some false)
    (rint : PySem.W.kitOne K (.type "int") (.ref C) = some false)
    (rstr : PySem.W.kitOne K (.type "str") (.ref C) = some false)
    (rtuple : PySem.W.kitOne K (.type "tuple") (.ref C) = some false)
    (rlist : PySem.W.kitOne K (.type "list") (.ref C) = some false)
    (rdict : PySem.W.kitOne K (.type "dict") (.ref C) = some false)
    (nLEAST : PySem.W.nsIn K mainGlobals "LEAST" = some (some (.int (-2147483648) tLEAST)))
    (nGREATEST : PySem.W.nsIn K mainGlobals "GREATEST" = some (some (.int (2147483647) tGREATEST)))
    (nMOST_CHARACTERS : PySem.W.nsIn K mainGlobals "MOST_CHARACTERS" = some (some (.int (24) tMOST_CHARACTERS)))
    (nMOST_DEEP_HOST : PySem.W.nsIn K mainGlobals "MOST_DEEP_HOST" = some (some (.int (10) tMOST_DEEP_HOST)))
    (nMOST_RANK_HOST : PySem.W.nsIn K mainGlobals "MOST_RANK_HOST" = some (some (.int (36) tMOST_RANK_HOST)))
    (nMOST_INSTRUCTIONS : PySem.W.nsIn K mainGlobals "MOST_INSTRUCTIONS" = some (some (.int (24) tMOST_INSTRUCTIONS)))
    (nREGISTERS : PySem.W.nsIn K mainGlobals "REGISTERS" = some (some (.int (4) tREGISTERS)))
    (ztype : PySem.W.nsIn K mainGlobals "type" = some none)
    (zint : PySem.W.nsIn K mainGlobals "int" = some none)
    (zstr : PySem.W.nsIn K mainGlobals "str" = some none)
    (zbool : PySem.W.nsIn K mainGlobals "bool" = some none)
    (ztuple : PySem.W.nsIn K mainGlobals "tuple" = some none)
    (zlist : PySem.W.nsIn K mainGlobals "list" = some none)
    (zrange : PySem.W.nsIn K mainGlobals "range" = some none)
    (zzip : PySem.W.nsIn K mainGlobals "zip" = some none)
    (zlen : PySem.W.nsIn K mainGlobals "len" = some none)
    (zall : PySem.W.nsIn K mainGlobals "all" = some none)
    (zisinstance : PySem.W.nsIn K mainGlobals "isinstance" = some none)
    (zabs : PySem.W.nsIn K mainGlobals "abs" = some none)
    (aF : PySem.W.nsIn K mainGlobals "FORMS_machine" = some (some (.ref Fo)))
    (lF : K.lookup Fo = some ⟨.type "dict", none, .dict esF nF, #[]⟩)
    (kF : PySem.W.KeysLit w.params esF.toList)
    (oF : (Fo == sysModules) = false)
    (vtt1 : PySem.W.nsIn K Fo "set" = some (some (.ref tt1)))
    (wtt1 : K.lookup tt1 = some ⟨.type "tuple", dtt1, .seq #[.str "register" utt1_0, .str "number" utt1_1] ntt1, stt1⟩)
    (vtt2 : PySem.W.nsIn K Fo "copy" = some (some (.ref tt2)))
    (wtt2 : K.lookup tt2 = some ⟨.type "tuple", dtt2, .seq #[.str "register" utt2_0, .str "register" utt2_1] ntt2, stt2⟩)
    (vtt3 : PySem.W.nsIn K Fo "add" = some (some (.ref tt3)))
    (wtt3 : K.lookup tt3 = some ⟨.type "tuple", dtt3, .seq #[.str "register" utt3_0, .str "register" utt3_1, .str "register" utt3_2] ntt3, stt3⟩)
    (vtt4 : PySem.W.nsIn K Fo "less" = some (some (.ref tt4)))
    (wtt4 : K.lookup tt4 = some ⟨.type "tuple", dtt4, .seq #[.str "register" utt4_0, .str "register" utt4_1, .str "register" utt4_2] ntt4, stt4⟩)
    (vtt5 : PySem.W.nsIn K Fo "same" = some (some (.ref tt5)))
    (wtt5 : K.lookup tt5 = some ⟨.type "tuple", dtt5, .seq #[.str "register" utt5_0, .str "register" utt5_1, .str "register" utt5_2] ntt5, stt5⟩)
    (vtt6 : PySem.W.nsIn K Fo "zero" = some (some (.ref tt6)))
    (wtt6 : K.lookup tt6 = some ⟨.type "tuple", dtt6, .seq #[.str "register" utt6_0, .str "place" utt6_1] ntt6, stt6⟩)
    (vtt7 : PySem.W.nsIn K Fo "jump" = some (some (.ref tt7)))
    (wtt7 : K.lookup tt7 = some ⟨.type "tuple", dtt7, .seq #[.str "place" utt7_0] ntt7, stt7⟩)
    (vtt8 : PySem.W.nsIn K Fo "load" = some (some (.ref tt8)))
    (wtt8 : K.lookup tt8 = some ⟨.type "tuple", dtt8, .seq #[.str "register" utt8_0, .str "register" utt8_1, .str "register" utt8_2] ntt8, stt8⟩)
    (vtt9 : PySem.W.nsIn K Fo "store" = some (some (.ref tt9)))
    (wtt9 : K.lookup tt9 = some ⟨.type "tuple", dtt9, .seq #[.str "register" utt9_0, .str "register" utt9_1, .str "register" utt9_2] ntt9, stt9⟩)
    (vtt10 : PySem.W.nsIn K Fo "tell" = some (some (.ref tt10)))
    (wtt10 : K.lookup tt10 = some ⟨.type "tuple", dtt10, .seq #[.str "register" utt10_0, .str "register" utt10_1] ntt10, stt10⟩)
    (vtt11 : PySem.W.nsIn K Fo "token" = some (some (.ref tt11)))
    (wtt11 : K.lookup tt11 = some ⟨.type "tuple", dtt11, .seq #[.str "register" utt11_0, .str "register" utt11_1] ntt11, stt11⟩)
    (vtt12 : PySem.W.nsIn K Fo "end" = some (some (.ref tt12)))
    (wtt12 : K.lookup tt12 = some ⟨.type "tuple", dtt12, .seq #[] ntt12, stt12⟩)
    (vr : PySem.W.nsIn K Fo "r" = some none)
    : ∃ fd : FuncData, (∀ (s : Shared) (v : Value), BindsTo s fd ⟨[v], []⟩ [("script", v)]) ∧ ∀ base : Heap, K.In base → base.Ns mainGlobals mg → FnOk l.prog w K mg base C8.CX0 5 fa fd ["script"] (spLaw K) := by
  have e := hfa.symm.trans (PySem.W.mg_of X G a20)
  cases e
  have clsC : Cls K C := ⟨pgC, hdC, poC, saC⟩
  have cl : Cl K C := ⟨clsC, ha, hn, htk, hm, me, mkC, nakind, naterm, narank⟩
  have kttt1 : KTup K tt1 ["register", "number"] := fun H => .inr ⟨_, _, _, wtt1, rfl, rfl, (by show 2 ≤ sizeLine; decide), (.cons ⟨_, rfl⟩ (.cons ⟨_, rfl⟩ .nil))⟩
  have kttt2 : KTup K tt2 ["register", "register"] := fun H => .inr ⟨_, _, _, wtt2, rfl, rfl, (by show 2 ≤ sizeLine; decide), (.cons ⟨_, rfl⟩ (.cons ⟨_, rfl⟩ .nil))⟩
  have kttt3 : KTup K tt3 ["register", "register", "register"] := fun H => .inr ⟨_, _, _, wtt3, rfl, rfl, (by show 3 ≤ sizeLine; decide), (.cons ⟨_, rfl⟩ (.cons ⟨_, rfl⟩ (.cons ⟨_, rfl⟩ .nil)))⟩
  have kttt4 : KTup K tt4 ["register", "register", "register"] := fun H => .inr ⟨_, _, _, wtt4, rfl, rfl, (by show 3 ≤ sizeLine; decide), (.cons ⟨_, rfl⟩ (.cons ⟨_, rfl⟩ (.cons ⟨_, rfl⟩ .nil)))⟩
  have kttt5 : KTup K tt5 ["register", "register", "register"] := fun H => .inr ⟨_, _, _, wtt5, rfl, rfl, (by show 3 ≤ sizeLine; decide), (.cons ⟨_, rfl⟩ (.cons ⟨_, rfl⟩ (.cons ⟨_, rfl⟩ .nil)))⟩
  have kttt6 : KTup K tt6 ["register", "place"] := fun H => .inr ⟨_, _, _, wtt6, rfl, rfl, (by show 2 ≤ sizeLine; decide), (.cons ⟨_, rfl⟩ (.cons ⟨_, rfl⟩ .nil))⟩
  have kttt7 : KTup K tt7 ["place"] := fun H => .inr ⟨_, _, _, wtt7, rfl, rfl, (by show 1 ≤ sizeLine; decide), (.cons ⟨_, rfl⟩ .nil)⟩
  have kttt8 : KTup K tt8 ["register", "register", "register"] := fun H => .inr ⟨_, _, _, wtt8, rfl, rfl, (by show 3 ≤ sizeLine; decide), (.cons ⟨_, rfl⟩ (.cons ⟨_, rfl⟩ (.cons ⟨_, rfl⟩ .nil)))⟩
  have kttt9 : KTup K tt9 ["register", "register", "register"] := fun H => .inr ⟨_, _, _, wtt9, rfl, rfl, (by show 3 ≤ sizeLine; decide), (.cons ⟨_, rfl⟩ (.cons ⟨_, rfl⟩ (.cons ⟨_, rfl⟩ .nil)))⟩
  have kttt10 : KTup K tt10 ["register", "register"] := fun H => .inr ⟨_, _, _, wtt10, rfl, rfl, (by show 2 ≤ sizeLine; decide), (.cons ⟨_, rfl⟩ (.cons ⟨_, rfl⟩ .nil))⟩
  have kttt11 : KTup K tt11 ["register", "register"] := fun H => .inr ⟨_, _, _, wtt11, rfl, rfl, (by show 2 ≤ sizeLine; decide), (.cons ⟨_, rfl⟩ (.cons ⟨_, rfl⟩ .nil))⟩
  have kttt12 : KTup K tt12 [] := fun H => .inr ⟨_, _, _, wtt12, rfl, rfl, (by show 0 ≤ sizeLine; decide), .nil⟩
  have kit : ∀ (d : D) (n : String), n ∈ ["int", "str", "tuple", "bool", "list", "dict"] → PySem.W.kitOne K (kyU C d) (.type n) = some (match d with | .int _ => n == "int" | .bl _ => n == "int" || n == "bool" | .str _ => n == "str" | .tup _ => n == "tuple" | .lst _ => n == "list" | .dct => n == "dict" | _ => false) := fun d n hn => by
    simp only [List.mem_cons, List.not_mem_nil, or_false] at hn
    rcases hn with rfl | rfl | rfl | rfl | rfl | rfl <;> cases d <;> dsimp only [kyU] <;> first
      | exact kit_ty (by decide +kernel)
      | exact qint
      | exact qstr
      | exact qtuple
      | exact qbool
      | exact qlist
      | exact qdict
  have kitC : ∀ d : D, PySem.W.kitOne K (kyU C d) (.ref C) = some (match d with | .atom _ _ => true | _ => false) := fun d => by
    cases d <;> first
      | exact me
      | exact rNoneType
      | exact rbool
      | exact rint
      | exact rstr
      | exact rtuple
      | exact rlist
      | exact rdict
  have KD : KDict K w Fo esF nF := ⟨lF, kF, oF⟩
  have KF : KForms K mg w "FORMS_machine" progF ["r"] := ⟨Fo, esF, nF, ⟨_, PySem.W.mg_of X G aF, rfl⟩, KD, fun p hp => by
    simp only [progF, List.mem_cons, List.not_mem_nil, or_false] at hp
    rcases hp with rfl | rfl | rfl | rfl | rfl | rfl | rfl | rfl | rfl | rfl | rfl | rfl
    · exact ⟨tt1, vtt1, kttt1⟩
    · exact ⟨tt2, vtt2, kttt2⟩
    · exact ⟨tt3, vtt3, kttt3⟩
    · exact ⟨tt4, vtt4, kttt4⟩
    · exact ⟨tt5, vtt5, kttt5⟩
    · exact ⟨tt6, vtt6, kttt6⟩
    · exact ⟨tt7, vtt7, kttt7⟩
    · exact ⟨tt8, vtt8, kttt8⟩
    · exact ⟨tt9, vtt9, kttt9⟩
    · exact ⟨tt10, vtt10, kttt10⟩
    · exact ⟨tt11, vtt11, kttt11⟩
    · exact ⟨tt12, vtt12, kttt12⟩, fun k hk => by
    rw [List.mem_singleton.mp hk]; exact vr⟩
  have T : Txt K mg w C := ⟨cl, PySem.W.mg_of X G aC, PySem.W.mg_none_of X G ztype, PySem.W.mg_none_of X G zint, PySem.W.mg_none_of X G zstr, PySem.W.mg_none_of X G zbool, PySem.W.mg_none_of X G ztuple, PySem.W.mg_none_of X G zlist, PySem.W.mg_none_of X G zrange, PySem.W.mg_none_of X G zzip, PySem.W.mg_none_of X G zlen, PySem.W.mg_none_of X G zall, PySem.W.mg_none_of X G zisinstance, PySem.W.mg_none_of X G zabs, ⟨_, PySem.W.mg_of X G nLEAST, ⟨_, rfl⟩⟩, ⟨_, PySem.W.mg_of X G nGREATEST, ⟨_, rfl⟩⟩, ⟨_, PySem.W.mg_of X G nMOST_CHARACTERS, ⟨_, rfl⟩⟩, ⟨_, PySem.W.mg_of X G nMOST_DEEP_HOST, ⟨_, rfl⟩⟩, ⟨_, PySem.W.mg_of X G nMOST_RANK_HOST, ⟨_, rfl⟩⟩, ⟨_, PySem.W.mg_of X G nMOST_INSTRUCTIONS, ⟨_, rfl⟩⟩, ⟨_, PySem.W.mg_of X G nREGISTERS, ⟨_, rfl⟩⟩, KF, kit, kitC⟩
  have F1 : C8.Def K mg "is_number" s_is_number f1 _ := ⟨⟨⟨oc1, od1, .none, kV1, dc1, pm1, an1, cd1, ct1, sl1, rfl, l1, c1⟩⟩, PySem.W.mg_of X G a1, k1⟩
  have b1 : Binds K _ ["value"] [] := F1.fn.binds rfl (ps := ["value"]) fun _ _ _ _ _ _ us hl => match us, hl with | [_], _ => rfl
  have F2 : C8.Def K mg "is_text" s_is_text f2 _ := ⟨⟨⟨oc2, od2, .none, kV2, dc2, pm2, an2, cd2, ct2, sl2, rfl, l2, c2⟩⟩, PySem.W.mg_of X G a2, k2⟩
  have b2 : Binds K _ ["value"] [] := F2.fn.binds rfl (ps := ["value"]) fun _ _ _ _ _ _ us hl => match us, hl with | [_], _ => rfl
  have F3 : C8.Def K mg "_is_within" s__is_within f3 _ := ⟨⟨⟨oc3, od3, .none, kV3, dc3, pm3, an3, cd3, ct3, sl3, rfl, l3, c3⟩⟩, PySem.W.mg_of X G a3, k3⟩
  have b3 : Binds K _ ["value", "most_deep", "most_rank"] [] := F3.fn.binds rfl (ps := ["value", "most_deep", "most_rank"]) fun _ _ _ _ _ _ us hl => match us, hl with | [_, _, _], _ => rfl
  have F4 : C8.Def K mg "is_host_word" s_is_host_word f4 _ := ⟨⟨⟨oc4, od4, .none, kV4, dc4, pm4, an4, cd4, ct4, sl4, rfl, l4, c4⟩⟩, PySem.W.mg_of X G a4, k4⟩
  have b4 : Binds K _ ["value"] [] := F4.fn.binds rfl (ps := ["value"]) fun _ _ _ _ _ _ us hl => match us, hl with | [_], _ => rfl
  have F5 : C8.Def K mg "has_name" s_has_name f5 _ := ⟨⟨⟨oc5, od5, .none, kV5, dc5, pm5, an5, cd5, ct5, sl5, rfl, l5, c5⟩⟩, PySem.W.mg_of X G a5, k5⟩
  have b5 : Binds K _ ["value"] [] := F5.fn.binds rfl (ps := ["value"]) fun _ _ _ _ _ _ us hl => match us, hl with | [_], _ => rfl
  have F6 : C8.Fun K "_has_form" "_has_form" s__has_form f6 _ := ⟨⟨oc6, od6, .none, kV6, dc6, pm6, an6, cd6, ct6, sl6, rfl, l6, c6⟩⟩
  have b6 : Binds K _ ["part", "form", "many"] [] := F6.binds rfl (ps := ["part", "form", "many"]) fun _ _ _ _ _ _ us hl => match us, hl with | [_, _, _], _ => rfl
  have F7 : C8.Def K mg "_is_instruction" s__is_instruction f7 _ := ⟨⟨⟨oc7, od7, .none, kV7, dc7, pm7, an7, cd7, ct7, sl7, rfl, l7, c7⟩⟩, PySem.W.mg_of X G a7, k7⟩
  have b7 : Binds K _ ["value", "many"] [] := F7.fn.binds rfl (ps := ["value", "many"]) fun _ _ _ _ _ _ us hl => match us, hl with | [_, _], _ => rfl
  have F8 : C8.Def K mg "is_registers" s_is_registers f8 _ := ⟨⟨⟨oc8, od8, .none, kV8, dc8, pm8, an8, cd8, ct8, sl8, rfl, l8, c8⟩⟩, PySem.W.mg_of X G a8, k8⟩
  have b8 : Binds K _ ["value"] [] := F8.fn.binds rfl (ps := ["value"]) fun _ _ _ _ _ _ us hl => match us, hl with | [_], _ => rfl
  have F9 : C8.Def K mg "wrapped" s_wrapped f9 _ := ⟨⟨⟨oc9, od9, .none, kV9, dc9, pm9, an9, cd9, ct9, sl9, rfl, l9, c9⟩⟩, PySem.W.mg_of X G a9, k9⟩
  have b9 : Binds K _ ["number"] [] := F9.fn.binds rfl (ps := ["number"]) fun _ _ _ _ _ _ us hl => match us, hl with | [_], _ => rfl
  have F10 : C8.Def K mg "is_program" s_is_program f10 _ := ⟨⟨⟨oc10, od10, .none, kV10, dc10, pm10, an10, cd10, ct10, sl10, rfl, l10, c10⟩⟩, PySem.W.mg_of X G a10, k10⟩
  have b10 : Binds K _ ["value"] [] := F10.fn.binds rfl (ps := ["value"]) fun _ _ _ _ _ _ us hl => match us, hl with | [_], _ => rfl
  have F11 : C8.Def K mg "_law_next" s__law_next f11 _ := ⟨⟨⟨oc11, od11, .none, kV11, dc11, pm11, an11, cd11, ct11, sl11, rfl, l11, c11⟩⟩, PySem.W.mg_of X G a11, k11⟩
  have b11 : Binds K _ ["tape", "many"] [] := F11.fn.binds rfl (ps := ["tape", "many"]) fun _ _ _ _ _ _ us hl => match us, hl with | [_, _], _ => rfl
  have F12 : C8.Def K mg "_law_forms" s__law_forms f12 _ := ⟨⟨⟨oc12, od12, .none, kV12, dc12, pm12, an12, cd12, ct12, sl12, rfl, l12, c12⟩⟩, PySem.W.mg_of X G a12, k12⟩
  have b12 : Binds K _ [] [] := F12.fn.binds rfl (ps := []) fun _ _ _ _ _ _ us hl => match us, hl with | [], _ => rfl
  have F13 : C8.Def K mg "_law_part" s__law_part f13 _ := ⟨⟨⟨oc13, od13, .none, kV13, dc13, pm13, an13, cd13, ct13, sl13, rfl, l13, c13⟩⟩, PySem.W.mg_of X G a13, k13⟩
  have b13 : Binds K _ ["tape", "sort", "many"] [] := F13.fn.binds rfl (ps := ["tape", "sort", "many"]) fun _ _ _ _ _ _ us hl => match us, hl with | [_, _, _], _ => rfl
  have F14 : C8.Def K mg "_law_row" s__law_row f14 _ := ⟨⟨⟨oc14, od14, .none, kV14, dc14, pm14, an14, cd14, ct14, sl14, rfl, l14, c14⟩⟩, PySem.W.mg_of X G a14, k14⟩
  have b14 : Binds K _ ["tape", "many", "last"] [] := F14.fn.binds rfl (ps := ["tape", "many", "last"]) fun _ _ _ _ _ _ us hl => match us, hl with | [_, _, _], _ => rfl
  have F15 : C8.Def K mg "_law_bent" s__law_bent f15 _ := ⟨⟨⟨oc15, od15, .none, kV15, dc15, pm15, an15, cd15, ct15, sl15, rfl, l15, c15⟩⟩, PySem.W.mg_of X G a15, k15⟩
  have b15 : Binds K _ ["tape", "rows"] [] := F15.fn.binds rfl (ps := ["tape", "rows"]) fun _ _ _ _ _ _ us hl => match us, hl with | [_, _], _ => rfl
  have F16 : C8.Def K mg "_law_number" s__law_number f16 _ := ⟨⟨⟨oc16, od16, .none, kV16, dc16, pm16, an16, cd16, ct16, sl16, rfl, l16, c16⟩⟩, PySem.W.mg_of X G a16, k16⟩
  have b16 : Binds K _ ["value", "low", "high"] [] := F16.fn.binds rfl (ps := ["value", "low", "high"]) fun _ _ _ _ _ _ us hl => match us, hl with | [_, _, _], _ => rfl
  have F17 : C8.Def K mg "_law_fits" s__law_fits f17 _ := ⟨⟨⟨oc17, od17, .none, kV17, dc17, pm17, an17, cd17, ct17, sl17, rfl, l17, c17⟩⟩, PySem.W.mg_of X G a17, k17⟩
  have b17 : Binds K _ ["value", "sort", "many"] [] := F17.fn.binds rfl (ps := ["value", "sort", "many"]) fun _ _ _ _ _ _ us hl => match us, hl with | [_, _, _], _ => rfl
  have F18 : C8.Def K mg "_law_is_row" s__law_is_row f18 _ := ⟨⟨⟨oc18, od18, .none, kV18, dc18, pm18, an18, cd18, ct18, sl18, rfl, l18, c18⟩⟩, PySem.W.mg_of X G a18, k18⟩
  have b18 : Binds K _ ["row", "many"] [] := F18.fn.binds rfl (ps := ["row", "many"]) fun _ _ _ _ _ _ us hl => match us, hl with | [_, _], _ => rfl
  have F19 : C8.Def K mg "_law_due" s__law_due f19 _ := ⟨⟨⟨oc19, od19, .none, kV19, dc19, pm19, an19, cd19, ct19, sl19, rfl, l19, c19⟩⟩, PySem.W.mg_of X G a19, k19⟩
  have b19 : Binds K _ ["rows"] [] := F19.fn.binds rfl (ps := ["rows"]) fun _ _ _ _ _ _ us hl => match us, hl with | [_], _ => rfl
  have F20 : C8.Fun K "law" "law" s_law fa _ := ⟨⟨oc20, od20, .none, kV20, dc20, pm20, an20, cd20, ct20, sl20, rfl, l20, c20⟩⟩
  have b20 : Binds K _ ["script"] [] := F20.binds rfl (ps := ["script"]) fun _ _ _ _ _ _ us hl => match us, hl with | [_], _ => rfl
  refine ⟨PySem.W.fnOf "law" "law" (C8.fnArgs s_law) (C8.fnBody s_law) (C8.fnScope s_law) .none kV20 dc20 pm20 an20 cd20 ct20, fun s v => .of_eq rfl, fun base _ _ => ?_⟩
  have C1 := ok_is_number (P := l.prog) (w := w) (base := base)  F1 b1 T  
  have C2 := ok_is_text (P := l.prog) (w := w) (base := base)  F2 b2 T  
  have C3 := ok__is_within (P := l.prog) (w := w) (base := base)  F3 b3 T C1 C2 
  have C4 := ok_is_host_word (P := l.prog) (w := w) (base := base)  F4 b4 T C3 
  have C5 := ok_has_name (P := l.prog) (w := w) (base := base)  F5 b5 T  
  have C6 := ok_hfm (P := l.prog) (w := w) (base := base) F6 (PySem.W.mg_of X G a6) k6 b6 T C1
  have C7 := ok__is_instruction (P := l.prog) (w := w) (base := base)  F7 b7 T KF (fun k hk => by rw [List.mem_singleton.mp hk]; decide +kernel) C5 C6 
  have C8 := ok_is_registers (P := l.prog) (w := w) (base := base)  F8 b8 T C4 
  have C9 := ok_wrapped (P := l.prog) (w := w) (base := base)  F9 b9 T  
  have C10 := ok_is_program (P := l.prog) (w := w) (base := base)  F10 b10 T C7 
  have C11 := ok__law_next (P := l.prog) (w := w) (base := base)  F11 b11 T  
  have C12 := ok__law_forms (P := l.prog) (w := w) (base := base)  F12 b12 T  
  have C13 := ok__law_part (P := l.prog) (w := w) (base := base)  F13 b13 T C11 
  have C14 := ok__law_row (P := l.prog) (w := w) (base := base)  F14 b14 T C11 C12 C13 
  have C15 := ok__law_bent (P := l.prog) (w := w) (base := base)  F15 b15 T C11 
  have C16 := ok__law_number (P := l.prog) (w := w) (base := base)  F16 b16 T  
  have C17 := ok__law_fits (P := l.prog) (w := w) (base := base)  F17 b17 T C16 
  have C18 := ok__law_is_row (P := l.prog) (w := w) (base := base)  F18 b18 T C12 C17 
  have C19 := ok__law_due (P := l.prog) (w := w) (base := base)  F19 b19 T C18 
  exact fn_law F20 b20 T C11 C14 C15 C10 C19 C9 C8
end Hc
open PySem PySem.W PyProof.Rows
set_option maxRecDepth 100000 in
set_option maxHeartbeats 0 in
theorem PySem.Challenge.cw_hermitcell_k23_what_is_a_program_holds : PySem.Challenge.rw_hermitcell_k23_what_is_a_program.Holds := by
  w_on; o_law; k_head; (case hw => w_witness2)
  k_fill
  refine L2.walk_of (l := PySem.Challenge.rw_hermitcell_k23_what_is_a_program) (n := 63) (k := 5) (x := "script") (CX := fun _ => C8.CX0) (sp := fun w => Hc.spLaw _) rfl (by decide) rfl ⟨rfl, by decide, by decide⟩ (fun w h Y => PySem.W.kIn_of Y) ?F (fun _ _ a ns hl _ hS => ⟨a, ns, rfl, hS, Nat.le_trans hl (by decide), fun _ => rfl⟩) (fun _ _ _ _ _ h => h)
  case F =>
    intro w mg fa h KX G hmg
    refine' Hc.all_mk KX G hmg ?a1 ?l1 ?c1 ?k1 ?a2 ?l2 ?c2 ?k2 ?a3 ?l3 ?c3 ?k3 ?a4 ?l4 ?c4 ?k4 ?a5 ?l5 ?c5 ?k5 ?a6 ?l6 ?c6 ?k6 ?a7 ?l7 ?c7 ?k7 ?a8 ?l8 ?c8 ?k8 ?a9 ?l9 ?c9 ?k9 ?a10 ?l10 ?c10 ?k10 ?a11 ?l11 ?c11 ?k11 ?a12 ?l12 ?c12 ?k12 ?a13 ?l13 ?c13 ?k13 ?a14 ?l14 ?c14 ?k14 ?a15 ?l15 ?c15 ?k15 ?a16 ?l16 ?c16 ?k16 ?a17 ?l17 ?c17 ?k17 ?a18 ?l18 ?c18 ?k18 ?a19 ?l19 ?c19 ?k19 ?a20 ?l20 ?c20 ?k20 ?aC ?pgC ?hdC ?poC ?saC ?mkC ?ha ?hn ?htk ?hm ?me ?nakind ?naterm ?narank ?qint ?qstr ?qtuple ?qbool ?qlist ?qdict ?rNoneType ?rbool ?rint ?rstr ?rtuple ?rlist ?rdict ?nLEAST ?nGREATEST ?nMOST_CHARACTERS ?nMOST_DEEP_HOST ?nMOST_RANK_HOST ?nMOST_INSTRUCTIONS ?nREGISTERS ?ztype ?zint ?zstr ?zbool ?ztuple ?zlist ?zrange ?zzip ?zlen ?zall ?zisinstance ?zabs ?aF ?lF ?kF ?oF ?vtt1 ?wtt1 ?vtt2 ?wtt2 ?vtt3 ?wtt3 ?vtt4 ?wtt4 ?vtt5 ?wtt5 ?vtt6 ?wtt6 ?vtt7 ?wtt7 ?vtt8 ?wtt8 ?vtt9 ?wtt9 ?vtt10 ?wtt10 ?vtt11 ?wtt11 ?vtt12 ?wtt12 ?vr
    (case a1 => k_is)
    (case l1 => k_is)
    (case c1 => k_is)
    (case k1 => k_is)
    (case a2 => k_is)
    (case l2 => k_is)
    (case c2 => k_is)
    (case k2 => k_is)
    (case a3 => k_is)
    (case l3 => k_is)
    (case c3 => k_is)
    (case k3 => k_is)
    (case a4 => k_is)
    (case l4 => k_is)
    (case c4 => k_is)
    (case k4 => k_is)
    (case a5 => k_is)
    (case l5 => k_is)
    (case c5 => k_is)
    (case k5 => k_is)
    (case a6 => k_is)
    (case l6 => k_is)
    (case c6 => k_is)
    (case k6 => k_is)
    (case a7 => k_is)
    (case l7 => k_is)
    (case c7 => k_is)
    (case k7 => k_is)
    (case a8 => k_is)
    (case l8 => k_is)
    (case c8 => k_is)
    (case k8 => k_is)
    (case a9 => k_is)
    (case l9 => k_is)
    (case c9 => k_is)
    (case k9 => k_is)
    (case a10 => k_is)
    (case l10 => k_is)
    (case c10 => k_is)
    (case k10 => k_is)
    (case a11 => k_is)
    (case l11 => k_is)
    (case c11 => k_is)
    (case k11 => k_is)
    (case a12 => k_is)
    (case l12 => k_is)
    (case c12 => k_is)
    (case k12 => k_is)
    (case a13 => k_is)
    (case l13 => k_is)
    (case c13 => k_is)
    (case k13 => k_is)
    (case a14 => k_is)
    (case l14 => k_is)
    (case c14 => k_is)
    (case k14 => k_is)
    (case a15 => k_is)
    (case l15 => k_is)
    (case c15 => k_is)
    (case k15 => k_is)
    (case a16 => k_is)
    (case l16 => k_is)
    (case c16 => k_is)
    (case k16 => k_is)
    (case a17 => k_is)
    (case l17 => k_is)
    (case c17 => k_is)
    (case k17 => k_is)
    (case a18 => k_is)
    (case l18 => k_is)
    (case c18 => k_is)
    (case k18 => k_is)
    (case a19 => k_is)
    (case l19 => k_is)
    (case c19 => k_is)
    (case k19 => k_is)
    (case a20 => k_is)
    (case l20 => k_is)
    (case c20 => k_is)
    (case k20 => k_is)
    (case aC => k_is)
    (case pgC => k_is)
    (case hdC => k_is)
    (case poC => k_is)
    (case saC => k_is)
    (case mkC => k_is)
    (case ha => k_is)
    (case hn => k_is)
    (case htk => k_is)
    (case hm => k_is)
    (case me => kit_is)
    (case nakind => k_is)
    (case naterm => k_is)
    (case narank => k_is)
    (case qint => kit_is)
    (case qstr => kit_is)
    (case qtuple => kit_is)
    (case qbool => kit_is)
    (case qlist => kit_is)
    (case qdict => kit_is)
    (case rNoneType => kit_is)
    (case rbool => kit_is)
    (case rint => kit_is)
    (case rstr => kit_is)
    (case rtuple => kit_is)
    (case rlist => kit_is)
    (case rdict => kit_is)
    (case nLEAST => k_is)
    (case nGREATEST => k_is)
    (case nMOST_CHARACTERS => k_is)
    (case nMOST_DEEP_HOST => k_is)
    (case nMOST_RANK_HOST => k_is)
    (case nMOST_INSTRUCTIONS => k_is)
    (case nREGISTERS => k_is)
    (case ztype => k_is)
    (case zint => k_is)
    (case zstr => k_is)
    (case zbool => k_is)
    (case ztuple => k_is)
    (case zlist => k_is)
    (case zrange => k_is)
    (case zzip => k_is)
    (case zlen => k_is)
    (case zall => k_is)
    (case zisinstance => k_is)
    (case zabs => k_is)
    (case aF => k_is)
    (case lF => k_is)
    (case kF => k_keys)
    (case oF => decide)
    (case vtt1 => k_is)
    (case wtt1 => k_is)
    (case vtt2 => k_is)
    (case wtt2 => k_is)
    (case vtt3 => k_is)
    (case wtt3 => k_is)
    (case vtt4 => k_is)
    (case wtt4 => k_is)
    (case vtt5 => k_is)
    (case wtt5 => k_is)
    (case vtt6 => k_is)
    (case wtt6 => k_is)
    (case vtt7 => k_is)
    (case wtt7 => k_is)
    (case vtt8 => k_is)
    (case wtt8 => k_is)
    (case vtt9 => k_is)
    (case wtt9 => k_is)
    (case vtt10 => k_is)
    (case wtt10 => k_is)
    (case vtt11 => k_is)
    (case wtt11 => k_is)
    (case vtt12 => k_is)
    (case wtt12 => k_is)
    (case vr => k_is)



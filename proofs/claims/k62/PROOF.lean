import PyProof.Rows.All
import Wide.All
import OpenK.AllK
import Wide.FinOn
import HandS.ForMost
import HandS.Codes
import HandS.IsInst
import HandS.More
import HandS.OwnEq
import HandS.EndBits
import HandS.Style
import PyProof.Rows.CallKwBuiltin
import KE.KMinKey
import HandS.SortKw
import HandS.Walk
import HandS.Zip
import HandS.TupAny
import HandS.TupMul
import HandS.TupLe
import PySem.Challenge.RW_hermitcell_k62_what_a_host_can_make
set_option Elab.async false
set_option maxRecDepth 100000
set_option maxHeartbeats 4000000
set_option linter.all false
/-! Rules that the layer lacks. -/
namespace Hr
open PySem PySem.SeqAt PyProof.Rows
open AutoSeq1 (wpAny_loadPart')
open MeetsSeq MeetsSeq2 MeetsSeq3 SeqRoads2
/-! ### x in l: the items' == may run code -/
section
variable {prog : Program} {w : World} {A : Around} {E : Value → Shared → Prop}
/-- the list stands still, its items are asked one by one -/
structure Asks (prog : Program) (w : World) (A : Around) (E : Value → Shared → Prop) (l : Addr) (x : Value) (J : Shared → Prop) (bs : List Bool) : Prop where
  at_ : ∀ s, J s → ∃ (items : Array Value) (n : Nat), s.heap.get? l = some { cls := .type "list", data := .seq items n } ∧ items.size = bs.length ∧
    ∀ (i : Nat) (h : i < items.size) (h2 : i < bs.length), wpAny (model prog w) A.in1 (eqBool items[i] x) (fun r s' => r = bs[i] ∧ J s') E s
theorem in_loop {R : Result → Shared → Prop} {l : Addr} {x : Value} {J : Shared → Prop} {bs : List Bool} (hl : Asks prog w A (fun e s' => R (.error e) s') l x J bs) (k : Nat) :
    ∀ i : Nat, bs.length - i = k → ∀ s, J s → (∀ s', J s' → R (.ok (.ret (.bool ((bs.drop i).any id)))) s') →
      wpAny (model prog w) A.in1 (Builtin.«list.__contains__.loop» ⟨[.ref l, x, rawInt i], []⟩) (GQ.FinOf prog w A R) (fun e s' => R (.error e) s') s := by
  induction k with
  | zero =>
    intro i hk s h fin
    obtain ⟨items, n, hg, hz, _⟩ := hl.at_ _ h
    have f := fin s h
    rw [List.drop_eq_nil_of_le (by omega)] at f
    obtain ⟨hp, g, d, tk, os⟩ := s
    wp_walk using wpAny_loadPart' hg
    have hi : items[((i : Nat) : Int).toNat]? = none := by simp; omega
    rw [hi]
    wp_walk
    exact f
  | succ k ih =>
    intro i hk s h fin
    obtain ⟨items, n, hg, hz, turn⟩ := hl.at_ _ h
    have h1 : i < items.size := by omega
    have h2 : i < bs.length := by omega
    have ht := turn i h1 h2
    obtain ⟨hp, g, d, tk, os⟩ := s
    wp_walk using wpAny_loadPart' hg
    have hi : items[((i : Nat) : Int).toNat]? = some items[i] := by simp [h1]
    have hd : (bs.drop i).any id = (bs[i] || (bs.drop (i + 1)).any id) := by rw [List.drop_eq_getElem_cons h2, List.any_cons]; rfl
    rw [hd] at fin
    rw [hi]
    refine wpAny_bind (wpAny_mono ht (fun r s2 q2 => ?_) fun _ _ z => z)
    obtain ⟨hr, j2⟩ := q2
    subst hr
    cases hb : bs[i] with
    | true =>
      rw [hb] at fin
      have f := fin s2 j2
      obtain ⟨hp2, g2, d2, tk2, os2⟩ := s2
      wp_walk
      exact f
    | false =>
      rw [hb] at fin
      have rec_ := ih (i + 1) (by omega) s2 j2 fin
      have hc : ((i : Int) + 1) = ((i + 1 : Nat) : Int) := by omega
      obtain ⟨hp2, g2, d2, tk2, os2⟩ := s2
      wp_walk
      rw [hc]
      exact ⟨plainId_quiet plain_contains_loop _, codeAny_builtin entry_contains_loop (by
        rw [Around.under_plainId plain_contains_loop _]
        exact rec_)⟩
theorem in_list {R : Result → Shared → Prop} {l : Addr} {x : Value} {J : Shared → Prop} {bs : List Bool} (hl : Asks prog w A (fun e s' => R (.error e) s') l x J bs) {s : Shared} (h : J s)
    (fin : ∀ s', J s' → R (.ok (.ret (.bool (bs.any id)))) s') :
    wpAny (model prog w) A.in1 (Builtin.«list.__contains__» ⟨[.ref l, x], []⟩) (GQ.FinOf prog w A R) (fun e s' => R (.error e) s') s := by
  obtain ⟨items, n, hg, hz, _⟩ := hl.at_ _ h
  have rec_ := in_loop (A := A) hl _ 0 rfl s h (by simpa using fin)
  obtain ⟨hp, g, d, tk, os⟩ := s
  wp_walk using wpAny_loadPart' hg
  exact ⟨plainId_quiet plain_contains_loop _, codeAny_builtin entry_contains_loop (by
    rw [Around.under_plainId plain_contains_loop _]
    exact rec_)⟩
theorem call_in {l : Addr} {x : Value} {J : Shared → Prop} {bs : List Bool} {Q : Value → Shared → Prop} (hl : Asks prog w A E l x J bs) {s : Shared} (h : J s) (fin : ∀ s', J s' → Q (.bool (bs.any id)) s') :
    wpAny (model prog w) A (call (.builtin "list.__contains__") [.ref l, x]) Q E s := by
  obtain ⟨items, n, hg, _, _⟩ := hl.at_ _ h
  exact GQ.call_here F.slot_list_contains ⟨_, hg, rfl⟩ F.entry_list_contains (F.args_list_contains_2 _ _) (in_list (R := wants Q E) hl h fin)
theorem op_in_ {l : Addr} {x : Value} {J : Shared → Prop} {bs : List Bool} {Q : Value → Shared → Prop} (hl : Asks prog w A E l x J bs) {s : Shared} (h : J s) (fin : ∀ s', J s' → Q (.bool (bs.any id)) s') :
    wpAny (model prog w) A (compareOp .In x (.ref l)) Q E s := by
  obtain ⟨items, n, hg, _, _⟩ := hl.at_ _ h
  show wpAny _ _ (do return .bool (← contains (.ref l) x)) Q E s
  refine wpAny_bind (wpAny_contains_slot ⟨_, hg, rfl⟩ F.slot_list_contains ?_)
  exact call_in hl h fun s' j => wpAny_truthy_bool (wpAny_pure (fin s' j))
theorem op_notIn_ {l : Addr} {x : Value} {J : Shared → Prop} {bs : List Bool} {Q : Value → Shared → Prop} (hl : Asks prog w A E l x J bs) {s : Shared} (h : J s) (fin : ∀ s', J s' → Q (.bool (!bs.any id)) s') :
    wpAny (model prog w) A (compareOp .NotIn x (.ref l)) Q E s := by
  obtain ⟨items, n, hg, _, _⟩ := hl.at_ _ h
  show wpAny _ _ (do return .bool (!(← contains (.ref l) x))) Q E s
  refine wpAny_bind (wpAny_contains_slot ⟨_, hg, rfl⟩ F.slot_list_contains ?_)
  exact call_in hl h fun s' j => wpAny_truthy_bool (wpAny_pure (fin s' j))
end
end Hr

namespace Hr
open PySem PySem.Spec PyProof.Rows L2
/-! ### t[::-1] of a tuple -/
section
variable {prog : Program} {w : World} {A : Around} {E : Value → Shared → Prop} {s : Shared}
theorem rev_adj (n : Nat) : Builtin.Slice.sliceAdjust none none (-1) (n : Int) = ((n : Int) - 1, -1) := rfl
theorem rev_places (n : Nat) : Builtin.Slice.slicePlaces ((n : Int) - 1) (-1) (-1) = n := by
  unfold Builtin.Slice.slicePlaces
  rw [if_neg (by decide)]
  by_cases h : (n : Int) - 1 > -1
  · rw [if_pos h, show (-(-1) : Int) = 1 by decide, Int.ediv_one]; omega
  · rw [if_neg h]; omega
theorem rev_pick (xs : Array Value) : ((List.range xs.size).filterMap fun (m : Nat) => xs[((xs.size : Int) - 1 + (m : Int) * -1).toNat]?).toArray = xs.toList.reverse.toArray := by
  congr 1
  have key : ∀ m, m < xs.size → xs[((xs.size : Int) - 1 + (m : Int) * -1).toNat]? = xs.toList.reverse[m]? := fun m hm => by
    rw [List.getElem?_reverse (by simpa using hm), Array.length_toList, ← Array.getElem?_toList]
    congr 1
    omega
  have aux : ∀ (l : List Value), (List.range l.length).filterMap (fun m => l[m]?) = l := fun l => by
    induction l with
    | nil => rfl
    | cons x r ih =>
      rw [List.length_cons, List.range_succ_eq_map, List.filterMap_cons]
      show x :: _ = _
      rw [List.filterMap_map]
      exact congrArg (x :: ·) ih
  have e := aux xs.toList.reverse
  rw [List.length_reverse, Array.length_toList] at e
  have cong : ∀ (f g : Nat → Option Value) (l : List Nat), (∀ m ∈ l, f m = g m) → l.filterMap f = l.filterMap g := fun f g l => by
    induction l with
    | nil => exact fun _ => rfl
    | cons x r ih =>
      intro h
      rw [List.filterMap_cons, List.filterMap_cons, h x List.mem_cons_self, ih fun m hm => h m (List.mem_cons_of_mem _ hm)]
  exact (cong _ _ _ fun m hm => key m (List.mem_range.mp hm)).trans e
theorem getItem_tuple_rev {t sl : Addr} {items : Array Value} {vs : Value} {Q : Value → Shared → Prop} (ht : IsTup s.heap t items) (hs : s.heap.IsSliceOf sl .none .none vs) (ps : IsPart vs (some (-1)))
    (h : Q (.ref s.heap.objs.size) { s with heap := s.heap.push { cls := .type "tuple", data := .seq items.toList.reverse.toArray } }) (hz : items.size ≤ sizeLine) : wpAny (model prog w) A (getItem (.ref t) (.ref sl)) Q E s := by
  have hok : sizeOk (.seq items.toList.reverse.toArray) := by
    show items.toList.reverse.toArray.size ≤ sizeLine
    rw [List.size_toArray, List.length_reverse, Array.length_toList]; exact hz
  obtain ⟨os, hos, hcs, hds⟩ := id hs
  have hT : s.TypeIs (.ref sl) "slice" := ⟨os, hos, hcs⟩
  unfold getItem
  try with_reducible refine wpAny_holding ?_
  first | refine wpAny_bind (wpAny_pure ?_) | skip
  refine wpAny_bind (wpAny_sequenceKey ht.typeIs (by decide) ?_)
  refine wpAny_bind (wpAny_callSpecial?_slot (name := Str.ofString "__getitem__") ht.typeIs PyProof.Rows.slot_tuple_getitem
    (wpAny_call_entry PyProof.Rows.slot_tuple_getitem ht.typeIs entry_tuple_getitem ?_ (args_tuple_getitem _ _)))
  show wpAny _ _ (Builtin.Tuple.tupleItemsOf (.ref t) >>= _) _ _ s
  refine wpAny_bind (tupleItemsOf_ ht ?_)
  refine wpAny_bind (wpAny_typeOf hT ?_)
  rw [if_pos (by decide)]
  have happ : ∀ {Q' : Int × Int × Nat → Shared → Prop} {E' : Value → Shared → Prop} {A' : Around}, Q' ((items.size : Int) - 1, -1, items.size) s → wpAny (model prog w) A' (Builtin.Slice.sliceApplied (.ref sl) (pure (items.size : Int))) Q' E' s := fun {Q' E' A'} q => by
    unfold Builtin.Slice.sliceApplied Builtin.Slice.sliceFields
    refine wpAny_bind (wpAny_bind (wpAny_field hos hds (x := .none) rfl (wpAny_bind (wpAny_field hos hds (x := .none) rfl (wpAny_bind (wpAny_field hos hds (x := vs) rfl (wpAny_pure ?_)))))))
    cases ps with
    | int i u =>
      refine wpAny_bind (slicePart_int ?_)
      show wpAny _ _ (if ((-1 : Int) == 0) = true then _ else _) _ _ s
      rw [if_neg (by decide)]
      refine wpAny_bind (slicePart_none (wpAny_bind (slicePart_none (wpAny_bind (wpAny_pure ?_)))))
      show wpAny _ _ (match Builtin.Slice.sliceAdjust none none (-1) (items.size : Int) with | (lo, hi) => pure (lo, (-1 : Int), Builtin.Slice.slicePlaces lo hi (-1))) _ _ s
      rw [rev_adj]
      show wpAny _ _ (pure ((items.size : Int) - 1, (-1 : Int), Builtin.Slice.slicePlaces ((items.size : Int) - 1) (-1) (-1))) _ _ s
      rw [rev_places]
      exact wpAny_pure q
  refine wpAny_bind (happ ?_)
  show wpAny _ _ (if (((items.size : Int) - 1) == 0 && (-1 : Int) == 1 && items.size == items.size) = true then _ else _) _ _ s
  rw [if_neg (by simp), rev_pick]
  first
    | exact wpAny_bind (m := Builtin.Tuple.tupleExact _) (wpAny_newObj_type (wpAny_pure ⟨_, rfl, wpAny_pure h⟩) hok)
    | exact wpAny_bind (m := Builtin.Tuple.tupleExact _) (wpAny_newObj_type (wpAny_bind (wpAny_pure (wpAny_pure ⟨_, rfl, wpAny_pure h⟩))) hok)
    | exact wpAny_bind (wpAny_bind (m := Builtin.Tuple.tupleExact _) (wpAny_newObj_type (wpAny_pure (wpAny_pure ⟨_, rfl, wpAny_pure h⟩)) hok))
    | exact wpAny_bind (wpAny_bind (m := Builtin.Tuple.tupleExact _) (wpAny_newObj_type (wpAny_pure ⟨_, rfl, wpAny_pure h⟩) hok))
end
def tRevT (K : PySem.W.Frag) (te : TE) : TE := fun σ H Q => te σ H fun x H1 => ∃ a xs, x = .ref a ∧ SqT K H1 a xs ∧ ∀ p, H1 p = none → Q (.ref p) (upd H1 p (.tup xs.reverse))
theorem pe_revT {X : Cx} {e : Expr} {te : TE} {k : Nat} {p1 p2 p3 pos : Pos} (he : PE X e te) : PE X (.Subscript e (.Slice none none (some (.UnaryOp .USub (.Constant (.int 1) k p1) p2)) p3) pos) (tRevT X.K te) := by
  refine ⟨fun pins s σ H Q I h => ?_⟩
  refine Subscript_ (thn (he.run pins s σ H _ I h) fun v s1 ⟨x, H1, I1, r1, a, xs, ex, hx, q⟩ => ?_)
  subst ex
  cases r1
  have part : PO X (some (.UnaryOp .USub (.Constant (.int 1) k p1) p2)) (tPart (tUn (rU fun i => .int (-i)) (tC (.int 1)))) := po_some (pe_un un_neg pe_int)
  refine wpAny_Slice (thn (po_none.run pins s1 σ H1 (fun o H2 => o = none ∧ H2 = H1) I1 ⟨rfl, rfl⟩) fun vl s2 ⟨l, H2, I2, pl, el, e2⟩ => ?_)
  subst el e2
  refine thn (po_none.run pins s2 σ H2 (fun o H3 => o = none ∧ H3 = H2) I2 ⟨rfl, rfl⟩) fun vu s3 ⟨u, H3, I3, pu, eu, e3⟩ => ?_
  subst eu e3
  refine thn (part.run pins s3 σ H3 (fun o H4 => o = some (-1) ∧ H4 = H3) I3 ⟨1, rfl, -1, rfl, rfl, rfl⟩) fun vs s4 ⟨o, H4, I4, ps, eo, e4⟩ => ?_
  subst eo e4
  have I5 : Inv X pins σ H4 { s4 with heap := s4.heap.push { cls := .type "slice", data := .fields #[vl, vu, vs] } } := I4.kept (t' := s4.toks) fun b ob z => Heap.get?_push_of_some _ z
  obtain ⟨its, r, ht, hz⟩ := I5.tuple hx
  have hlen := r.length
  show wpAny (model X.prog X.w) X.A (subscriptTail e (.Slice none none (some (.UnaryOp .USub (.Constant (.int 1) k p1) p2)) p3) (.ref a) (.ref s4.heap.objs.size)) (EP X pins σ Q) X.xe { s4 with heap := s4.heap.push { cls := .type "slice", data := .fields #[vl, vu, vs] } }
  cases pl
  cases pu
  refine tail_any (ops := [.ref a, .ref s4.heap.objs.size]) ht.typeIs PyProof.Rows.slot_tuple_getitem.lookup ?_ (by with_unfolding_all rfl)
  refine getItem_tuple_rev ht (Heap.IsSliceOf.new _ .none .none vs) ps ?_ (by rw [List.size_toArray]; omega)
  refine ⟨.ref _, _, I5.laid (t' := s4.toks) (o := .tup xs.reverse) (fun b ob z => Heap.get?_push_of_some _ z) (Nat.le_refl _) ?_, rfl, q _ (I5.hok.fresh (Nat.le_refl _))⟩
  exact ⟨by rw [List.length_reverse]; exact hz, its.toArray.toList.reverse, by simpa using r.reverse, IsTup.new _ _⟩
end Hr

namespace Hr
open PySem PySem.Spec PyProof.Rows
/-! ### max(xs, default=d) -/
section
variable {prog : Program} {w : World} {A : Around} {R : Result → Shared → Prop} {I : Addr} {fp wr : List Addr} {n : Nat} {P : Nat → Value → Prop} {St : Nat → Heap → Prop} {kw : List (Str × Value)}
theorem max_loopK (W : Walks prog w A.in1 I fp wr n P St) (bt : Nat → Nat → Bool) (hcmp : CmpOf prog w A.in1 .Gt P bt) (S : Addr) (hSf : S ∉ fp) :
    ∀ (k j : Nat) (s : Shared) (vb : Value) (c : Nat), n - (j + 1) = k → j + 1 ≤ n → St (j + 1) s.heap → P (argBest bt j) vb →
    s.heap.get? S = some { cls := .type "list", dict := none, data := .seq #[vb, vb] c, slots := #[] } →
    (∀ v h' tk, P (argBest bt (n - 1)) v → (∀ b o, b ∉ wr → b ≠ S → s.heap.get? b = some o → h'.get? b = some o) → R (.ok (.ret v)) { s with heap := h', toks := tk }) →
    codeAny (model prog w) A (.builtin "max.loop" ⟨[.ref I, .none, .ref S], kw⟩) R s := by
  have hSw : S ∉ wr := fun h => hSf (W.sub _ h)
  have nm : (toString "max" ++ toString ".loop" : String) = "max.loop" := by decide
  intro k
  induction k with
  | zero =>
    intro j s vb c hk hj hst hPb hS hR
    have hin : j + 1 = n := by omega
    refine codeAny_builtin F.entry_max_loop ?_
    rw [Around.under_plainId F.plain_max_loop _]
    show wpAny _ A.in1 (seqItems? (.ref S) >>= _) _ _ s
    refine wpAny_bind (wpAny_seqItems hS rfl ?_)
    show wpAny _ A.in1 (tryCatch (pyNext (.ref I)) _ >>= _) _ _ s
    refine wpAny_bind (wpAny_tryCatch (W.done s _ _ (hin ▸ hst) fun h' tk hk' => ?_))
    have hS' := hk' S _ hSw hS
    show wpAny _ A.in1 (updateSeq S (fun _ => #[]) >>= _) _ _ _
    refine wpAny_bind ?_
    refine wpAny_updateSeq hS' rfl (wpAny_bind (wpAny_letGo (wpAny_pure ?_)))
    exact hR vb _ tk (by rw [← hin]; exact hPb) fun b o hbw hbS e => (Heap.get?_update_other _ _ (Ne.symm hbS)).trans (hk' b o hbw e)
  | succ k ih =>
    intro j s vb c hk hj hst hPb hS hR
    have hlt : j + 1 < n := by omega
    refine codeAny_builtin F.entry_max_loop ?_
    rw [Around.under_plainId F.plain_max_loop _]
    show wpAny _ A.in1 (seqItems? (.ref S) >>= _) _ _ s
    refine wpAny_bind (wpAny_seqItems hS rfl ?_)
    show wpAny _ A.in1 (tryCatch (pyNext (.ref I)) _ >>= _) _ _ s
    refine wpAny_bind (wpAny_tryCatch (W.item (j + 1) s _ _ hlt hst fun v h' tk hP hst' hk' => ?_))
    have hS' := hk' S _ hSw hS
    show wpAny _ A.in1 (tryCatch (holding [v, v] (richCompare .Gt v vb >>= _)) _ >>= _) _ _ _
    refine wpAny_bind (wpAny_tryCatch (wpAny_holding (wpAny_bind (hcmp (j + 1) (argBest bt j) v vb _ _ _ hP hPb ?_))))
    refine wpAny_bind (wpAny_holding (wpAny_truthy_bool ?_))
    refine wpAny_bind (wpAny_letGo (wpAny_pure ?_))
    cases hb : bt (j + 1) (argBest bt j) with
    | true =>
      simp only [if_true]
      refine wpAny_bind ?_
      refine wpAny_updateSeq hS' rfl (wpAny_bind (wpAny_letGo ?_))
      rw [nm]
      refine wpAny_pure ⟨plainId_quiet F.plain_max_loop _, ih (j + 1) _ v _ (by omega) hlt (W.frame _ _ _ hst' fun b hbf o e => ?_) (by simp only [argBest, hb, if_true]; exact hP) (Heap.get?_update_self _ hS' rfl)
        fun v' h'' tk'' hP' hk'' => ?_⟩
      · exact (Heap.get?_update_other _ _ (fun h : S = b => hSf (by rw [h]; exact hbf))).trans e
      · exact hR v' h'' tk'' hP' fun b o hbw hbS e => hk'' b o hbw hbS ((Heap.get?_update_other _ _ (Ne.symm hbS)).trans (hk' b o hbw e))
    | false =>
      simp only [Bool.false_eq_true, if_false]
      refine wpAny_bind (wpAny_letGo ?_)
      rw [nm]
      refine wpAny_pure ⟨plainId_quiet F.plain_max_loop _, ih (j + 1) _ vb c (by omega) hlt hst' (by simp only [argBest, hb, Bool.false_eq_true, if_false]; exact hPb) hS' fun v' h'' tk'' hP' hk'' => ?_⟩
      exact hR v' h'' tk'' hP' fun b o hbw hbS e => hk'' b o hbw hbS (hk' b o hbw e)
theorem max_firstK (W : Walks prog w A.in1 I fp wr n P St) (bt : Nat → Nat → Bool) (hcmp : CmpOf prog w A.in1 .Gt P bt) (S : Addr) (hSf : S ∉ fp) (hn : 0 < n) {s : Shared} {c : Nat} (hst : St 0 s.heap)
    (hS : s.heap.get? S = some { cls := .type "list", dict := none, data := .seq #[] c, slots := #[] })
    (hR : ∀ v h' tk, P (argBest bt (n - 1)) v → (∀ b o, b ∉ wr → b ≠ S → s.heap.get? b = some o → h'.get? b = some o) → R (.ok (.ret v)) { s with heap := h', toks := tk }) :
    codeAny (model prog w) A (.builtin "max.loop" ⟨[.ref I, .none, .ref S], kw⟩) R s := by
  have hSw : S ∉ wr := fun h => hSf (W.sub _ h)
  have nm : (toString "max" ++ toString ".loop" : String) = "max.loop" := by decide
  refine codeAny_builtin F.entry_max_loop ?_
  rw [Around.under_plainId F.plain_max_loop _]
  show wpAny _ A.in1 (seqItems? (.ref S) >>= _) _ _ s
  refine wpAny_bind (wpAny_seqItems hS rfl ?_)
  show wpAny _ A.in1 (tryCatch (pyNext (.ref I)) _ >>= _) _ _ s
  refine wpAny_bind (wpAny_tryCatch (W.item 0 s _ _ hn hst fun v h' tk hP hst' hk' => ?_))
  have hS' := hk' S _ hSw hS
  show wpAny _ A.in1 (updateSeq S (fun _ => #[v, v]) >>= _) _ _ _
  refine wpAny_bind ?_
  refine wpAny_updateSeq hS' rfl ?_
  rw [nm]
  refine wpAny_pure ⟨plainId_quiet F.plain_max_loop _, max_loopK W bt hcmp S hSf _ 0 _ v _ rfl hn (W.frame _ _ _ hst' fun b hbf o e => ?_) hP (Heap.get?_update_self _ hS' rfl) fun v' h'' tk'' hP' hk'' => ?_⟩
  · exact (Heap.get?_update_other _ _ (fun h : S = b => hSf (by rw [h]; exact hbf))).trans e
  · exact hR v' h'' tk'' hP' fun b o hbw hbS e => hk'' b o hbw hbS ((Heap.get?_update_other _ _ (Ne.symm hbS)).trans (hk' b o hbw e))
/-- nothing there: the default -/
theorem max_noneK {d : Value} (W : Walks prog w A.in1 I fp wr 0 P St) (S : Addr) (hSf : S ∉ fp) {s : Shared} {c : Nat} (hst : St 0 s.heap)
    (hS : s.heap.get? S = some { cls := .type "list", dict := none, data := .seq #[] c, slots := #[] })
    (hR : ∀ h' tk, (∀ b o, b ∉ wr → b ≠ S → s.heap.get? b = some o → h'.get? b = some o) → R (.ok (.ret d)) { s with heap := h', toks := tk }) :
    codeAny (model prog w) A (.builtin "max.loop" ⟨[.ref I, .none, .ref S], [(Str.ofString "default", d)]⟩) R s := by
  refine codeAny_builtin F.entry_max_loop ?_
  rw [Around.under_plainId F.plain_max_loop _]
  show wpAny _ A.in1 (seqItems? (.ref S) >>= _) _ _ s
  refine wpAny_bind (wpAny_seqItems hS rfl ?_)
  show wpAny _ A.in1 (tryCatch (pyNext (.ref I)) _ >>= _) _ _ s
  refine wpAny_bind (wpAny_tryCatch (W.done s _ _ hst fun h' tk hk' => ?_))
  exact wpAny_bind (wpAny_rule (wpAny_pure (hR h' tk fun b o hbw _ e => hk' b o hbw e)))
end
theorem max_default_args (a v : Value) : argsOk "max" ⟨[a], [(Str.ofString "default", v)]⟩ := by unfold argsOk; kernel_rfl
section
variable {prog : Program} {w : World} {A : Around} {E : Value → Shared → Prop} {s : Shared}
theorem call_maxD {l : Addr} {xs : Array (Int × Tok)} {d : Value} {Q : Value → Shared → Prop} (hh : A.handled = none) (hl : s.heap.IsList l (intItems xs))
    (h : ∀ v h' tk, (xs.size = 0 ∧ v = d ∨ 0 < xs.size ∧ (intItems xs)[argBest (fun i j => decide (numAt xs i > numAt xs j)) (xs.size - 1)]? = some v) → (∀ b o, s.heap.get? b = some o → h'.get? b = some o) → Q v { s with heap := h', toks := tk }) :
    wpAny (model prog w) A (call (.builtin "max") [.ref l] [(Str.ofString "default", d)]) Q E s := by
  have nm : (toString "max" ++ toString ".loop" : String) = "max.loop" := by decide
  refine PyProof.Rows.kmk_tree F.kind_max F.plain_max F.entry_max (max_default_args _ _) ?_
  show wpAny _ A.in1 (Builtin.Builtins.bindParams "max" ["key", "default"] 0 ⟨[], [(Str.ofString "default", d)]⟩ >>= _) _ _ s
  refine wpAny_bind (wpAny_of_eq (show Builtin.Builtins.bindParams "max" ["key", "default"] 0 ⟨[], [(Str.ofString "default", d)]⟩ = pure [none, some d] from rfl) ?_)
  refine wpAny_bind (wpAny_pure ?_)
  refine wpAny_bind (iter_intList hl fun s₂ e st hfp hlI => ?_)
  subst e
  refine wpAny_bind (wpAny_newObj_type ?_)
  have W := Walks.list (prog := prog) (w := w) (A := A.in1) hh s.heap.objs.size l hlI (intItems xs)
  have hSf : (s.heap.push { cls := .type "list_iterator", data := .fields #[.ref l, .int 0 0] }).objs.size ∉ [s.heap.objs.size, l] := fun hm => Nat.lt_irrefl _ (hfp _ hm)
  have hz : (intItems xs).size = xs.size := by simp [intItems]
  rw [nm]
  refine wpAny_pure ⟨plainId_quiet F.plain_max_loop _, ?_⟩
  have fin : ∀ v h' tk, (xs.size = 0 ∧ v = d ∨ 0 < xs.size ∧ (intItems xs)[argBest (fun i j => decide (numAt xs i > numAt xs j)) (xs.size - 1)]? = some v) →
      (∀ b o, b ∉ [s.heap.objs.size] → b ≠ (s.heap.push { cls := .type "list_iterator", data := .fields #[.ref l, .int 0 0] }).objs.size →
        ((s.heap.push { cls := .type "list_iterator", data := .fields #[.ref l, .int 0 0] }).push { cls := .type "list", data := .seq #[] }).get? b = some o → h'.get? b = some o) →
      wants Q E (.ok (.ret v)) { s with heap := h', toks := tk } := fun v h' tk hv hk => by
    refine h v h' tk hv (old_kept (l := l) fun b o hb e => ?_)
    exact hk b o hb (Nat.ne_of_lt (Heap.lt_size e)) (Heap.get?_push_of_some _ e)
  by_cases hn : 0 < xs.size
  · refine max_firstK W _ (CmpOf.ints_gt (numAt xs) (fun _ _ => intItems_at)) _ hSf (by rw [hz]; exact hn) (W.frame _ _ _ st fun b _ o e => Heap.get?_push_of_some _ e) (Heap.get?_push_size _ rfl) fun v h' tk hP hk => ?_
    exact fin v h' tk (.inr ⟨hn, by rw [hz] at hP; exact hP⟩) hk
  · have hn0 : xs.size = 0 := by omega
    have W0 : Walks prog w A.in1 s.heap.objs.size [s.heap.objs.size, l] [s.heap.objs.size] 0 (fun i v => (intItems xs)[i]? = some v) (fun i h => h.IsListIter s.heap.objs.size l i ∧ h.IsList l (intItems xs)) := by
      have W' := W
      rw [hz, hn0] at W'
      exact W'
    refine max_noneK W0 _ hSf (W.frame _ _ _ st fun b _ o e => Heap.get?_push_of_some _ e) (Heap.get?_push_size _ rfl) fun h' tk hk => ?_
    exact fin d h' tk (.inl ⟨hn0, rfl⟩) hk
end
end Hr

namespace Hr
open PySem PySem.Spec PyProof.Rows L2
def rMaxD (K : PySem.W.Frag) : List V → List V → Hp → VK → Prop := fun vs zs H Q => ∃ (a : Addr) (ns : List Int) (d : Int), vs = [.ref a] ∧ zs = [.int d] ∧ SqL K H a (ns.map V.int) ∧
  ∀ m, (ns = [] → m = d) → (ns ≠ [] → m ∈ ns ∧ ∀ k ∈ ns, k ≤ m) → Q (.int m) H
theorem call_maxDK {X : Cx} (hc : X.calm = true) : CallRK X (.builtin "max") [Str.ofString "default"] (rMaxD X.K) := by
  intro pins s σ H xs zs us ws Q I r1 r2 h
  obtain ⟨a, ns, d, rfl, rfl, hs, q⟩ := h
  obtain ⟨its, rv, pl, hz⟩ := I.list hs
  rw [Vals.ref1 r1]
  obtain ⟨wd, rfl, rd⟩ := vals1 r2
  obtain ⟨td, rfl⟩ := rd
  have hi : IntsAre its ns := intsAre_of rv
  obtain ⟨ps, e⟩ := hi.allInts.items
  have hns : ns = ps.toList.map (·.1) := by rw [← hi.numsOf, ← nums_intItems, ← e]
  have hl := pl.isList
  rw [e] at hl
  show wpAny (model X.prog X.w) X.A (call (.builtin "max") [.ref a] [(Str.ofString "default", .int d td)]) (EP X pins σ Q) X.xe s
  refine call_maxD (I.ok.hd hc) hl fun v h' tk hv hk => ?_
  have I2 : Inv X pins σ H { s with heap := h', toks := tk } := I.kept fun b o z => hk b o z
  rcases hv with ⟨h0, rfl⟩ | ⟨hp, hv⟩
  · have hn0 : ns = [] := by
      rw [hns, List.map_eq_nil_iff]
      exact List.eq_nil_of_length_eq_zero (by rw [Array.length_toList]; exact h0)
    exact ⟨.int d, H, I2, ⟨_, rfl⟩, q d (fun _ => rfl) (fun z => absurd hn0 z)⟩
  · obtain ⟨t, rfl⟩ := intItems_at hv
    obtain ⟨h1, h2⟩ := argBest_gt (numAt ps) (ps.size - 1)
    refine ⟨.int _, H, I2, ⟨_, rfl⟩, q _ (fun z => ?_) fun _ => ⟨?_, fun k hk' => ?_⟩⟩
    · rw [hns, List.map_eq_nil_iff] at z
      have z2 : ps.size = 0 := by rw [← Array.length_toList, z]; rfl
      omega
    · rw [hns, numAt_eq]; exact getD_mem (by rw [List.length_map, Array.length_toList]; omega)
    · rw [hns] at hk'
      obtain ⟨j, hj, rfl⟩ := mem_getD hk'
      rw [List.length_map, Array.length_toList] at hj
      rw [← numAt_eq]; exact h2 j (by omega)
/-! ### plain data with atoms -/
inductive D where
  | non | bl (b : Bool) | int (i : Int) | str (s : Str) | tup (ds : List D) | lst (ds : List D) | dct | atom (k : Str) (ds : List D)
mutual
def rank : D → Nat
  | .tup ds => rankL ds
  | .atom k ds => if k = "seal" ∨ k = "page" then 1 else rankL ds + 1
  | _ => 0
def rankL : List D → Nat
  | [] => 0
  | d :: ds => max (rank d) (rankL ds)
end
mutual
/-- how many parts there are, those in atoms too -/
def sz : D → Nat
  | .tup ds => szL ds + 1
  | .lst ds => szL ds + 1
  | .atom _ ds => szL ds + 1
  | _ => 1
def szL : List D → Nat
  | [] => 0
  | d :: ds => sz d + szL ds
end
/-- the fields of an atom -/
def atF (k : Str) (t : Addr) (r : Nat) : List (Str × V) := [("kind", .str k), ("term", .ref t), ("rank", .int (r : Int)), ("_stripped", .non)]
mutual
inductive Is (C : Addr) (H : Hp) : V → D → Prop
  | non : Is C H .non .non
  | bl (b : Bool) : Is C H (.bl b) (.bl b)
  | int (i : Int) : Is C H (.int i) (.int i)
  | str (s : Str) : Is C H (.str s) (.str s)
  | tup {a : Addr} {xs : List V} {ds : List D} (h : H a = some (.tup xs)) (t : IsA C H xs ds) : Is C H (.ref a) (.tup ds)
  | lst {a : Addr} {xs : List V} {ds : List D} (h : H a = some (.lst xs)) (t : IsA C H xs ds) : Is C H (.ref a) (.lst ds)
  | dct {a : Addr} {kvs : List (Key × V)} (h : H a = some (.dK kvs)) : Is C H (.ref a) .dct
  | atom {a dx t : Addr} {k : Str} {xs : List V} {ds : List D} (h : H a = some (.ins C dx (atF k t (rank (.atom k ds))))) (h2 : H t = some (.tup xs)) (t : IsA C H xs ds) : Is C H (.ref a) (.atom k ds)
inductive IsA (C : Addr) (H : Hp) : List V → List D → Prop
  | nil : IsA C H [] []
  | cons {x : V} {xs : List V} {d : D} {ds : List D} (h : Is C H x d) (t : IsA C H xs ds) : IsA C H (x :: xs) (d :: ds)
end
mutual
theorem Is.same {C : Addr} {H H' : Hp} (e : Same H H') : ∀ {x : V} {d : D}, Is C H x d → Is C H' x d
  | _, _, .non => .non
  | _, _, .bl b => .bl b
  | _, _, .int i => .int i
  | _, _, .str s => .str s
  | _, _, .tup h t => .tup (e _ _ h) (IsA.same e t)
  | _, _, .lst h t => .lst (e _ _ h) (IsA.same e t)
  | _, _, .dct h => .dct (e _ _ h)
  | _, _, .atom h h2 t => .atom (e _ _ h) (e _ _ h2) (IsA.same e t)
theorem IsA.same {C : Addr} {H H' : Hp} (e : Same H H') : ∀ {xs : List V} {ds : List D}, IsA C H xs ds → IsA C H' xs ds
  | _, _, .nil => .nil
  | _, _, .cons h t => .cons (Is.same e h) (IsA.same e t)
end
theorem IsA.len {C : Addr} {H : Hp} : ∀ {xs : List V} {ds : List D}, IsA C H xs ds → xs.length = ds.length
  | _, _, .nil => rfl
  | _, _, .cons _ t => congrArg (· + 1) t.len
theorem IsA.at {C : Addr} {H : Hp} : ∀ {xs : List V} {ds : List D} {i : Nat} {x : V}, IsA C H xs ds → xs[i]? = some x → ∃ d, ds[i]? = some d ∧ Is C H x d
  | _, _, _, _, .nil, h => by simp at h
  | _, _, 0, _, .cons h _, e => by simp at e; subst e; exact ⟨_, rfl, h⟩
  | _, _, i + 1, _, .cons _ t, e => by
    obtain ⟨d, h1, h2⟩ := IsA.at (i := i) t (by simpa using e)
    exact ⟨d, by simpa using h1, h2⟩
theorem IsA.get {C : Addr} {H : Hp} : ∀ {xs : List V} {ds : List D} {i : Nat} {d : D}, IsA C H xs ds → ds[i]? = some d → ∃ x, xs[i]? = some x ∧ Is C H x d
  | _, _, _, _, .nil, h => by simp at h
  | _, _, 0, _, .cons h _, e => by simp at e; subst e; exact ⟨_, rfl, h⟩
  | _, _, i + 1, _, .cons _ t, e => by
    obtain ⟨d, h1, h2⟩ := IsA.get (i := i) t (by simpa using e)
    exact ⟨d, by simpa using h1, h2⟩
theorem IsA.app {C : Addr} {H : Hp} : ∀ {xs ys : List V} {ds es : List D}, IsA C H xs ds → IsA C H ys es → IsA C H (xs ++ ys) (ds ++ es)
  | _, _, _, _, .nil, t => t
  | _, _, _, _, .cons h u, t => .cons h (u.app t)
theorem IsA.rev {C : Addr} {H : Hp} : ∀ {xs : List V} {ds : List D}, IsA C H xs ds → IsA C H xs.reverse ds.reverse
  | _, _, .nil => .nil
  | _, _, .cons h t => by
    rw [List.reverse_cons, List.reverse_cons]
    exact t.rev.app (.cons h .nil)
theorem IsA.concat {C : Addr} {H : Hp} : ∀ {xs : List V} {ds : List D} {e : D}, IsA C H xs (ds.concat e) → ∃ ys y, xs = ys ++ [y] ∧ IsA C H ys ds ∧ Is C H y e
  | _, [], _, .cons h .nil => ⟨[], _, rfl, .nil, h⟩
  | _, d :: ds, e, .cons h t => by
    obtain ⟨ys, y, e1, h1, h2⟩ := IsA.concat (ds := ds) (e := e) t
    exact ⟨_ :: ys, y, by rw [e1]; rfl, .cons h h1, h2⟩
theorem rankL_app : ∀ (a b : List D), rankL (a ++ b) = max (rankL a) (rankL b)
  | [], b => by simp [rankL]
  | x :: a, b => by rw [List.cons_append]; simp only [rankL]; rw [rankL_app a b]; omega
theorem szL_app : ∀ (a b : List D), szL (a ++ b) = szL a + szL b
  | [], b => by simp [szL]
  | x :: a, b => by rw [List.cons_append]; simp only [szL]; rw [szL_app a b]; omega
theorem szL_rev : ∀ (a : List D), szL a.reverse = szL a
  | [] => rfl
  | x :: a => by rw [List.reverse_cons, szL_app, szL_rev a]; simp only [szL]; omega
theorem sz_pos (d : D) : 1 ≤ sz d := by cases d <;> simp [sz]
theorem len_szL : ∀ (a : List D), a.length ≤ szL a
  | [] => Nat.le_refl _
  | x :: a => by
    have := len_szL a
    have := sz_pos x
    simp only [szL, List.length_cons]; omega
/-! ### kinds of values -/
def kyV (C : Addr) : D → V
  | .non => .ty "NoneType" | .bl _ => .ty "bool" | .int _ => .ty "int" | .str _ => .ty "str" | .tup _ => .ty "tuple" | .lst _ => .ty "list" | .dct => .ty "dict" | .atom _ _ => .ref C
def kyU (C : Addr) : D → Value
  | .non => .type "NoneType" | .bl _ => .type "bool" | .int _ => .type "int" | .str _ => .type "str" | .tup _ => .type "tuple" | .lst _ => .type "list" | .dct => .type "dict" | .atom _ _ => .ref C
def rTyA (C : Addr) : List V → Hp → VK → Prop := fun xs H Q => ∃ x d, xs = [x] ∧ Is C H x d ∧ Q (kyV C d) H
/-- what is known of the class at C -/
structure Cl (K : PySem.W.Frag) (C : Addr) : Prop where
  cl : Cls K C
  ha : PySem.W.findIn K (.ref C) "__class__" = some (some (.builtin "object.__class__"))
  hn : PySem.W.specialIn K (.builtin "object.__class__") "__get__" = some (some (.builtin "getset_descriptor.__get__"))
  htk : PySem.W.takesIn K (.builtin "object.__class__") = some true
  hm : PySem.W.mroIn K C (.type "object") = some true
  me : PySem.W.kitOne K (.ref C) (.ref C) = some true
  mi : PySem.W.makesIn K C = true
  nK : NoAttr K C "kind"
  nT : NoAttr K C "term"
  nR : NoAttr K C "rank"
  nS : NoAttr K C "_stripped"
section
variable {X : Cx} {C : Addr}
theorem Is.tyX {K : PySem.W.Frag} {H : Hp} (T : Cl K C) {x : V} {d : D} (h : Is C H x d) : TyX K H x (kyU C d) := by
  cases h with
  | non => exact .base .non
  | bl b => exact .base (.bl b)
  | int i => exact .base (.int i)
  | str s => exact .base (.str s)
  | tup h _ => exact .base (.tup h)
  | lst h _ => exact .base (.lst h)
  | dct h => exact .base (.dK h)
  | atom h _ _ => exact .base (.ins h T.cl T.ha T.hn T.htk T.hm)
theorem call_typeA : CallR X (.type "type") (rTyA C) := fun pins s σ H xs us Q I r h => by
  obtain ⟨x, d, e, t, q⟩ := h
  cases t with
  | non => exact call_type1 pins s σ H xs us Q I r ⟨_, _, e, .non, q⟩
  | bl b => exact call_type1 pins s σ H xs us Q I r ⟨_, _, e, .bl b, q⟩
  | int i => exact call_type1 pins s σ H xs us Q I r ⟨_, _, e, .int i, q⟩
  | str z => exact call_type1 pins s σ H xs us Q I r ⟨_, _, e, .str z, q⟩
  | tup h _ => exact call_type1 pins s σ H xs us Q I r ⟨_, _, e, .tup (SqT.of h), q⟩
  | lst h _ => exact call_type1 pins s σ H xs us Q I r ⟨_, _, e, .lst (SqL.of h), q⟩
  | dct h => exact call_type1 pins s σ H xs us Q I r ⟨_, _, e, .dK h, q⟩
  | atom h _ _ => exact cr_type pins s σ H xs us Q I r ⟨_, _, _, _, e, h, q⟩
/-- a type is a type: of built-in ones, and of the class at C -/
def TyOk (C : Addr) (x : V) : Prop := (∃ n, x = .ty n) ∨ x = .ref C
def rIsTyA (C : Addr) : R2 := fun x y H Q => TyOk C x ∧ TyOk C y ∧ Q (.bl (decide (x = y))) H
def rIsNotTyA (C : Addr) : R2 := fun x y H Q => TyOk C x ∧ TyOk C y ∧ Q (.bl (!decide (x = y))) H
theorem kyV_ok (d : D) : TyOk C (kyV C d) := by cases d <;> first | exact .inl ⟨_, rfl⟩ | exact .inr rfl
theorem op_isTyA : OpR X (compareOp .Is) (rIsTyA C) := by
  intro pins s σ H x y v u Q I rx ry h
  obtain ⟨hx, hy, q⟩ := h
  rcases hx with ⟨m, rfl⟩ | rfl <;> rcases hy with ⟨n, rfl⟩ | rfl
  · exact op_isTy pins s σ H _ _ v u Q I rx ry ⟨m, n, rfl, rfl, by simpa using q⟩
  · cases (show v = Value.type m from rx)
    cases (show u = Value.ref _ from ry)
    exact wpAny_is_other rfl (fun z => nomatch z) ⟨.bl false, H, I, rfl, by simpa using q⟩
  · cases (show v = Value.ref _ from rx)
    cases (show u = Value.type n from ry)
    exact wpAny_is_other rfl (fun z => nomatch z) ⟨.bl false, H, I, rfl, by simpa using q⟩
  · exact op_is_cls pins s σ H _ _ v u Q I rx ry ⟨C, C, rfl, rfl, .inl rfl, by simpa using q⟩
theorem op_isNotTyA : OpR X (compareOp .IsNot) (rIsNotTyA C) := by
  intro pins s σ H x y v u Q I rx ry h
  obtain ⟨hx, hy, q⟩ := h
  rcases hx with ⟨m, rfl⟩ | rfl <;> rcases hy with ⟨n, rfl⟩ | rfl
  · exact op_isNotTy pins s σ H _ _ v u Q I rx ry ⟨m, n, rfl, rfl, by simpa using q⟩
  · cases (show v = Value.type m from rx)
    cases (show u = Value.ref _ from ry)
    exact wpAny_isNot_other rfl (fun z => nomatch z) ⟨.bl true, H, I, rfl, by simpa using q⟩
  · cases (show v = Value.ref _ from rx)
    cases (show u = Value.type n from ry)
    exact wpAny_isNot_other rfl (fun z => nomatch z) ⟨.bl true, H, I, rfl, by simpa using q⟩
  · exact op_isnot_cls pins s σ H _ _ v u Q I rx ry ⟨C, C, rfl, rfl, .inl rfl, by simpa using q⟩
/-- isinstance(x, c): c a built-in type or the class at C -/
def rIsiA (K : PySem.W.Frag) (C : Addr) : List V → Hp → VK → Prop := fun xs H Q => ∃ x d c u b, xs = [x, c] ∧ Is C H x d ∧ ClsV c u ∧ PySem.W.kitOne K (kyU C d) u = some b ∧ Q (.bl b) H
theorem call_isiA (T : Cl X.K C) : CallR X (.builtin "isinstance") (rIsiA X.K C) := fun pins s σ H xs us Q I r h => by
  obtain ⟨x, d, c, u, b, e, t, k, kt, q⟩ := h
  exact call_isi pins s σ H xs us Q I r ⟨x, c, _, _, b, e, k, t.tyX T, kt, q⟩
end
mutual
theorem Is.uniq {C : Addr} {H : Hp} : ∀ {x : V} {d e : D}, Is C H x d → Is C H x e → d = e
  | _, _, _, .non, .non => rfl
  | _, _, _, .bl _, .bl _ => rfl
  | _, _, _, .int _, .int _ => rfl
  | _, _, _, .str _, .str _ => rfl
  | _, _, _, .tup h t, g => by
    cases g with
    | tup h' t' =>
      rw [h] at h'
      cases h'
      rw [IsA.uniq t t']
    | lst h' _ => rw [h] at h'; cases h'
    | dct h' => rw [h] at h'; cases h'
    | atom h' _ _ => rw [h] at h'; cases h'
  | _, _, _, .lst h t, g => by
    cases g with
    | lst h' t' =>
      rw [h] at h'
      cases h'
      rw [IsA.uniq t t']
    | tup h' _ => rw [h] at h'; cases h'
    | dct h' => rw [h] at h'; cases h'
    | atom h' _ _ => rw [h] at h'; cases h'
  | _, _, _, .dct h, g => by
    cases g with
    | dct h' => rfl
    | tup h' _ => rw [h] at h'; cases h'
    | lst h' _ => rw [h] at h'; cases h'
    | atom h' _ _ => rw [h] at h'; cases h'
  | _, _, _, .atom h h2 t, g => by
    cases g with
    | tup h' _ => rw [h] at h'; cases h'
    | lst h' _ => rw [h] at h'; cases h'
    | dct h' => rw [h] at h'; cases h'
    | atom h' h2' t' =>
      have e := Option.some.inj (h.symm.trans h')
      unfold atF at e
      injection e with e1 e2 e3
      injection e3 with e4 e5
      injection e5 with e6 e7
      have ek := V.str.inj (congrArg Prod.snd e4)
      have et := V.ref.inj (congrArg Prod.snd e6)
      subst ek
      subst et
      rw [h2] at h2'
      cases h2'
      rw [IsA.uniq t t']
theorem IsA.uniq {C : Addr} {H : Hp} : ∀ {xs : List V} {ds es : List D}, IsA C H xs ds → IsA C H xs es → ds = es
  | _, _, _, .nil, .nil => rfl
  | _, _, _, .cons h t, .cons h' t' => by rw [Is.uniq h h', IsA.uniq t t']
end
end Hr

namespace Hr
open PySem PySem.SeqAt PyProof.Rows
open AutoSeq1 (wpAny_loadPart')
open MeetsSeq MeetsSeq2 MeetsSeq3 SeqRoads2
theorem ext_tup (l : Addr) (items : Array Value) (n : Nat) (b : Addr) (items2 : Array Value) (n2 : Nat) (dd : Option Addr) (sl : Array (Option Value)) (hs0 : ¬(!items.isEmpty && Builtin.List.listTooLong (items.size + items2.size)) = true) (hs1 : items.size ≤ sizeLine) (hs2 : items.size + items2.size ≤ sizeLine + 1) :
    Meets (Builtin.«list.extend» ⟨[.ref l, .ref b], []⟩) (fun _ R s => s.heap.get? l = some { cls := .type "list", dict := none, data := .seq items n, slots := #[] } ∧ s.heap.get? b = some { cls := .type "tuple", dict := dd, data := .seq items2 n2, slots := sl } ∧
      R (.ok (.ret Value.none)) { s with heap := s.heap.update l (Obj.mapSeq fun x => x ++ items2), toks := s.toks }) :=
  .of_wp fun prog w A R s h => by
    obtain ⟨hp, g, d, tk, os⟩ := s
    obtain ⟨hl, hb, h⟩ := h
    have g1 := AutoSeq1.sub_tuple_tuple
    have g2 := AutoSeq1.sub_list_list
    have g3 := AutoSeq1.sub_tuple_list
    have g4 := AutoSeq1.sub_list_tuple
    have hz' : (items ++ items2).size ≤ sizeLine + 1 := by rw [Array.size_append]; exact hs2
    wp_walk using (wpAny_updateSeq hl rfl (hz := hs1) (_hz' := hz')), wpAny_loadPart' hl, wpAny_loadPart' hb
    exact ⟨_, rfl, h⟩
end Hr
namespace Hr
open PySem PySem.Spec PyProof.Rows L2
/-- xs.extend(t), t a tuple -/
def rExtT : V → List V → Hp → VK → Prop := fun x vs H Q => ∃ l b xs zs, x = .ref l ∧ vs = [.ref b] ∧ H l = some (.lst xs) ∧ H b = some (.tup zs) ∧ xs.length + zs.length ≤ sizeLine ∧ Q .non (upd H l (.lst (xs ++ zs)))
theorem mt_extendT {X : Cx} : MtM X "list.extend" rExtT := by
  intro pins s σ H x vs v us Q I rx rv h
  obtain ⟨l, b, xs, zs, rfl, rfl, hH, hB, hz, q⟩ := h
  cases rx
  obtain ⟨u, rfl, ru⟩ := rv.one
  cases ru
  obtain ⟨z, its, n, r, hl, e⟩ := I.lstM hH
  obtain ⟨its2, r2, ⟨⟨oc, od, dt, sl⟩, e2, hc2, n2, hd2⟩, hz2⟩ := I.tuple (SqT.of hB)
  simp only at hc2 hd2
  subst hc2 hd2
  have hl2 := r2.length
  have hsz : its.toArray.size + its2.toArray.size ≤ sizeLine := by rw [List.size_toArray, List.size_toArray]; omega
  have hlong : ¬ (!its.toArray.isEmpty && Builtin.List.listTooLong (its.toArray.size + its2.toArray.size)) = true := by
    rw [notLongL hsz, Bool.and_false]
    exact Bool.false_ne_true
  refine call_meets F.slot_list_extend ⟨_, e, rfl⟩ F.entry_list_extend (F.args_list_extend_2 _ _)
    (ext_tup l its.toArray n b its2.toArray n2 od sl hlong (by rw [List.size_toArray]; omega) (by omega)) ⟨e, e2, ?_⟩
  refine ⟨.non, _, I.lset (its' := its ++ its2) hH e (by simp) (r.append r2) ?_, rfl, q⟩
  rw [List.length_append]
  omega
end Hr

namespace Hc
open PySem PySem.Spec PyProof.Rows L2 Hr
def top (i : Nat) : Stmt := PySem.Challenge.pw_hermitcell_k62_what_a_host_can_make.main.body.getD i (.Pass ⟨0, 0, 0, 0⟩)
theorem bt_type : bootBuiltins "type" = some (.type "type") := by decide +kernel
theorem bt_int : bootBuiltins "int" = some (.type "int") := by decide +kernel
theorem bt_str : bootBuiltins "str" = some (.type "str") := by decide +kernel
theorem bt_bool : bootBuiltins "bool" = some (.type "bool") := by decide +kernel
theorem bt_tuple : bootBuiltins "tuple" = some (.type "tuple") := by decide +kernel
theorem bt_list : bootBuiltins "list" = some (.type "list") := by decide +kernel
theorem bt_range : bootBuiltins "range" = some (.type "range") := by decide +kernel
theorem bt_zip : bootBuiltins "zip" = some (.type "zip") := by decide +kernel
theorem bt_dict : bootBuiltins "dict" = some (.type "dict") := by decide +kernel
theorem bt_len : bootBuiltins "len" = some (.builtin "len") := by decide +kernel
theorem bt_all : bootBuiltins "all" = some (.builtin "all") := by decide +kernel
theorem bt_max : bootBuiltins "max" = some (.builtin "max") := by decide +kernel
theorem bt_isinstance : bootBuiltins "isinstance" = some (.builtin "isinstance") := by decide +kernel
theorem bt_abs : bootBuiltins "abs" = some (.builtin "abs") := by decide +kernel
/-- a tuple of texts in the written part -/
def KTup (K : PySem.W.Frag) (a : Addr) (ts : List Str) : Prop := ∀ H : Hp, SqT K H a (ts.map V.str)
/-- what the top has -/
structure Txt (K : PySem.W.Frag) (mg : Str → Option Value) (w : World) (C : Addr) : Prop where
  cl : Cl K C
  g_Atom : mg "Atom" = some (.ref C)
  z_type : mg "type" = none
  z_int : mg "int" = none
  z_str : mg "str" = none
  z_bool : mg "bool" = none
  z_tuple : mg "tuple" = none
  z_list : mg "list" = none
  z_range : mg "range" = none
  z_zip : mg "zip" = none
  z_dict : mg "dict" = none
  z_len : mg "len" = none
  z_all : mg "all" = none
  z_max : mg "max" = none
  z_isinstance : mg "isinstance" = none
  z_abs : mg "abs" = none
  c_LEAST : ∃ u, mg "LEAST" = some u ∧ RelV (.int (-2147483648)) u
  c_GREATEST : ∃ u, mg "GREATEST" = some u ∧ RelV (.int (2147483647)) u
  c_MOST_CHARACTERS : ∃ u, mg "MOST_CHARACTERS" = some u ∧ RelV (.int (24)) u
  c_MOST_DEEP : ∃ u, mg "MOST_DEEP" = some u ∧ RelV (.int (40)) u
  c_MOST_RANK : ∃ u, mg "MOST_RANK" = some u ∧ RelV (.int (40)) u
  c_MOST_RANK_HOST : ∃ u, mg "MOST_RANK_HOST" = some u ∧ RelV (.int (36)) u
  forms : ∃ Fo t1 t2 t3 t4 t5, (∃ u, mg "_FORMS" = some u ∧ RelV (.ref Fo) u) ∧ (∃ es n, KDict K w Fo es n) ∧
    KDct K w Fo "token" (.ref t1) ∧ KDct K w Fo "challenge" (.ref t2) ∧ KDct K w Fo "seal" (.ref t3) ∧ KDct K w Fo "page" (.ref t4) ∧ KDct K w Fo "ticket" (.ref t5) ∧ PySem.W.nsIn K Fo "key" = some none ∧
    KTup K t1 ["text", "tuple", "word"] ∧ KTup K t2 ["text", "number"] ∧ KTup K t3 ["text", "number", "number", "hidden"] ∧ KTup K t4 ["text", "number", "number", "hidden"] ∧ KTup K t5 ["text", "number", "text", "tuple", "pages", "tuple"]
  kit : ∀ (d : D) (n : String), n ∈ ["int", "str", "tuple", "bool", "list", "dict"] → PySem.W.kitOne K (kyU C d) (.type n) = some (match d with | .int _ => n == "int" | .bl _ => n == "int" || n == "bool" | .str _ => n == "str" | .tup _ => n == "tuple" | .lst _ => n == "list" | .dct => n == "dict" | _ => false)
  kitC : ∀ d : D, PySem.W.kitOne K (kyU C d) (.ref C) = some (match d with | .atom _ _ => true | _ => false)
end Hc

namespace Hc
open PySem PySem.Spec PyProof.Rows L2 Hr
theorem ifT {p A B : Prop} [Decidable p] (hp : p) (h : A) : if decide p = true then A else B := by
  rw [decide_eq_true hp]; exact iteT h
theorem ifF {p A B : Prop} [Decidable p] (hp : ¬ p) (h : B) : if decide p = true then A else B := by
  rw [decide_eq_false hp]; exact iteF h
theorem bT {b : Bool} {A B : Prop} (hb : b = true) (h : A) : if b = true then A else B := by
  rw [hb]; exact iteT h
theorem bF {b : Bool} {A B : Prop} (hb : b = false) (h : B) : if b = true then A else B := by
  rw [hb]; exact iteF h
theorem bcase {b : Bool} {A B : Prop} (h1 : b = true → A) (h2 : b = false → B) : if b = true then A else B := by
  cases b with
  | true => exact iteT (h1 rfl)
  | false => exact iteF (h2 rfl)
/-- a comprehension without a test -/
theorem yes {σ : L2.St} {H : Hp} {A B : Hp → Prop} (h : A H) : tYes σ H fun b H3 => if b = true then A H3 else B H3 := by
  show (if true = true then A H else B H)
  exact iteT h
theorem same_new {q : Addr} {H : Hp} {o : HO} (h : H q = none) : Same H (L2.upd H q o) := fun c x e => by rw [upd_ne (ne_of_none e h)]; exact e
theorem sfree {H H' : Hp} (e : Same H H') {p : Addr} (h : H' p = none) : H p = none := e.free h
/-! ### what the defs tell -/
def numOk (i : Int) : Bool := decide (-2147483648 ≤ i) && decide (i ≤ 2147483647)
def isNum : D → Bool | .int i => numOk i | _ => false
def sgn (c : Nat) : Bool := decide (32 ≤ c) && decide (c ≤ 126)
def txtOk (s : Str) : Bool := decide (s.length ≤ 24) && s.cps.toList.all sgn
def isTxt : D → Bool | .str s => txtOk s | _ => false
/-- one value is asked; new objects may be made -/
def spB (C : Addr) (ok : D → Prop) (f : D → Bool) : Sp := fun vs H Q _ => ∃ x d, vs = [x] ∧ Is C H x d ∧ ok d ∧ ∀ H', Same H H' → Q (.bl (f d)) H'
theorem kyV_int {C : Addr} {d : D} : (kyV C d = .ty "int") ↔ ∃ i, d = .int i := by cases d <;> simp [kyV]
theorem kyV_str {C : Addr} {d : D} : (kyV C d = .ty "str") ↔ ∃ i, d = .str i := by cases d <;> simp [kyV]
theorem kyV_tup {C : Addr} {d : D} : (kyV C d = .ty "tuple") ↔ ∃ i, d = .tup i := by cases d <;> simp [kyV]
theorem kyV_atom {C : Addr} {d : D} : (kyV C d = .ref C) ↔ ∃ k i, d = .atom k i := by cases d <;> simp [kyV]
section
variable {P : Program} {w : World} {K : PySem.W.Frag} {mg : Str → Option Value} {base : Heap} {f : Addr} {fd : FuncData} {C : Addr}
abbrev s_is_number : Stmt := top 12
theorem sc_is_number : FnScope ["value"] ["value"] (C8.fnScope s_is_number) := C8.fnScope_by (by decide +kernel)
theorem ok_is_number (F : C8.Def K mg "is_number" s_is_number f fd) (b : Binds K fd ["value"] []) (T : Txt K mg w C) : C8.Cal P w K mg base 1 "is_number" (spB C (fun _ => True) isNum) [] := by
  refine C8.cal0 F b .nil sc_is_number (fun vs H Q E h => ?_) (fun cdv A outer s H vs Q E hr h => ?_)
  · obtain ⟨x, d, rfl, _⟩ := h; rfl
  obtain ⟨x, d, rfl, hx, _, q⟩ := h
  refine ⟨_, (pss_one (ps_ret (pe_and (pe_cmpR (op_isTyA (C := C)) (pe_callTy (call_typeA (C := C)) rfl T.z_type bt_type (pa_cons (pv 0) pa_nil)) (pe_bltn (v := .ty "int") rfl T.z_int bt_int rfl) (nomark _)) (pe_one (pe_chain op_le op_le (C8.pe_gc rfl T.c_LEAST) (pv 0) (C8.pe_gc rfl T.c_GREATEST)))))), ?_⟩
  have q := q H (Same.refl H)
  refine ⟨x, rfl, x, d, rfl, hx, kyV_ok d, .inl ⟨_, rfl⟩, _, rfl, ?_⟩
  by_cases c : kyV C d = .ty "int"
  · refine ifT c ?_
    obtain ⟨i, rfl⟩ := kyV_int.mp c
    cases hx
    refine ⟨_, rfl, _, _, rfl, rfl, _, rfl, ite2 (fun c => ?_) (fun c => ?_)⟩
    · refine ⟨_, _, rfl, rfl, ?_⟩
      have e : isNum (.int i) = decide (i ≤ 2147483647) := by simp [isNum, numOk, of_decide_eq_true c]
      rw [e] at q; exact q
    · have e : isNum (.int i) = false := by simp [isNum, numOk] at c ⊢; omega
      rw [e] at q; exact q
  · have e : isNum d = false := by cases d <;> first | rfl | exact absurd rfl c
    rw [e] at q
    exact ifF c q
/-- signs between the space and the tilde -/
theorem lt_one (a b : Nat) : decide (([a] : List Nat) < [b]) = decide (a < b) := by
  by_cases h : a < b
  · rw [decide_eq_true h]; exact decide_eq_true (List.cons_lt_cons_iff.mpr (.inl h))
  · rw [decide_eq_false h]
    refine decide_eq_false fun z => ?_
    rcases List.cons_lt_cons_iff.mp z with z | ⟨_, z⟩
    · exact h z
    · cases z
abbrev s_is_text : Stmt := top 13
theorem sc_is_text : FnScope ["value", "character"] ["value"] (C8.fnScope s_is_text) := C8.fnScope_by (by decide +kernel)
theorem ok_is_text (F : C8.Def K mg "is_text" s_is_text f fd) (b : Binds K fd ["value"] []) (T : Txt K mg w C) : C8.Cal P w K mg base 1 "is_text" (spB C (fun d => ∀ s, d = .str s → s.length ≤ sizeLine) isTxt) [] := by
  refine C8.cal0 F b .nil sc_is_text (fun vs H Q E h => ?_) (fun cdv A outer s H vs Q E hr h => ?_)
  · obtain ⟨x, d, rfl, _⟩ := h; rfl
  obtain ⟨x, d, rfl, hx, hz, q⟩ := h
  refine ⟨_, (pss_cons (ps_if (PW.pt (pw_or (pt_cmpR (op_isNotTyA (C := C)) (pe_callTy (call_typeA (C := C)) rfl T.z_type bt_type (pa_cons (pv 0) pa_nil)) (pe_bltn (v := .ty "str") rfl T.z_str bt_str rfl) (nomark _)) (pw_or1 (pt_cmpR op_gt (pe_callB call_len_str rfl T.z_len bt_len (pa_cons (pv 0) pa_nil)) (C8.pe_gc rfl T.c_MOST_CHARACTERS) (nomark _))))) (pss_one (ps_ret pe_bl)) pss_nil)
      (pss_one (ps_ret (pe_callB (cr_all rfl) rfl T.z_all bt_all (pa_cons (pe_lc (own := [("character", 1)]) (g := gName 1) rfl sc_is_text.nd (pi_str (pv 0)) (blkOk_by (own := [("character", 1)]) (N := ["value", "character"]) (sc := C8.fnScope s_is_text) (by decide +kernel)) (fun _ _ _ _ _ => (pg_name (i := 1) sc_is_text.nd rfl (Or.inl rfl))) (fun _ _ _ _ _ => pts_nil) (fun _ _ _ _ _ => (pe_chain op_le_str op_le_str pe_str (pv 1) pe_str))) pa_nil))))), ?_⟩
  refine ⟨x, rfl, x, d, rfl, hx, kyV_ok d, .inl ⟨_, rfl⟩, _, rfl, ?_⟩
  by_cases c : kyV C d = .ty "str"
  · rw [decide_eq_true c]
    obtain ⟨z, rfl⟩ := kyV_str.mp c
    cases hx
    refine iteF ⟨_, rfl, z, rfl, hz z rfl, _, _, rfl, rfl, _, rfl, ite2 (fun c => ?_) (fun c => ?_)⟩
    · have e : isTxt (.str z) = false := by
        simp only [isTxt, txtOk]
        rw [decide_eq_false (by simp at c; omega)]; rfl
      have q := q H (Same.refl H)
      rw [e] at q; exact q
    · have hlen : z.length ≤ 24 := by simp at c; omega
      have e : isTxt (.str z) = z.cps.toList.all sgn := by
        simp only [isTxt, txtOk]
        rw [decide_eq_true hlen]; rfl
      rw [e] at q
      refine ⟨_, rfl, z, rfl, fun Dl hD => ?_⟩
      refine lc_it (walk_str (z := z)) (fun i H' => Same H H' ∧ H' Dl = some (.lst ((z.cps.toList.take i).map fun c => V.bl (sgn c)))) ⟨same_new hD, upd_same⟩ (fun _ _ _ _ => trivial) ?_ ?_
      · rintro i y H0 H1 hi ⟨s1, hl⟩ ⟨rfl, c, hc, rfl⟩
        have hc' : z.cps.toList[i]? = some c := by rw [Array.getElem?_toList]; exact hc
        have go : ∀ H3, H3 = upd H1 Dl (.lst ((z.cps.toList.take i).map (fun c => V.bl (sgn c)) ++ [.bl (sgn c)])) → Same H H3 ∧ H3 Dl = some (.lst ((z.cps.toList.take (i + 1)).map fun c => V.bl (sgn c))) := fun H3 e3 => by
          subst e3
          refine ⟨fun p o hp => by rw [upd_ne (ne_of_none hp hD)]; exact s1 p o hp, ?_⟩
          rw [upd_same, List.take_add_one, hc', List.map_append]; rfl
        have hn : ((z.cps.toList.take i).map fun c => V.bl (sgn c)).length < sizeLine := by
          have h1 : z.cps.size = z.length := rfl
          rw [List.length_map, List.length_take, Array.length_toList]
          exact small1000 (by omega)
        refine ⟨rfl, yes ?_⟩
        refine ⟨_, rfl, _, _, rfl, rfl, _, rfl, ?_⟩
        have e1 : (!decide (([c] : List Nat) < [32])) = decide (32 ≤ c) := by
          rw [lt_one]; by_cases h : c < 32
          · rw [decide_eq_true h, decide_eq_false (by omega)]; rfl
          · rw [decide_eq_false h, decide_eq_true (by omega)]; rfl
        have e2 : (!decide (([126] : List Nat) < [c])) = decide (c ≤ 126) := by
          rw [lt_one]; by_cases h : 126 < c
          · rw [decide_eq_true h, decide_eq_false (by omega)]; rfl
          · rw [decide_eq_false h, decide_eq_true (by omega)]; rfl
        refine bcase (b := !decide (([c] : List Nat) < [32])) (fun hb => ?_) (fun hb => ?_)
        · refine ⟨_, _, rfl, rfl, _, hl, hn, go _ ?_⟩
          have : (!decide (([126] : List Nat) < [c])) = sgn c := by rw [e2]; rw [e1] at hb; simp only [sgn]; rw [hb, Bool.true_and]
          exact congrArg (fun k => upd H1 Dl (.lst ((z.cps.toList.take i).map (fun c => V.bl (sgn c)) ++ [.bl k]))) this
        · refine ⟨_, hl, hn, go _ ?_⟩
          have : false = sgn c := by rw [e1] at hb; simp only [sgn]; rw [hb, Bool.false_and]
          exact congrArg (fun k => upd H1 Dl (.lst ((z.cps.toList.take i).map (fun c => V.bl (sgn c)) ++ [.bl k]))) this
      · rintro H1 ⟨s1, hl⟩
        have ea : z.cps.toList.take z.cps.size = z.cps.toList := List.take_of_length_le (by rw [Array.length_toList]; exact Nat.le_refl _)
        rw [ea] at hl
        refine ⟨Dl, z.cps.toList.map sgn, rfl, SqL.of (by rw [List.map_map]; exact hl), ?_⟩
        have e9 : (z.cps.toList.map sgn).all id = z.cps.toList.all sgn := by rw [List.all_map]; rfl
        rw [e9]
        exact q H1 s1
  · have e : isTxt d = false := by cases d <;> first | rfl | exact absurd rfl c
    have q := q H (Same.refl H)
    rw [e] at q
    rw [decide_eq_false c]
    exact iteT q
end
end Hc

namespace Hc
open PySem PySem.Spec PyProof.Rows L2 Hr
mutual
/-- a word, nested so deep at most -/
def okW (md mr : Nat) : Nat → D → Bool
  | n, .tup ds => decide (n ≠ md) && okA md mr (n + 1) ds
  | _, .atom k ds => decide (rank (.atom k ds) ≤ mr)
  | _, .non => true
  | _, .int i => numOk i
  | _, .str s => txtOk s
  | _, _ => false
def okA (md mr : Nat) : Nat → List D → Bool
  | _, [] => true
  | n, d :: ds => okW md mr n d && okA md mr n ds
end
mutual
/-- no text is too long for the model's len -/
def txl : D → Prop
  | .str s => s.length ≤ sizeLine
  | .tup ds => txlL ds
  | .lst ds => txlL ds
  | .atom _ ds => txlL ds
  | _ => True
def txlL : List D → Prop
  | [] => True
  | d :: ds => txl d ∧ txlL ds
end
/-- data of a size that the lists bear -/
def Fit (d : D) : Prop := sz d ≤ 1000000 ∧ txl d
theorem okA_app (md mr n : Nat) : ∀ a b : List D, okA md mr n (a ++ b) = (okA md mr n a && okA md mr n b)
  | [], b => by simp [okA]
  | x :: a, b => by rw [List.cons_append]; simp only [okA]; rw [okA_app md mr n a b, Bool.and_assoc]
theorem okA_rev (md mr n : Nat) : ∀ a : List D, okA md mr n a.reverse = okA md mr n a
  | [] => rfl
  | x :: a => by rw [List.reverse_cons, okA_app, okA_rev md mr n a]; simp only [okA]; rw [Bool.and_true, Bool.and_comm]
theorem txlL_mem : ∀ {ds : List D} {d : D}, txlL ds → d ∈ ds → txl d
  | x :: ds, d, h, hd => by
    simp only [txlL] at h
    rcases List.mem_cons.mp hd with rfl | hd
    · exact h.1
    · exact txlL_mem h.2 hd
/-- the stack: pairs of a part and how deep it lies; the parts stood ahead of the call -/
inductive Stk (C : Addr) (H0 H : Hp) : List V → List (D × Nat) → Prop
  | nil : Stk C H0 H [] []
  | cons {q : Addr} {x : V} {d : D} {n : Nat} {xs : List V} {ps : List (D × Nat)} (h : H q = some (.tup [x, .int (n : Int)])) (hx : Is C H0 x d) (t : Stk C H0 H xs ps) : Stk C H0 H (.ref q :: xs) ((d, n) :: ps)
/-- the tuples stand -/
def Tups (H H' : Hp) : Prop := ∀ b xs, H b = some (.tup xs) → H' b = some (.tup xs)
theorem Tups.put {H : Hp} {l : Addr} {xs ys : List V} (h : H l = some (.lst xs)) : Tups H (L2.upd H l (.lst ys)) := fun b zs e => by
  rw [upd_ne (fun z => by rw [z, h] at e; cases e)]; exact e
theorem Tups.trans {H H1 H2 : Hp} (a : Tups H H1) (b : Tups H1 H2) : Tups H H2 := fun c xs h => b c xs (a c xs h)
theorem Tups.of {H H1 : Hp} (a : Same H H1) : Tups H H1 := fun c xs h => a c _ h
theorem Stk.keep {C : Addr} {H0 H H' : Hp} (e : Tups H H') : ∀ {xs : List V} {ps : List (D × Nat)}, Stk C H0 H xs ps → Stk C H0 H' xs ps
  | _, _, .nil => .nil
  | _, _, .cons h hx t => .cons (e _ _ h) hx (t.keep e)
theorem Stk.len {C : Addr} {H0 H : Hp} : ∀ {xs : List V} {ps : List (D × Nat)}, Stk C H0 H xs ps → xs.length = ps.length
  | _, _, .nil => rfl
  | _, _, .cons _ _ t => congrArg (· + 1) t.len
theorem Stk.app {C : Addr} {H0 H : Hp} : ∀ {xs ys : List V} {ps qs : List (D × Nat)}, Stk C H0 H xs ps → Stk C H0 H ys qs → Stk C H0 H (xs ++ ys) (ps ++ qs)
  | _, _, _, _, .nil, t => t
  | _, _, _, _, .cons h hx u, t => .cons h hx (u.app t)
theorem Stk.last {C : Addr} {H0 H : Hp} : ∀ {xs : List V} {ps : List (D × Nat)}, Stk C H0 H xs ps → ps ≠ [] → ∃ (q : Addr) (x : V) (d : D) (n : Nat) (ys : List V) (qs : List (D × Nat)), xs = ys ++ [.ref q] ∧ ps = qs ++ [(d, n)] ∧ H q = some (.tup [x, .int (n : Int)]) ∧ Is C H0 x d ∧ Stk C H0 H ys qs
  | _, _, .nil, h => absurd rfl h
  | _, _, .cons (ps := []) h hx .nil, _ => ⟨_, _, _, _, [], [], rfl, rfl, h, hx, .nil⟩
  | _, _, .cons (ps := p :: ps) h hx t, _ => by
    obtain ⟨q, x, d, n, ys, qs, e1, e2, h1, h2, h3⟩ := t.last (List.cons_ne_nil _ _)
    rw [e1, e2]
    exact ⟨q, x, d, n, _ :: ys, _ :: qs, rfl, rfl, h1, h2, .cons h hx h3⟩
/-- a list that is no argument of ours changes: what stood stays -/
theorem same_put {H H' : Hp} {l : Addr} {o : HO} (s : Same H H') (h : H l = none) : Same H (L2.upd H' l o) := fun b u e => by
  rw [upd_ne (ne_of_none e h)]; exact s b u e
def okS (md mr : Nat) : List (D × Nat) → Bool
  | [] => true
  | p :: ps => okW md mr p.2 p.1 && okS md mr ps
def szS : List (D × Nat) → Nat
  | [] => 0
  | p :: ps => sz p.1 + szS ps
theorem okS_app (md mr : Nat) : ∀ a b, okS md mr (a ++ b) = (okS md mr a && okS md mr b)
  | [], b => by simp [okS]
  | x :: a, b => by rw [List.cons_append]; simp only [okS]; rw [okS_app md mr a b, Bool.and_assoc]
theorem szS_app : ∀ a b, szS (a ++ b) = szS a + szS b
  | [], b => by simp [szS]
  | x :: a, b => by rw [List.cons_append]; simp only [szS]; rw [szS_app a b]; omega
theorem len_szS : ∀ a : List (D × Nat), a.length ≤ szS a
  | [] => Nat.le_refl _
  | x :: a => by
    have := len_szS a
    have := sz_pos x.1
    simp only [szS, List.length_cons]; omega
theorem okS_map (md mr n : Nat) : ∀ ds : List D, okS md mr (ds.map fun d => (d, n)) = okA md mr n ds
  | [] => by simp [okS, okA]
  | d :: ds => by simp only [List.map_cons, okS, okA]; rw [okS_map md mr n ds]
theorem szS_map (n : Nat) : ∀ ds : List D, szS (ds.map fun d => (d, n)) = szL ds
  | [] => by simp [szS, szL]
  | d :: ds => by simp only [List.map_cons, szS, szL]; rw [szS_map n ds]
def spWithin (C : Addr) : Sp := fun vs H Q _ => ∃ x d, ∃ md mr : Nat, vs = [x, .int (md : Int), .int (mr : Int)] ∧ Is C H x d ∧ Fit d ∧ ∀ H', Same H H' → Q (.bl (okW md mr 0 d)) H'
section
variable {P : Program} {w : World} {K : PySem.W.Frag} {mg : Str → Option Value} {base : Heap} {f : Addr} {fd : FuncData} {C : Addr}
abbrev s__is_within : Stmt := top 18
theorem sc__is_within : FnScope ["value", "most_deep", "most_rank", "todo", "part", "deep", "each"] ["value", "most_deep", "most_rank"] (C8.fnScope s__is_within) := C8.fnScope_by (by decide +kernel)
theorem ok__is_within (F : C8.Def K mg "_is_within" s__is_within f fd) (b : Binds K fd ["value", "most_deep", "most_rank"] []) (T : Txt K mg w C) (c_is_number : C8.Cal P w K mg base 1 "is_number" (spB C (fun _ => True) isNum) [])
    (c_is_text : C8.Cal P w K mg base 1 "is_text" (spB C (fun d => ∀ s, d = .str s → s.length ≤ sizeLine) isTxt) []) : C8.Cal P w K mg base 2 "_is_within" (spWithin C) [] := by
  refine C8.cal0 F b .nil sc__is_within (fun vs H Q E h => ?_) (fun cdv A outer s H vs Q E hr h => ?_)
  · obtain ⟨x, d, md, mr, rfl, _⟩ := h; rfl
  obtain ⟨x, d, md, mr, rfl, hx, hz, q⟩ := h
  refine ⟨_, (pss_cons (ps_set (i := 3) sc__is_within.nd rfl (Or.inl rfl) (pe_lst (pa_cons (pe_tup (pa_cons (pv 0) (pa_cons pe_int pa_nil))) pa_nil)))
      (pss_cons (ps_while PassesOwn.never (pt_truth (pv 3) (fun _ => rfl))
      (pss_cons (ps_asg (pe_bm0 PySem.F.plainAttrs_list PySem.F.slot_list_pop PySem.F.type_list_pop mt_pop (pv 3)) (pg_tup rfl (pgs_cons (pg_name (i := 4) sc__is_within.nd rfl (Or.inl rfl)) (pgs_cons (pg_name (i := 5) sc__is_within.nd rfl (Or.inr rfl)) pgs_nil))))
      (pss_one (ps_if (pt_cmpR (op_isTyA (C := C)) (pe_callTy (call_typeA (C := C)) rfl T.z_type bt_type (pa_cons (pv 4) pa_nil)) (pe_bltn (v := .ty "tuple") rfl T.z_tuple bt_tuple rfl) (nomark _)) (pss_cons (ps_if (pt_cmpR op_eq (pv 5) (pv 1) (nomark _)) (pss_one (ps_ret pe_bl)) pss_nil)
      (pss_one (ps_expr (pe_bm PySem.F.plainAttrs_list PySem.F.slot_list_extend PySem.F.type_list_extend mt_extend (pv 3) (pa_cons (pe_lc (own := [("each", 6)]) (g := gName 6) rfl sc__is_within.nd (pi_tup (pv 4)) (blkOk_by (own := [("each", 6)]) (N := ["value", "most_deep", "most_rank", "todo", "part", "deep", "each"]) (sc := C8.fnScope s__is_within) (by decide +kernel)) (fun _ _ _ _ _ => (pg_name (i := 6) sc__is_within.nd rfl (Or.inl rfl))) (fun _ _ _ _ _ => pts_nil) (fun _ _ _ _ _ => (pe_tup (pa_cons (pv 6) (pa_cons (pe_op op_add (pv 5) pe_int) pa_nil))))) pa_nil))))) (pss_one (ps_if (pt_cmpR (op_isTyA (C := C)) (pe_callTy (call_typeA (C := C)) rfl T.z_type bt_type (pa_cons (pv 4) pa_nil)) (pe_glob (v := .ref C) rfl T.g_Atom rfl) (nomark _)) (pss_one (ps_if (pt_cmpR op_gt (pe_fld (pv 4) rfl) (pv 2) (nomark _)) (pss_one (ps_ret pe_bl)) pss_nil)) (pss_one (ps_if (PW.pt (pw_and (pt_cmpR op_notN (pv 4) pe_non (nomark _)) (pw_and (pt_not (pt_val (C8.pe_c c_is_number hr (by first | decide | omega) rfl (pa_cons (pv 4) pa_nil)))) (pw_and1 (pt_not (pt_val (C8.pe_c c_is_text hr (by first | decide | omega) rfl (pa_cons (pv 4) pa_nil)))))))) (pss_one (ps_ret pe_bl)) pss_nil))))))))
      (pss_one (ps_ret pe_bl)))), ?_⟩
  refine ⟨_, rfl, (by show 2 ≤ sizeLine; decide), fun q0 hq0 => ⟨(by show 1 ≤ sizeLine; decide), fun l hl => ?_⟩⟩
  have s1 := same_new (o := .tup [x, .int 0]) hq0
  have s2 := same_new (o := .lst [.ref q0]) hl
  have hl0 : H l = none := s1.free hl
  refine ⟨fun m σ' H' => ∃ v4 v5 xs ps, σ' = [some x, some (.int (md : Int)), some (.int (mr : Int)), some (.ref l), v4, v5, none] ∧ Same H H' ∧ H' l = some (.lst xs) ∧ Stk C H H' xs ps ∧ okS md mr ps = okW md mr 0 d ∧ m = szS ps ∧ szS ps ≤ 1000000 ∧ ∀ p ∈ ps, txl p.1,
    ⟨_, none, none, [.ref q0], [(d, 0)], rfl, s1.trans s2, upd_same, .cons (s2 _ _ upd_same) hx .nil, by simp [okS], rfl, by simp [szS]; exact hz.1, fun p hp => by rw [List.mem_singleton.mp hp]; exact hz.2⟩, ?_⟩
  rintro m σ' H' ⟨v4, v5, xs, ps, rfl, sm, hl', st, ok, rfl, hm, hs⟩
  refine ⟨_, rfl, _, .inl ⟨xs, SqL.of hl', rfl⟩, ?_⟩
  by_cases hps : ps = []
  · subst hps
    cases st
    refine iteF ?_
    have q := q H' sm
    rw [← ok] at q
    exact q
  obtain ⟨qa, y, e, n, ys, qs, rfl, rfl, hq, hy, st'⟩ := st.last hps
  refine bT (by simp) ⟨fun σ2 H2 => ∃ m', m' < szS (qs ++ [(e, n)]) ∧ ∃ v4 v5 xs ps, σ2 = [some x, some (.int (md : Int)), some (.int (mr : Int)), some (.ref l), v4, v5, none] ∧ Same H H2 ∧ H2 l = some (.lst xs) ∧ Stk C H H2 xs ps ∧ okS md mr ps = okW md mr 0 d ∧ m' = szS ps ∧ szS ps ≤ 1000000 ∧ ∀ p ∈ ps, txl p.1, fun σ2 H2 h => h, ?_⟩
  -- part, deep = todo.pop()
  refine ⟨_, rfl, .inl ⟨rfl, _, SqL.of hl'⟩, l, _, .ref qa, rfl, rfl, hl', by simp, ?_⟩
  rw [List.dropLast_concat]
  have tp := Tups.put (ys := ys) hl'
  refine ⟨qa, [y, .int (n : Int)], rfl, SqT.of (tp _ _ hq), rfl, y, [.int (n : Int)], rfl, .int (n : Int), [], rfl, rfl, ?_⟩
  have sm2 : Same H (upd H' l (.lst ys)) := same_put sm hl0
  have hys : (upd H' l (.lst ys)) l = some (.lst ys) := upd_same
  have st2 := st'.keep tp
  rw [okS_app] at ok
  have hsz : szS (qs ++ [(e, n)]) = szS qs + sz e := by rw [szS_app]; simp [szS]
  have hse := sz_pos e
  have hqs : ∀ p ∈ qs, txl p.1 := fun p hp => hs p (List.mem_append_left _ hp)
  have hse2 : txl e := hs (e, n) (List.mem_append_right _ (List.mem_singleton.mpr rfl))
  have ok2 : okS md mr [(e, n)] = okW md mr n e := by simp [okS]
  rw [ok2] at ok
  generalize upd H' l (.lst ys) = H2 at sm2 hys st2
  have hy2 := hy.same sm2
  -- a part that is right, and leads no further
  have good : okW md mr n e = true → ∀ H3, Same H2 H3 → H3 l = some (.lst ys) → ∃ m', m' < szS (qs ++ [(e, n)]) ∧ ∃ v4 v5 xs ps, ([some x, some (.int (md : Int)), some (.int (mr : Int)), some (.ref l), some y, some (.int (n : Int)), none] : L2.St) = [some x, some (.int (md : Int)), some (.int (mr : Int)), some (.ref l), v4, v5, none] ∧ Same H H3 ∧ H3 l = some (.lst xs) ∧ Stk C H H3 xs ps ∧ okS md mr ps = okW md mr 0 d ∧ m' = szS ps ∧ szS ps ≤ 1000000 ∧ ∀ p ∈ ps, txl p.1 := fun hok H3 s3 hl3 =>
    ⟨szS qs, by omega, _, _, ys, qs, rfl, sm2.trans s3, hl3, st2.keep (Tups.of s3), by rw [← ok, hok, Bool.and_true], rfl, by omega, hqs⟩
  -- a part that is wrong
  have bad : okW md mr n e = false → ∀ H3, Same H2 H3 → Q (.bl false) H3 := fun hok H3 s3 => by
    have q := q H3 (sm2.trans s3)
    rw [← ok, hok, Bool.and_false] at q
    exact q
  refine ⟨_, rfl, y, e, rfl, hy2, kyV_ok e, .inl ⟨_, rfl⟩, _, rfl, ?_⟩
  by_cases ct : kyV C e = .ty "tuple"
  · refine ifT ct ?_
    obtain ⟨es, rfl⟩ := kyV_tup.mp ct
    refine ⟨_, rfl, _, rfl, rfl, _, rfl, ?_⟩
    by_cases cn : n = md
    · refine ifT (by rw [cn]) ?_
      exact bad (by simp [okW, cn]) H2 (Same.refl _)
    · refine ifF (fun z => cn (by have := V.int.inj z; omega)) ?_
      have hyt := hy
      cases hyt with
      | @tup ta txs _ hta tis =>
        refine ⟨_, rfl, .inl ⟨rfl, _, SqL.of hys⟩, _, rfl, ta, rfl, ⟨_, SqT.of (sm2 _ _ hta)⟩, fun Dl hD => ?_⟩
        have nDl : l ≠ Dl := fun z => by rw [z] at hys; rw [hys] at hD; cases hD
        refine lc_tup (K := K) (a := ta) (xs := txs) (fun i H3 => Same H2 H3 ∧ ∃ zs, H3 Dl = some (.lst zs) ∧ Stk C H H3 zs ((es.take i).map fun d => (d, n + 1)) ∧ zs.length = i)
          ⟨same_new hD, [], upd_same, by simpa using Stk.nil, rfl⟩ (fun i H3 _ h => SqT.of (h.1 _ _ (sm2 _ _ hta))) ?_ ?_
        · rintro i z H3 hi ⟨s3, zs, hz3, stz, hzl⟩
          obtain ⟨ed, hed, hiz⟩ := tis.at hi
          refine ⟨rfl, yes ?_⟩
          refine ⟨_, rfl, _, rfl, _, _, rfl, rfl, (by show 2 ≤ sizeLine; decide), fun t ht => ?_⟩
          have s4 := same_new (o := .tup [z, .int ((n : Int) + 1)]) ht
          have hz4 := s4 _ _ hz3
          have hlt := (List.getElem?_eq_some_iff.mp hed).1
          refine ⟨zs, hz4, Nat.lt_of_lt_of_le (show zs.length < 1000001 by simp only [sz] at hsz; have := len_szL es; omega) (by decide), same_put (s3.trans s4) hD, zs ++ [.ref t], upd_same, ?_, by simp [hzl]⟩
          have e6 : (es.take (i + 1)).map (fun d => (d, n + 1)) = (es.take i).map (fun d => (d, n + 1)) ++ [(ed, n + 1)] := by rw [List.take_add_one, hed, List.map_append]; rfl
          rw [e6]
          exact (stz.keep ((Tups.of s4).trans (Tups.put hz4))).app (.cons (Tups.put hz4 _ _ upd_same) hiz .nil)
        · rintro H3 ⟨s3, zs, hz3, stz, hzl⟩
          have htl := tis.len
          have hzl2 : zs.length + 1 ≤ sz (.tup es) := by simp only [sz]; have := len_szL es; omega
          have hyl := st2.len
          have hql := len_szS qs
          have hl3 := s3 _ _ hys
          refine ⟨l, Dl, ys, zs, rfl, rfl, hl3, hz3, Nat.le_trans (show ys.length + zs.length ≤ 1000000 by omega) (by decide), ?_⟩
          rw [List.take_of_length_le (by omega)] at stz
          refine ⟨szS (qs ++ es.map fun d => (d, n + 1)), ?_, _, _, ys ++ zs, qs ++ es.map (fun d => (d, n + 1)), rfl, same_put (sm2.trans s3) hl0, upd_same, ((st2.keep (Tups.of s3)).app stz).keep (Tups.put hl3), ?_, rfl, ?_, fun p hp => ?_⟩
          · rw [szS_app, szS_map, hsz]; simp only [sz]; omega
          · rw [okS_app, okS_map, ← ok]; simp [okW, cn]
          · rw [szS_app, szS_map]; simp only [sz] at hsz; omega
          · rcases List.mem_append.mp hp with hp | hp
            · exact hqs p hp
            · obtain ⟨d', hd', rfl⟩ := List.mem_map.mp hp
              exact txlL_mem (by simpa [txl] using hse2) hd'
  · refine ifF ct ⟨_, rfl, y, e, rfl, hy2, kyV_ok e, .inr rfl, _, rfl, ?_⟩
    by_cases ca : kyV C e = .ref C
    · refine ifT ca ?_
      obtain ⟨k, es, rfl⟩ := kyV_atom.mp ca
      cases hy2 with
      | @atom aa dx at_ _ axs _ h1 h2 h3 =>
        refine ⟨_, rfl, aa, C, dx, _, _, rfl, h1, T.cl.cl, T.cl.nR, rfl, _, rfl, _, _, rfl, rfl, _, rfl, ite2 (fun c => ?_) (fun c => ?_)⟩
        · exact bad (by simp only [okW]; refine decide_eq_false fun z => ?_; simp at c; omega) H2 (Same.refl _)
        · exact good (by simp only [okW]; refine decide_eq_true ?_; simp at c; omega) H2 (Same.refl _) hys
    · refine ifF ca ⟨_, rfl, rfl, _, rfl, ?_⟩
      by_cases cN : y = .non
      · rw [decide_eq_true cN]
        subst cN
        cases hy
        exact iteF (iteF (good rfl H2 (Same.refl _) hys))
      · rw [decide_eq_false cN]
        refine iteT ⟨_, rfl, y, e, rfl, hy2, trivial, fun H3 s3 => ⟨_, rfl, ?_⟩⟩
        cases hn : isNum e with
        | true =>
          refine iteF (iteF (good ?_ H3 s3 (s3 _ _ hys)))
          cases e <;> first | exact hn | cases hn
        | false =>
          refine iteT ⟨_, rfl, y, e, rfl, hy2.same s3, fun z hz' => by subst hz'; simpa [txl] using hse2, fun H4 s4 => ⟨_, rfl, ?_⟩⟩
          have s34 := s3.trans s4
          cases ht : isTxt e with
          | true =>
            refine iteF (good ?_ H4 s34 (s34 _ _ hys))
            cases e <;> first | exact ht | cases ht
          | false =>
            refine iteT (bad ?_ H4 s34)
            cases e with
            | non => cases hy; exact absurd rfl cN
            | int i => exact hn
            | str z => exact ht
            | tup es => exact absurd rfl ct
            | atom k es => exact absurd rfl ca
            | _ => rfl
end
end Hc

namespace Hc
open PySem PySem.Spec PyProof.Rows L2 Hr
mutual
/-- the atoms, each where it stands -/
def places : D → List D
  | .tup ds => placesL ds
  | .atom k ds => [.atom k ds]
  | _ => []
def placesL : List D → List D
  | [] => []
  | d :: ds => places d ++ placesL ds
end
theorem placesL_app : ∀ a b : List D, placesL (a ++ b) = placesL a ++ placesL b
  | [], b => rfl
  | x :: a, b => by rw [List.cons_append]; simp only [placesL]; rw [placesL_app a b, List.append_assoc]
mutual
theorem places_len : ∀ d : D, (places d).length ≤ sz d
  | .tup ds => by simp only [places, sz]; have := placesL_len ds; omega
  | .atom k ds => by simp [places, sz]
  | .non | .bl _ | .int _ | .str _ | .lst _ | .dct => by simp [places, sz]
theorem placesL_len : ∀ ds : List D, (placesL ds).length ≤ szL ds
  | [] => Nat.le_refl _
  | d :: ds => by simp only [placesL, szL, List.length_append]; have := places_len d; have := placesL_len ds; omega
end
mutual
theorem places_rank : ∀ d : D, (∀ e ∈ places d, rank e ≤ rank d) ∧ (0 < rank d → ∃ e ∈ places d, rank e = rank d)
  | .tup ds => by simp only [places, rank]; exact placesL_rank ds
  | .atom k ds => by simp [places]
  | .non | .bl _ | .int _ | .str _ | .lst _ | .dct => by simp [places, rank]
theorem placesL_rank : ∀ ds : List D, (∀ e ∈ placesL ds, rank e ≤ rankL ds) ∧ (0 < rankL ds → ∃ e ∈ placesL ds, rank e = rankL ds)
  | [] => by simp [placesL, rankL]
  | d :: ds => by
    obtain ⟨h1, h2⟩ := places_rank d
    obtain ⟨h3, h4⟩ := placesL_rank ds
    simp only [placesL, rankL]
    refine ⟨fun e he => ?_, fun hp => ?_⟩
    · rcases List.mem_append.mp he with he | he
      · have := h1 e he; omega
      · have := h3 e he; omega
    · by_cases c : rankL ds ≤ rank d
      · obtain ⟨e, he, hr⟩ := h2 (by omega)
        exact ⟨e, List.mem_append_left _ he, by omega⟩
      · obtain ⟨e, he, hr⟩ := h4 (by omega)
        exact ⟨e, List.mem_append_right _ he, by omega⟩
end
mutual
theorem places_atom : ∀ (d : D), ∀ e ∈ places d, ∃ k ds, e = .atom k ds
  | .tup ds, e, h => placesL_atom ds e (by simpa [places] using h)
  | .atom k ds, e, h => by simp [places] at h; exact ⟨k, ds, h⟩
  | .non, _, h | .bl _, _, h | .int _, _, h | .str _, _, h | .lst _, _, h | .dct, _, h => by simp [places] at h
theorem placesL_atom : ∀ (ds : List D), ∀ e ∈ placesL ds, ∃ k ds, e = .atom k ds
  | [], _, h => by simp [placesL] at h
  | d :: ds, e, h => by
    simp only [placesL] at h
    rcases List.mem_append.mp h with h | h
    · exact places_atom d e h
    · exact placesL_atom ds e h
end
def spPlaces (C : Addr) : Sp := fun vs H Q _ => ∃ x d, vs = [x] ∧ Is C H x d ∧ Fit d ∧ ∀ H' p xs, Same H H' → H p = none → H' p = some (.lst xs) → IsA C H' xs (places d) → Q (.ref p) H'
/-- a natural number is told -/
def spN (C : Addr) (ok : D → Prop) (f : D → Nat) : Sp := fun vs H Q _ => ∃ x d, vs = [x] ∧ Is C H x d ∧ ok d ∧ ∀ H', Same H H' → Q (.int (f d : Int)) H'
section
variable {P : Program} {w : World} {K : PySem.W.Frag} {mg : Str → Option Value} {base : Heap} {f : Addr} {fd : FuncData} {C : Addr}
abbrev s_is_word : Stmt := top 14
theorem sc_is_word : FnScope ["value"] ["value"] (C8.fnScope s_is_word) := C8.fnScope_by (by decide +kernel)
theorem ok_is_word (F : C8.Def K mg "is_word" s_is_word f fd) (b : Binds K fd ["value"] []) (T : Txt K mg w C) (c__is_within : C8.Cal P w K mg base 2 "_is_within" (spWithin C) []) : C8.Cal P w K mg base 3 "is_word" (spB C Fit (okW 40 40 0)) [] := by
  refine C8.cal0 F b .nil sc_is_word (fun vs H Q E h => ?_) (fun cdv A outer s H vs Q E hr h => ?_)
  · obtain ⟨x, d, rfl, _⟩ := h; rfl
  obtain ⟨x, d, rfl, hx, hz, q⟩ := h
  refine ⟨_, (pss_one (ps_ret (C8.pe_c c__is_within hr (by first | decide | omega) rfl (pa_cons (pv 0) (pa_cons (C8.pe_gc rfl T.c_MOST_DEEP) (pa_cons (C8.pe_gc rfl T.c_MOST_RANK) pa_nil)))))), ?_⟩
  exact ⟨x, rfl, x, d, 40, 40, rfl, hx, hz, q⟩
abbrev s__places_of_atoms : Stmt := top 19
theorem sc__places_of_atoms : FnScope ["value", "found", "todo", "part"] ["value"] (C8.fnScope s__places_of_atoms) := C8.fnScope_by (by decide +kernel)
theorem ok__places_of_atoms (F : C8.Def K mg "_places_of_atoms" s__places_of_atoms f fd) (b : Binds K fd ["value"] []) (T : Txt K mg w C) : C8.Cal P w K mg base 1 "_places_of_atoms" (spPlaces C) [] := by
  refine C8.cal0 F b .nil sc__places_of_atoms (fun vs H Q E h => ?_) (fun cdv A outer s H vs Q E hr h => ?_)
  · obtain ⟨x, d, rfl, _⟩ := h; rfl
  obtain ⟨x, d, rfl, hx, hz, q⟩ := h
  refine ⟨_, (pss_cons (ps_set (i := 1) sc__places_of_atoms.nd rfl (Or.inl rfl) (pe_lst pa_nil))
      (pss_cons (ps_set (i := 2) sc__places_of_atoms.nd rfl (Or.inl rfl) (pe_lst (pa_cons (pv 0) pa_nil)))
      (pss_cons (ps_while PassesOwn.never (pt_truth (pv 2) (fun _ => rfl))
      (pss_cons (ps_set (i := 3) sc__places_of_atoms.nd rfl (Or.inl rfl) (pe_bm0 PySem.F.plainAttrs_list PySem.F.slot_list_pop PySem.F.type_list_pop mt_pop (pv 2)))
      (pss_one (ps_if (pt_cmpR (op_isTyA (C := C)) (pe_callTy (call_typeA (C := C)) rfl T.z_type bt_type (pa_cons (pv 3) pa_nil)) (pe_bltn (v := .ty "tuple") rfl T.z_tuple bt_tuple rfl) (nomark _)) (pss_one (ps_expr (pe_bm PySem.F.plainAttrs_list PySem.F.slot_list_extend PySem.F.type_list_extend mt_extendT (pv 2) (pa_cons (pe_revT (pv 3)) pa_nil)))) (pss_one (ps_if (pt_cmpR (op_isTyA (C := C)) (pe_callTy (call_typeA (C := C)) rfl T.z_type bt_type (pa_cons (pv 3) pa_nil)) (pe_glob (v := .ref C) rfl T.g_Atom rfl) (nomark _)) (pss_one (ps_expr (pe_bm PySem.F.plainAttrs_list PySem.F.slot_list_append PySem.F.type_list_append mt_append (pv 1) (pa_cons (pv 3) pa_nil)))) pss_nil))))))
      (pss_one (ps_ret (pv 1)))))), ?_⟩
  refine ⟨(by show 0 ≤ sizeLine; decide), fun fo hfo => ⟨x, rfl, (by show 1 ≤ sizeLine; decide), fun l hl => ?_⟩⟩
  have s1 := same_new (o := .lst []) hfo
  have s2 := same_new (o := .lst [x]) hl
  have hl0 : H l = none := s1.free hl
  have nfl : fo ≠ l := fun z => by rw [← z, upd_same] at hl; cases hl
  refine ⟨fun m σ' H' => ∃ v3 fs xs es ds, σ' = [some x, some (.ref fo), some (.ref l), v3] ∧ Same H H' ∧ H' fo = some (.lst fs) ∧ H' l = some (.lst xs) ∧ IsA C H fs es ∧ IsA C H xs ds ∧ es ++ placesL ds.reverse = places d ∧ m = szL ds ∧ szL ds ≤ 1000000,
    ⟨_, none, [], [x], [], [d], rfl, s1.trans s2, s2 _ _ upd_same, upd_same, .nil, .cons hx .nil, by simp [placesL], rfl, by simp [szL]; exact hz.1⟩, ?_⟩
  rintro m σ' H' ⟨v3, fs, xs, es, ds, rfl, sm, hf', hl', hfs, hxs, e0, rfl, hm⟩
  refine ⟨_, rfl, _, .inl ⟨xs, SqL.of hl', rfl⟩, ?_⟩
  rcases List.eq_nil_or_concat ds with rfl | ⟨ds', e, rfl⟩
  · cases hxs
    refine iteF ⟨_, rfl, ?_⟩
    simp only [List.reverse_nil, placesL, List.append_nil] at e0
    rw [e0] at hfs
    exact q H' fo fs sm hfo hf' (hfs.same sm)
  obtain ⟨ys, y, rfl, hys, hy⟩ := hxs.concat
  simp only [List.concat_eq_append] at e0 hm ⊢
  refine bT (by simp) ⟨fun σ2 H2 => ∃ m', m' < szL (ds' ++ [e]) ∧ ∃ v3 fs xs es ds, σ2 = [some x, some (.ref fo), some (.ref l), v3] ∧ Same H H2 ∧ H2 fo = some (.lst fs) ∧ H2 l = some (.lst xs) ∧ IsA C H fs es ∧ IsA C H xs ds ∧ es ++ placesL ds.reverse = places d ∧ m' = szL ds ∧ szL ds ≤ 1000000, fun σ2 H2 h => h, ?_⟩
  refine ⟨_, rfl, .inl ⟨rfl, _, SqL.of hl'⟩, l, _, y, rfl, rfl, hl', by simp, ?_⟩
  rw [List.dropLast_concat]
  have sm2 : Same H (upd H' l (.lst ys)) := same_put sm hl0
  have hl2 : (upd H' l (.lst ys)) l = some (.lst ys) := upd_same
  have hf2 : (upd H' l (.lst ys)) fo = some (.lst fs) := by rw [upd_ne nfl]; exact hf'
  generalize upd H' l (.lst ys) = H2 at sm2 hl2 hf2
  rw [List.reverse_append, List.reverse_singleton, List.singleton_append] at e0
  simp only [placesL] at e0
  have hse := sz_pos e
  have hsz : szL (ds' ++ [e]) = szL ds' + sz e := by rw [szL_app]; simp [szL]
  have hdl := len_szL ds'
  have hyl := hys.len
  refine ⟨_, rfl, y, e, rfl, hy.same sm2, kyV_ok e, .inl ⟨_, rfl⟩, _, rfl, ?_⟩
  by_cases ct : kyV C e = .ty "tuple"
  · refine ifT ct ?_
    obtain ⟨gs, rfl⟩ := kyV_tup.mp ct
    cases hy with
    | @tup ta txs _ hta tis =>
      refine ⟨_, rfl, .inl ⟨rfl, _, SqL.of hl2⟩, _, rfl, ta, _, rfl, SqT.of (sm2 _ _ hta), fun r hr' => ?_⟩
      have s3 := same_new (o := .tup txs.reverse) hr'
      have htl := tis.len
      have hgl := len_szL gs
      refine ⟨l, r, ys, _, rfl, rfl, s3 _ _ hl2, upd_same, Nat.le_trans (show ys.length + txs.reverse.length ≤ 1000000 by simp only [sz] at hsz; rw [List.length_reverse]; omega) (by decide), ?_⟩
      refine ⟨szL (ds' ++ gs.reverse), ?_, _, fs, ys ++ txs.reverse, es, ds' ++ gs.reverse, rfl, same_put (sm2.trans s3) hl0, by rw [upd_ne nfl]; exact s3 _ _ hf2, upd_same, hfs, hys.app tis.rev, ?_, rfl, ?_⟩
      · rw [szL_app, szL_rev, hsz]; simp only [sz]; omega
      · rw [List.reverse_append, List.reverse_reverse, placesL_app]; simp only [places] at e0; exact e0
      · rw [szL_app, szL_rev]; simp only [sz] at hsz; omega
  · refine ifF ct ⟨_, rfl, y, e, rfl, hy.same sm2, kyV_ok e, .inr rfl, _, rfl, ?_⟩
    by_cases ca : kyV C e = .ref C
    · refine ifT ca ?_
      obtain ⟨k, gs, rfl⟩ := kyV_atom.mp ca
      have hel : es.length + 1 ≤ 1000000 := by
        have h1 := congrArg List.length e0
        have h2 := places_len d
        have h3 := hz.1
        simp only [List.length_append, places, List.length_singleton] at h1
        omega
      have hfl := hfs.len
      refine ⟨_, rfl, .inl ⟨rfl, _, SqL.of hf2⟩, _, rfl, fo, fs, y, rfl, rfl, hf2, Nat.lt_of_lt_of_le (show fs.length < 1000001 by omega) (by decide), ?_⟩
      refine ⟨szL ds', by omega, _, fs ++ [y], ys, es ++ [.atom k gs], ds', rfl, same_put sm2 hfo, upd_same, by rw [upd_ne nfl.symm]; exact hl2, hfs.app (.cons hy .nil), hys, ?_, rfl, by omega⟩
      simp only [places] at e0
      rw [List.append_assoc]; exact e0
    · refine ifF ca ⟨szL ds', by omega, _, fs, ys, es, ds', rfl, sm2, hf2, hl2, hfs, hys, ?_, rfl, by omega⟩
      have hp : places e = [] := by cases e <;> first | rfl | exact absurd rfl ct | exact absurd rfl ca
      rw [hp] at e0; exact e0
end
end Hc

namespace Hc
open PySem PySem.Spec PyProof.Rows L2 Hr
theorem call_lenS {X : Cx} : CallR X (.builtin "len") (fun xs H Q => ∃ p ys, xs = [.ref p] ∧ (SqL X.K H p ys ∨ SqT X.K H p ys) ∧ Q (.int ys.length) H) := call_len_seq
def spRk (C : Addr) : Sp := fun vs H Q _ => ∃ k t ds, vs = [.str k, .ref t] ∧ Is C H (.ref t) (.tup ds) ∧ Fit (.tup ds) ∧ ∀ H', Same H H' → Q (.int ((rank (.atom k ds) : Nat) : Int)) H'
def mostR (k : Str) : Nat := if k = "token" then 36 else 40
def spMost : Sp := fun vs H Q _ => ∃ k, vs = [.str k] ∧ Q (.int ((mostR k : Nat) : Int)) H
def isS : D → Bool | .str _ => true | _ => false
def isI : D → Bool | .int _ => true | _ => false
def isT : D → Bool | .tup _ => true | _ => false
def hasF (d : D) (z : Str) : Bool :=
  if z = "text" then isS d
  else if z = "number" then isI d
  else if z = "tuple" then isT d
  else if z = "hidden" then (match d with | .non => true | .tup ds => decide (ds.length = 4) | _ => false)
  else if z = "pages" then (match d with | .tup ds => decide (ds.length = 8) | _ => false)
  else true
def spHasF (C : Addr) : Sp := fun vs H Q _ => ∃ x d z, vs = [x, .str z] ∧ Is C H x d ∧ Q (.bl (hasF d z)) H
theorem inV2 (k : Str) : inV (.str k) [.str "seal", .str "page"] = (decide (k = "seal") || decide (k = "page")) := by
  have e : ∀ a b : Str, eqV (.str a) (.str b) = decide (b = a) := fun a b => by
    simp only [eqV]
    by_cases h : a = b
    · subst h; simp
    · simp [h, Ne.symm h, fun z : b = a => h z.symm]
  show ([V.str "seal", .str "page"].any fun y => eqV y (.str k)) = _
  rw [List.any_cons, List.any_cons, e, e]
  simp
section
variable {P : Program} {w : World} {K : PySem.W.Frag} {mg : Str → Option Value} {base : Heap} {f : Addr} {fd : FuncData} {C : Addr}
abbrev s_rank_of : Stmt := top 15
theorem sc_rank_of : FnScope ["word", "atom"] ["word"] (C8.fnScope s_rank_of) := C8.fnScope_by (by decide +kernel)
theorem ok_rank_of (F : C8.Def K mg "rank_of" s_rank_of f fd) (b : Binds K fd ["word"] []) (T : Txt K mg w C) (c__places_of_atoms : C8.Cal P w K mg base 1 "_places_of_atoms" (spPlaces C) []) : C8.Cal P w K mg base 2 "rank_of" (spN C Fit rank) [] := by
  refine C8.cal0 F b .nil sc_rank_of (fun vs H Q E h => ?_) (fun cdv A outer s H vs Q E hr h => ?_)
  · obtain ⟨x, d, rfl, _⟩ := h; rfl
  obtain ⟨x, d, rfl, hx, hz, q⟩ := h
  refine ⟨_, (pss_one (ps_ret (pe_callBK (call_maxDK rfl) rfl T.z_max bt_max (pa_cons (pe_lc (own := [("atom", 1)]) (te := tFld K (tVar 1) "rank") (g := gName 1) rfl sc_rank_of.nd (pi_list (C8.pe_c c__places_of_atoms hr (by first | decide | omega) rfl (pa_cons (pv 0) pa_nil))) (blkOk_by (own := [("atom", 1)]) (N := ["word", "atom"]) (sc := C8.fnScope s_rank_of) (by decide +kernel)) (fun _ _ _ _ _ => (pg_name (i := 1) sc_rank_of.nd rfl (Or.inl rfl))) (fun _ _ _ _ _ => pts_nil) (fun _ _ _ _ _ => (pe_fld (pv 1) rfl))) pa_nil) (pk_cons pe_int pk_nil)))), ?_⟩
  refine ⟨x, rfl, x, d, rfl, hx, hz, fun H1 p xs sm hp hl is => ⟨p, rfl, ⟨xs, SqL.of hl⟩, fun Dl hD => ?_⟩⟩
  have npD : p ≠ Dl := fun z => by rw [z] at hl; rw [hl] at hD; cases hD
  refine lc_list (K := K) (a := p) (xs := xs) (fun i H3 => Same H1 H3 ∧ H3 Dl = some (.lst (((places d).take i).map fun e => V.int ((rank e : Nat) : Int)))) ⟨same_new hD, upd_same⟩ (fun i H3 _ h => SqL.of (h.1 _ _ hl)) ?_ ?_
  · rintro i z H3 hi ⟨s3, hz3⟩
    obtain ⟨e, he, hie⟩ := is.at hi
    obtain ⟨k, gs, rfl⟩ := places_atom d e (List.mem_of_getElem? he)
    refine ⟨rfl, yes ?_⟩
    have hie3 := hie.same s3
    cases hie3 with
    | @atom aa dx at_ _ axs _ h1 h2 h3 =>
      have hlt := (List.getElem?_eq_some_iff.mp he).1
      have hpl := places_len d
      have hzz := hz.1
      refine ⟨_, rfl, aa, C, dx, _, _, rfl, h1, T.cl.cl, T.cl.nR, rfl, _, hz3, Nat.lt_of_lt_of_le (show _ < 1000001 by rw [List.length_map, List.length_take]; omega) (by decide), same_put s3 hD, ?_⟩
      rw [upd_same, List.take_add_one, he, List.map_append]; rfl
  · rintro H3 ⟨s3, hz3⟩
    rw [is.len, List.take_of_length_le (Nat.le_refl _)] at hz3
    refine ⟨Dl, (places d).map fun e => ((rank e : Nat) : Int), 0, rfl, rfl, SqL.of (by rw [List.map_map]; exact hz3), fun m h0 h1 => ?_⟩
    have em : m = ((rank d : Nat) : Int) := by
      obtain ⟨r1, r2⟩ := places_rank d
      by_cases hp0 : places d = []
      · have hr0 : ¬ 0 < rank d := fun z => by
          obtain ⟨e, he, _⟩ := r2 z
          rw [hp0] at he; cases he
        rw [h0 (by rw [hp0]; rfl)]; omega
      · obtain ⟨hm, hall⟩ := h1 (by simpa using hp0)
        obtain ⟨e, he, rfl⟩ := List.mem_map.mp hm
        have h5 := r1 e he
        have hpos : 0 < rank d := by
          obtain ⟨k, gs, rfl⟩ := places_atom d e he
          have : 0 < rank (.atom k gs) := by simp only [rank]; split <;> omega
          omega
        obtain ⟨e2, he2, hr2⟩ := r2 hpos
        have := hall _ (List.mem_map.mpr ⟨e2, he2, rfl⟩)
        omega
    rw [em]
    exact q H3 (sm.trans s3)
abbrev s__rank_of_atom : Stmt := top 23
theorem sc__rank_of_atom : FnScope ["kind", "term"] ["kind", "term"] (C8.fnScope s__rank_of_atom) := C8.fnScope_by (by decide +kernel)
theorem ok__rank_of_atom (F : C8.Def K mg "_rank_of_atom" s__rank_of_atom f fd) (b : Binds K fd ["kind", "term"] []) (T : Txt K mg w C) (c_rank_of : C8.Cal P w K mg base 2 "rank_of" (spN C Fit rank) []) : C8.Cal P w K mg base 3 "_rank_of_atom" (spRk C) [] := by
  refine C8.cal0 F b .nil sc__rank_of_atom (fun vs H Q E h => ?_) (fun cdv A outer s H vs Q E hr h => ?_)
  · obtain ⟨k, t, ds, rfl, _⟩ := h; rfl
  obtain ⟨k, t, ds, rfl, hx, hz, q⟩ := h
  refine ⟨_, (pss_cons (ps_if (pt_cmpR op_in_seq (pv 0) (pe_tup (pa_cons pe_str (pa_cons pe_str pa_nil))) (by with_unfolding_all rfl)) (pss_one (ps_ret pe_int)) pss_nil)
      (pss_one (ps_ret (pe_op op_add (C8.pe_c c_rank_of hr (by first | decide | omega) rfl (pa_cons (pv 1) pa_nil)) pe_int)))), ?_⟩
  refine ⟨_, rfl, (by show 2 ≤ sizeLine; decide), fun u hu => ?_⟩
  have s1 := same_new (o := .tup [.str "seal", .str "page"]) hu
  refine ⟨u, _, rfl, .inr (SqT.of upd_same), rfl, rfl, _, rfl, ?_⟩
  show (if (inV (.str k) [.str "seal", .str "page"]) = true then _ else _)
  rw [inV2]
  by_cases c : k = "seal" ∨ k = "page"
  · have e : rank (.atom k ds) = 1 := by simp only [rank]; rw [if_pos c]
    rw [e] at q
    refine bT (by simpa using c) (q _ s1)
  · have e : rank (.atom k ds) = rankL ds + 1 := by simp only [rank]; rw [if_neg c]
    rw [e] at q
    refine bF (by simpa using c) ⟨_, rfl, _, .tup ds, rfl, hx.same s1, hz, fun H2 s2 => ⟨_, _, rfl, rfl, ?_⟩⟩
    have q2 := q H2 (s1.trans s2)
    have e2 : (((rankL ds + 1 : Nat)) : Int) = ((rank (.tup ds) : Nat) : Int) + 1 := by simp only [rank]; omega
    rw [e2] at q2
    exact q2
abbrev s__most_rank : Stmt := top 24
theorem sc__most_rank : FnScope ["kind"] ["kind"] (C8.fnScope s__most_rank) := C8.fnScope_by (by decide +kernel)
theorem ok__most_rank (F : C8.Def K mg "_most_rank" s__most_rank f fd) (b : Binds K fd ["kind"] []) (T : Txt K mg w C) : C8.Cal P w K mg base 1 "_most_rank" spMost [] := by
  refine C8.cal0 F b .nil sc__most_rank (fun vs H Q E h => ?_) (fun cdv A outer s H vs Q E hr h => ?_)
  · obtain ⟨k, rfl, _⟩ := h; rfl
  obtain ⟨k, rfl, q⟩ := h
  refine ⟨_, (pss_one (ps_ret (pe_ifExp (pt_cmpR op_eq (pv 0) pe_str (nomark _)) (C8.pe_gc rfl T.c_MOST_RANK_HOST) (C8.pe_gc rfl T.c_MOST_RANK)))), ?_⟩
  refine ⟨_, rfl, rfl, _, rfl, ?_⟩
  unfold mostR at q
  by_cases c : k = "token"
  · rw [if_pos c] at q
    exact ifT (congrArg V.str c) q
  · rw [if_neg c] at q
    exact ifF (fun z => c (V.str.inj z)) q
abbrev s__has_form : Stmt := top 22
theorem sc__has_form : FnScope ["part", "form"] ["part", "form"] (C8.fnScope s__has_form) := C8.fnScope_by (by decide +kernel)
theorem ok__has_form (F : C8.Def K mg "_has_form" s__has_form f fd) (b : Binds K fd ["part", "form"] []) (T : Txt K mg w C) : C8.Cal P w K mg base 1 "_has_form" (spHasF C) [] := by
  refine C8.cal0 F b .nil sc__has_form (fun vs H Q E h => ?_) (fun cdv A outer s H vs Q E hr h => ?_)
  · obtain ⟨x, d, z, rfl, _⟩ := h; rfl
  obtain ⟨x, d, z, rfl, hx, q⟩ := h
  refine ⟨_, (pss_cons (ps_if (pt_cmpR op_eq (pv 1) pe_str (nomark _)) (pss_one (ps_ret (pe_cmpR (op_isTyA (C := C)) (pe_callTy (call_typeA (C := C)) rfl T.z_type bt_type (pa_cons (pv 0) pa_nil)) (pe_bltn (v := .ty "str") rfl T.z_str bt_str rfl) (nomark _)))) pss_nil)
      (pss_cons (ps_if (pt_cmpR op_eq (pv 1) pe_str (nomark _)) (pss_one (ps_ret (pe_cmpR (op_isTyA (C := C)) (pe_callTy (call_typeA (C := C)) rfl T.z_type bt_type (pa_cons (pv 0) pa_nil)) (pe_bltn (v := .ty "int") rfl T.z_int bt_int rfl) (nomark _)))) pss_nil)
      (pss_cons (ps_if (pt_cmpR op_eq (pv 1) pe_str (nomark _)) (pss_one (ps_ret (pe_cmpR (op_isTyA (C := C)) (pe_callTy (call_typeA (C := C)) rfl T.z_type bt_type (pa_cons (pv 0) pa_nil)) (pe_bltn (v := .ty "tuple") rfl T.z_tuple bt_tuple rfl) (nomark _)))) pss_nil)
      (pss_cons (ps_if (pt_cmpR op_eq (pv 1) pe_str (nomark _)) (pss_one (ps_ret (pe_or (pe_cmpR op_isN (pv 0) pe_non (nomark _)) (pe_one (pe_and (pe_cmpR (op_isTyA (C := C)) (pe_callTy (call_typeA (C := C)) rfl T.z_type bt_type (pa_cons (pv 0) pa_nil)) (pe_bltn (v := .ty "tuple") rfl T.z_tuple bt_tuple rfl) (nomark _)) (pe_one (pe_cmpR op_eq (pe_callB call_lenS rfl T.z_len bt_len (pa_cons (pv 0) pa_nil)) pe_int (nomark _)))))))) pss_nil)
      (pss_cons (ps_if (pt_cmpR op_eq (pv 1) pe_str (nomark _)) (pss_one (ps_ret (pe_and (pe_cmpR (op_isTyA (C := C)) (pe_callTy (call_typeA (C := C)) rfl T.z_type bt_type (pa_cons (pv 0) pa_nil)) (pe_bltn (v := .ty "tuple") rfl T.z_tuple bt_tuple rfl) (nomark _)) (pe_one (pe_cmpR op_eq (pe_callB call_lenS rfl T.z_len bt_len (pa_cons (pv 0) pa_nil)) pe_int (nomark _)))))) pss_nil)
      (pss_one (ps_ret pe_bl))))))), ?_⟩
  have q := q
  unfold hasF at q
  have kS : decide (kyV C d = .ty "str") = isS d := by cases d <;> simp [kyV, isS]
  have kI : decide (kyV C d = .ty "int") = isI d := by cases d <;> simp [kyV, isI]
  have kT : decide (kyV C d = .ty "tuple") = isT d := by cases d <;> simp [kyV, isT]
  refine ⟨_, rfl, rfl, _, rfl, ?_⟩
  by_cases c1 : z = "text"
  · rw [if_pos c1] at q
    refine ifT (congrArg V.str c1) ⟨x, rfl, x, d, rfl, hx, kyV_ok d, .inl ⟨_, rfl⟩, ?_⟩
    rw [kS]; exact q
  rw [if_neg c1] at q
  refine ifF (fun y => c1 (V.str.inj y)) ⟨_, rfl, rfl, _, rfl, ?_⟩
  by_cases c2 : z = "number"
  · rw [if_pos c2] at q
    refine ifT (congrArg V.str c2) ⟨x, rfl, x, d, rfl, hx, kyV_ok d, .inl ⟨_, rfl⟩, ?_⟩
    rw [kI]; exact q
  rw [if_neg c2] at q
  refine ifF (fun y => c2 (V.str.inj y)) ⟨_, rfl, rfl, _, rfl, ?_⟩
  by_cases c3 : z = "tuple"
  · rw [if_pos c3] at q
    refine ifT (congrArg V.str c3) ⟨x, rfl, x, d, rfl, hx, kyV_ok d, .inl ⟨_, rfl⟩, ?_⟩
    rw [kT]; exact q
  rw [if_neg c3] at q
  refine ifF (fun y => c3 (V.str.inj y)) ⟨_, rfl, rfl, _, rfl, ?_⟩
  by_cases c4 : z = "hidden"
  · rw [if_pos c4] at q
    refine ifT (congrArg V.str c4) ⟨x, rfl, rfl, _, rfl, ?_⟩
    cases hx with
    | non => exact iteT q
    | @tup a xs ds ht ha =>
      have hl := ha.len
      refine iteF ⟨_, rfl, _, .tup ds, rfl, .tup ht ha, kyV_ok _, .inl ⟨_, rfl⟩, _, rfl, ?_⟩
      refine ifT rfl ⟨_, rfl, a, xs, rfl, .inr (SqT.of ht), rfl, ?_⟩
      have e : decide (V.int (xs.length : Int) = V.int 4) = decide (ds.length = 4) := by
        rw [hl]; by_cases c : ds.length = 4
        · rw [c]; rfl
        · rw [decide_eq_false c, decide_eq_false fun y => c (by have := V.int.inj y; omega)]
      rw [e]; exact q
    | bl y => exact iteF ⟨_, rfl, _, .bl y, rfl, .bl y, kyV_ok _, .inl ⟨_, rfl⟩, _, rfl, ifF (by simp [kyV]) q⟩
    | int y => exact iteF ⟨_, rfl, _, .int y, rfl, .int y, kyV_ok _, .inl ⟨_, rfl⟩, _, rfl, ifF (by simp [kyV]) q⟩
    | str y => exact iteF ⟨_, rfl, _, .str y, rfl, .str y, kyV_ok _, .inl ⟨_, rfl⟩, _, rfl, ifF (by simp [kyV]) q⟩
    | lst h1 h2 => exact iteF ⟨_, rfl, _, .lst _, rfl, .lst h1 h2, kyV_ok _, .inl ⟨_, rfl⟩, _, rfl, ifF (by simp [kyV]) q⟩
    | dct h1 => exact iteF ⟨_, rfl, _, .dct, rfl, .dct h1, kyV_ok _, .inl ⟨_, rfl⟩, _, rfl, ifF (by simp [kyV]) q⟩
    | atom h1 h2 h3 => exact iteF ⟨_, rfl, _, .atom _ _, rfl, .atom h1 h2 h3, kyV_ok _, .inl ⟨_, rfl⟩, _, rfl, ifF (by simp [kyV]) q⟩
  rw [if_neg c4] at q
  refine ifF (fun y => c4 (V.str.inj y)) ⟨_, rfl, rfl, _, rfl, ?_⟩
  by_cases c5 : z = "pages"
  · rw [if_pos c5] at q
    refine ifT (congrArg V.str c5) ⟨x, rfl, x, d, rfl, hx, kyV_ok d, .inl ⟨_, rfl⟩, _, rfl, ?_⟩
    by_cases ct : kyV C d = .ty "tuple"
    · obtain ⟨ds, rfl⟩ := kyV_tup.mp ct
      cases hx with
      | @tup a xs _ ht ha =>
        have hl := ha.len
        refine ifT ct ⟨_, rfl, a, xs, rfl, .inr (SqT.of ht), rfl, ?_⟩
        have e : decide (V.int (xs.length : Int) = V.int 8) = decide (ds.length = 8) := by
          rw [hl]; by_cases c : ds.length = 8
          · rw [c]; rfl
          · rw [decide_eq_false c, decide_eq_false fun y => c (by have := V.int.inj y; omega)]
        rw [e]; exact q
    · refine ifF ct ?_
      cases d <;> first | exact q | exact absurd rfl ct
  rw [if_neg c5] at q
  exact ifF (fun y => c5 (V.str.inj y)) q
end
end Hc

namespace Hc
open PySem PySem.Spec PyProof.Rows L2 Hr
theorem walk_zipT {K : PySem.W.Frag} {a b : Addr} {xs ys : List V} {n : Nat} (hn : n = min xs.length ys.length) : Walk (RZ.ItzT K a b) n (fun H => SqT K H a xs ∧ SqT K H b ys) (YPair (fun i => xs[i]?) (fun i => ys[i]?)) := by
  subst hn
  refine ⟨fun i _ hi q => ?_, fun _ q => ⟨xs, ys, q.1, q.2, by omega⟩, fun i H v H' _ q y => ?_⟩
  · have h1 : i < xs.length := by omega
    have h2 : i < ys.length := by omega
    exact ⟨xs, ys, xs[i], ys[i], q.1, q.2, by simp [h1], by simp [h2]⟩
  · obtain ⟨t, x, z, e1, e2, e3, e4, e5⟩ := y
    exact ⟨t, x, z, e1, e2, e3, e4 xs q.1, e5 ys q.2⟩
def formsOf (k : Str) : Option (List Str) :=
  if k = "token" then some ["text", "tuple", "word"]
  else if k = "challenge" then some ["text", "number"]
  else if k = "seal" then some ["text", "number", "number", "hidden"]
  else if k = "page" then some ["text", "number", "number", "hidden"]
  else if k = "ticket" then some ["text", "number", "text", "tuple", "pages", "tuple"]
  else none
def partOk (d : D) (z : Str) : Bool := okW 40 40 0 d && hasF d z
def isTermK (k : Str) (ds : List D) : Bool := match formsOf k with
  | some fs => decide (ds.length = fs.length) && (ds.zip fs).all fun p => partOk p.1 p.2
  | none => false
def isTermD : D → D → Bool
  | .str k, .tup ds => isTermK k ds
  | _, _ => false
def KindOk : D → Prop
  | .str k => k = "token" ∨ k = "challenge" ∨ k = "seal" ∨ k = "page" ∨ k = "ticket" ∨ k = "key"
  | _ => True
theorem forms_at {K : PySem.W.Frag} {mg : Str → Option Value} {w : World} {C : Addr} (T : Txt K mg w C) : ∃ Fo, (∃ u, mg "_FORMS" = some u ∧ RelV (.ref Fo) u) ∧ (∃ es n, KDict K w Fo es n) ∧
    ∀ k : Str, KindOk (.str k) → (∃ t fs, formsOf k = some fs ∧ KDct K w Fo k (.ref t) ∧ KTup K t fs) ∨ (formsOf k = none ∧ PySem.W.nsIn K Fo k = some none) := by
  obtain ⟨Fo, t1, t2, t3, t4, t5, gF, KD, d1, d2, d3, d4, d5, d6, k1, k2, k3, k4, k5⟩ := T.forms
  refine ⟨Fo, gF, KD, fun k hk => ?_⟩
  rcases hk with rfl | rfl | rfl | rfl | rfl | rfl
  · exact .inl ⟨t1, _, by decide +kernel, d1, k1⟩
  · exact .inl ⟨t2, _, by decide +kernel, d2, k2⟩
  · exact .inl ⟨t3, _, by decide +kernel, d3, k3⟩
  · exact .inl ⟨t4, _, by decide +kernel, d4, k4⟩
  · exact .inl ⟨t5, _, by decide +kernel, d5, k5⟩
  · exact .inr ⟨by decide +kernel, d6⟩
def spTerm (C : Addr) : Sp := fun vs H Q _ => ∃ xk xt dk dt, vs = [xk, xt] ∧ Is C H xk dk ∧ Is C H xt dt ∧ KindOk dk ∧ Fit dt ∧ ∀ H', Same H H' → Q (.bl (isTermD dk dt)) H'
theorem Fit.part {ds : List D} {d : D} (h : Fit (.tup ds)) (hd : d ∈ ds) : Fit d := by
  refine ⟨?_, txlL_mem (by simpa [txl] using h.2) hd⟩
  have h1 := h.1
  simp only [sz] at h1
  have : sz d ≤ szL ds := by
    clear h h1
    induction ds with
    | nil => cases hd
    | cons x r ih =>
      simp only [szL]
      rcases List.mem_cons.mp hd with rfl | hd
      · omega
      · have := ih hd; omega
  omega
def spInit (C : Addr) : Sp := fun vs H Q _ => ∃ p dx k t ds, vs = [.ref p, .str k, .ref t] ∧ H p = some (.ins C dx []) ∧ Is C H (.ref t) (.tup ds) ∧ isTermK k ds = true ∧ rank (.atom k ds) ≤ mostR k ∧ Fit (.tup ds) ∧
  ∀ H', H' p = some (.ins C dx (atF k t (rank (.atom k ds)))) → (∀ b o, H b = some o → b ≠ p → H' b = some o) → Q .non H'
theorem put_at (k : Str) (t : Addr) (r : Nat) : putF "_stripped" .non (putF "rank" (.int (r : Int)) (putF "term" (.ref t) (putF "kind" (.str k) []))) = atF k t r := by
  have n1 : ¬ (("kind" : Str) = "term") := by decide +kernel
  have n2 : ¬ (("kind" : Str) = "rank") := by decide +kernel
  have n3 : ¬ (("term" : Str) = "rank") := by decide +kernel
  have n4 : ¬ (("kind" : Str) = "_stripped") := by decide +kernel
  have n5 : ¬ (("term" : Str) = "_stripped") := by decide +kernel
  have n6 : ¬ (("rank" : Str) = "_stripped") := by decide +kernel
  simp [putF, atF, n1, n2, n3, n4, n5, n6]
theorem term_kind {k : Str} {ds : List D} (h : isTermK k ds = true) : KindOk (.str k) := by
  unfold isTermK formsOf at h
  unfold KindOk
  by_cases c1 : k = "token"
  · exact .inl c1
  by_cases c2 : k = "challenge"
  · exact .inr (.inl c2)
  by_cases c3 : k = "seal"
  · exact .inr (.inr (.inl c3))
  by_cases c4 : k = "page"
  · exact .inr (.inr (.inr (.inl c4)))
  by_cases c5 : k = "ticket"
  · exact .inr (.inr (.inr (.inr (.inl c5))))
  rw [if_neg c1, if_neg c2, if_neg c3, if_neg c4, if_neg c5] at h
  cases h
section
variable {P : Program} {w : World} {K : PySem.W.Frag} {mg : Str → Option Value} {base : Heap} {f : Addr} {fd : FuncData} {C : Addr}
abbrev s__is_term : Stmt := top 21
theorem sc__is_term : FnScope ["kind", "term", "forms", "part", "form"] ["kind", "term"] (C8.fnScope s__is_term) := C8.fnScope_by (by decide +kernel)
theorem ok__is_term (F : C8.Def K mg "_is_term" s__is_term f fd) (b : Binds K fd ["kind", "term"] []) (T : Txt K mg w C) (c_is_word : C8.Cal P w K mg base 3 "is_word" (spB C Fit (okW 40 40 0)) []) (c__has_form : C8.Cal P w K mg base 1 "_has_form" (spHasF C) []) : C8.Cal P w K mg base 4 "_is_term" (spTerm C) [] := by
  refine C8.cal0 F b .nil sc__is_term (fun vs H Q E h => ?_) (fun cdv A outer s H vs Q E hr h => ?_)
  · obtain ⟨xk, xt, dk, dt, rfl, _⟩ := h; rfl
  obtain ⟨xk, xt, dk, dt, rfl, hk, ht, hok, hz, q⟩ := h
  obtain ⟨Fo, gF, ⟨es, n, KD⟩, hf⟩ := forms_at T
  refine ⟨_, (pss_cons (ps_if (PW.pt (pw_or (pt_cmpR (op_isNotTyA (C := C)) (pe_callTy (call_typeA (C := C)) rfl T.z_type bt_type (pa_cons (pv 0) pa_nil)) (pe_bltn (v := .ty "str") rfl T.z_str bt_str rfl) (nomark _)) (pw_or (pt_cmpR (op_notIn_kd KD) (pv 0) (C8.pe_gc rfl gF) (by with_unfolding_all rfl)) (pw_or1 (pt_cmpR (op_isNotTyA (C := C)) (pe_callTy (call_typeA (C := C)) rfl T.z_type bt_type (pa_cons (pv 1) pa_nil)) (pe_bltn (v := .ty "tuple") rfl T.z_tuple bt_tuple rfl) (nomark _)))))) (pss_one (ps_ret pe_bl)) pss_nil)
      (pss_cons (ps_set (i := 2) sc__is_term.nd rfl (Or.inl rfl) (pe_ix ix_kdict (C8.pe_gc rfl gF) (pv 0) (fun _ _ => rfl)))
      (pss_cons (ps_if (pt_cmpR op_ne (pe_callB call_lenS rfl T.z_len bt_len (pa_cons (pv 1) pa_nil)) (pe_callB call_lenS rfl T.z_len bt_len (pa_cons (pv 2) pa_nil)) (nomark _)) (pss_one (ps_ret pe_bl)) pss_nil)
      (pss_one (ps_ret (pe_callB (cr_all rfl) rfl T.z_all bt_all (pa_cons (pe_lc (own := [("part", 3), ("form", 4)]) (g := gTup K 2 (gCons (gName 3) (gCons (gName 4) gNil))) rfl sc__is_term.nd (RZ.pi_zipA rfl T.z_zip (pa_cons (pv 1) (pa_cons (pv 2) pa_nil))) (blkOk_by (own := [("part", 3), ("form", 4)]) (N := ["kind", "term", "forms", "part", "form"]) (sc := C8.fnScope s__is_term) (by decide +kernel)) (fun _ _ _ _ _ => (pg_tup rfl (pgs_cons (pg_name (i := 3) sc__is_term.nd rfl (Or.inl rfl)) (pgs_cons (pg_name (i := 4) sc__is_term.nd rfl (Or.inl rfl)) pgs_nil)))) (fun _ _ _ _ _ => pts_nil) (fun _ _ _ _ _ => (pe_and (C8.pe_c c_is_word hr (by first | decide | omega) rfl (pa_cons (pv 3) pa_nil)) (pe_one (C8.pe_c c__has_form hr (by first | decide | omega) rfl (pa_cons (pv 3) (pa_cons (pv 4) pa_nil))))))) pa_nil))))))), ?_⟩
  refine ⟨_, rfl, xk, dk, rfl, hk, kyV_ok dk, .inl ⟨_, rfl⟩, _, rfl, ?_⟩
  by_cases c1 : kyV C dk = .ty "str"
  · obtain ⟨k, rfl⟩ := kyV_str.mp c1
    rw [decide_eq_true c1]
    cases hk
    rcases hf k hok with ⟨tf, fs, e1, kd, kt⟩ | ⟨e1, kn⟩
    · obtain ⟨es', n', u, kl, kk, kn, ru⟩ := id kd
      refine iteF ⟨_, rfl, k, some u, rfl, rfl, kn, _, rfl, iteF ?_⟩
      refine ⟨_, rfl, xt, dt, rfl, ht, kyV_ok dt, .inl ⟨_, rfl⟩, _, rfl, ?_⟩
      by_cases c2 : kyV C dt = .ty "tuple"
      · obtain ⟨ds, rfl⟩ := kyV_tup.mp c2
        rw [decide_eq_true c2]
        cases ht with
        | @tup ta xs _ hta hxs =>
          have hl := hxs.len
          refine iteF ⟨_, rfl, Fo, k, _, rfl, rfl, kd, ?_⟩
          refine ⟨_, rfl, ta, xs, rfl, .inr (SqT.of hta), _, rfl, tf, _, rfl, .inr (kt H), rfl, _, rfl, ?_⟩
          have eT : isTermD (.str k) (.tup ds) = (decide (ds.length = fs.length) && (ds.zip fs).all fun p => partOk p.1 p.2) := by
            simp only [isTermD, isTermK, e1]
          rw [eT] at q
          by_cases c3 : ds.length = fs.length
          · refine bF (by rw [hl, List.length_map, c3]; simp) ?_
            rw [decide_eq_true c3, Bool.true_and] at q
            refine ⟨_, rfl, _, rfl, ta, tf, xs, fs.map V.str, rfl, .inr ⟨SqT.of hta, kt H, fun Dl hD => ?_⟩⟩
            have hmin : ds.length = min xs.length (fs.map V.str).length := by rw [hl, List.length_map]; omega
            refine lc_it (walk_zipT (K := K) (a := ta) (b := tf) (xs := xs) (ys := fs.map V.str) hmin) (fun i H3 => Same H H3 ∧ H3 Dl = some (.lst (((ds.zip fs).take i).map fun p => V.bl (partOk p.1 p.2)))) ⟨same_new hD, upd_same⟩ (fun i H3 _ h => ⟨SqT.of (h.1 _ _ hta), kt H3⟩) ?_ ?_
            · rintro i v H3 H4 hi ⟨s3, hz3⟩ ⟨t, x, y, rfl, nt, rfl, ex, ey⟩
              have ex : xs[i]? = some x := ex
              obtain ⟨d, hd, hx⟩ := hxs.at ex
              obtain ⟨z, hz2, rfl⟩ : ∃ z, fs[i]? = some z ∧ y = V.str z := by
                have ey : (fs.map V.str)[i]? = some y := ey
                rw [List.getElem?_map] at ey
                cases h : fs[i]? with
                | none => rw [h] at ey; cases ey
                | some z => rw [h] at ey; exact ⟨z, rfl, (Option.some.inj ey).symm⟩
              have s4 := same_new (o := .tup [x, .str z]) nt
              refine ⟨t, [x, .str z], rfl, SqT.of upd_same, rfl, x, [.str z], rfl, .str z, [], rfl, rfl, rfl, yes ?_⟩
              refine ⟨_, rfl, x, d, rfl, hx.same (s3.trans s4), hz.part (List.mem_of_getElem? hd), fun H5 s5 => ⟨_, rfl, ?_⟩⟩
              have hpz : (ds.zip fs)[i]? = some (d, z) := by rw [List.getElem?_zip_eq_some]; exact ⟨hd, hz2⟩
              have s35 := (s3.trans s4).trans s5
              have hz5 := s5 _ _ (s4 _ _ hz3)
              have fin : ∀ r, r = partOk d z → ∃ acc, H5 Dl = some (.lst acc) ∧ acc.length < sizeLine ∧ Same H (upd H5 Dl (.lst (acc ++ [.bl r]))) ∧ (upd H5 Dl (.lst (acc ++ [.bl r]))) Dl = some (.lst (((ds.zip fs).take (i + 1)).map fun p => V.bl (partOk p.1 p.2))) := fun r er => by
                subst er
                refine ⟨_, hz5, Nat.lt_of_lt_of_le (show _ < 1000001 by rw [List.length_map, List.length_take]; have := hz.1; have := len_szL ds; simp only [sz] at *; omega) (by decide), same_put s35 hD, ?_⟩
                rw [upd_same, List.take_add_one, hpz, List.map_append]; rfl
              cases ho : okW 40 40 0 d with
              | true => exact iteT ⟨_, rfl, _, rfl, x, d, z, rfl, hx.same s35, fin _ (by simp [partOk, ho])⟩
              | false => exact iteF (fin _ (by simp [partOk, ho]))
            · rintro H3 ⟨s3, hz3⟩
              have hzl : (ds.zip fs).length = ds.length := by rw [List.length_zip]; omega
              rw [List.take_of_length_le (by omega)] at hz3
              refine ⟨Dl, (ds.zip fs).map fun p => partOk p.1 p.2, rfl, SqL.of (by rw [List.map_map]; exact hz3), ?_⟩
              have e9 : ((ds.zip fs).map fun p => partOk p.1 p.2).all id = (ds.zip fs).all fun p => partOk p.1 p.2 := by rw [List.all_map]; rfl
              rw [e9]
              exact q H3 s3
          · refine bT (by rw [hl, List.length_map, decide_eq_false (fun z => c3 (by have := V.int.inj z; omega))]; rfl) ?_
            rw [decide_eq_false c3, Bool.false_and] at q
            exact q H (Same.refl H)
      · rw [decide_eq_false c2]
        have e : isTermD (.str k) dt = false := by cases dt <;> first | rfl | exact absurd rfl c2
        rw [e] at q
        exact iteT (q H (Same.refl H))
    · refine iteF ⟨_, rfl, k, none, rfl, rfl, kn, _, rfl, iteT ?_⟩
      have e : isTermD (.str k) dt = false := by cases dt <;> simp [isTermD, isTermK, e1]
      rw [e] at q
      exact q H (Same.refl H)
  · rw [decide_eq_false c1]
    have e : isTermD dk dt = false := by cases dk <;> first | rfl | exact absurd rfl c1
    rw [e] at q
    exact iteT (q H (Same.refl H))
abbrev s_Atom___init__ : Stmt := L2.inClass (top 16) 0
theorem sc_Atom___init__ : FnScope ["self", "kind", "term", "rank"] ["self", "kind", "term"] (C8.fnScope s_Atom___init__) := C8.fnScope_by (by decide +kernel)
theorem ok_init {fI : Addr} {fdI : FuncData} (M : Mk K C fI) (hm : mg "Atom" = some (.ref C)) (F : C8.Fun K "__init__" "Atom.__init__" s_Atom___init__ fI fdI) (b : Binds K fdI ["self", "kind", "term"] []) (T : Txt K mg w C)
    (c__is_term : C8.Cal P w K mg base 4 "_is_term" (spTerm C) []) (c__rank_of_atom : C8.Cal P w K mg base 3 "_rank_of_atom" (spRk C) []) (c__most_rank : C8.Cal P w K mg base 1 "_most_rank" spMost []) : C8.Mak P w K mg base 5 "Atom" C (spInit C) [] := by
  refine C8.mak0 M hm F b .nil sc_Atom___init__ (fun vs H Q E h => ?_) (fun cdv A outer s H vs Q E hr h => ?_)
  · obtain ⟨p, dx, k, t, ds, rfl, _⟩ := h; rfl
  obtain ⟨p, dx, k, t, ds, rfl, hp, hx, ht, hrk, hz, q⟩ := h
  refine ⟨_, (pss_cons (ps_if (pt_not (pt_val (C8.pe_c c__is_term hr (by first | decide | omega) rfl (pa_cons (pv 1) (pa_cons (pv 2) pa_nil))))) (pss_one ps_never) pss_nil)
      (pss_cons (ps_set (i := 3) sc_Atom___init__.nd rfl (Or.inl rfl) (C8.pe_c c__rank_of_atom hr (by first | decide | omega) rfl (pa_cons (pv 1) (pa_cons (pv 2) pa_nil))))
      (pss_cons (ps_if (pt_cmpR op_gt (pv 3) (C8.pe_c c__most_rank hr (by first | decide | omega) rfl (pa_cons (pv 1) pa_nil)) (nomark _)) (pss_one ps_never) pss_nil)
      (pss_cons (ps_fld (pv 0) (pv 1) rfl)
      (pss_cons (ps_fld (pv 0) (pv 2) rfl)
      (pss_cons (ps_fld (pv 0) (pv 3) rfl)
      (pss_one (ps_fld (pv 0) pe_non rfl)))))))), ?_⟩
  refine ⟨_, rfl, _, rfl, _, _, .str k, .tup ds, rfl, .str k, hx, term_kind ht, hz, fun H1 s1 => ⟨_, rfl, ?_⟩⟩
  refine bF (by simp only [isTermD, ht]; rfl) ?_
  refine ⟨_, rfl, _, rfl, k, t, ds, rfl, hx.same s1, hz, fun H2 s2 => ?_⟩
  refine ⟨_, rfl, _, rfl, k, rfl, _, _, rfl, rfl, _, rfl, ?_⟩
  refine ifF (by omega) ?_
  have hp2 := s2 _ _ (s1 _ _ hp)
  refine ⟨_, rfl, _, rfl, p, C, dx, [], rfl, hp2, T.cl.cl, T.cl.nK, (by show 0 < 1000; decide), ?_⟩
  refine ⟨_, rfl, _, rfl, p, C, dx, _, rfl, upd_same, T.cl.cl, T.cl.nT, (by show 1 < 1000; decide), ?_⟩
  refine ⟨_, rfl, _, rfl, p, C, dx, _, rfl, upd_same, T.cl.cl, T.cl.nR, (by show 2 < 1000; decide), ?_⟩
  refine ⟨_, rfl, p, C, dx, _, rfl, upd_same, T.cl.cl, T.cl.nS, (by show 3 < 1000; decide), ?_⟩
  refine q _ (Eq.trans upd_same (congrArg (fun l => some (HO.ins C dx l)) (put_at k t _))) fun c o e n => ?_
  rw [upd_ne n, upd_ne n, upd_ne n, upd_ne n]
  exact s2 _ _ (s1 _ _ e)
end
end Hc

namespace Hc
open PySem PySem.Spec PyProof.Rows L2 Hr
mutual
def eqD : D → D → Bool
  | .tup a, .tup b => eqL a b
  | .atom k a, .atom k' b => decide (k = k') && eqL a b
  | .non, .non => true
  | .int i, .int j => decide (i = j)
  | .str x, .str y => decide (x = y)
  | _, _ => false
def eqL : List D → List D → Bool
  | [], [] => true
  | x :: a, y :: b => eqD x y && eqL a b
  | _, _ => false
end
def flt : D → Bool
  | .non => true | .int _ => true | .str _ => true | _ => false
mutual
/-- of one shape, so far as they are asked -/
def shp : D → D → Bool
  | .tup a, .tup b => decide (a.length ≠ b.length) || shpL a b
  | .atom k a, .atom k' b => decide (k ≠ k') || (decide (a.length = b.length) && shpL a b)
  | .non, e => flt e
  | .int _, e => flt e
  | .str _, e => flt e
  | _, _ => false
def shpL : List D → List D → Bool
  | [], [] => true
  | x :: a, y :: b => shp x y && shpL a b
  | _, _ => true
end
theorem eqL_app : ∀ {a b x y : List D}, a.length = b.length → eqL (a ++ x) (b ++ y) = (eqL a b && eqL x y)
  | [], [], x, y, _ => by simp [eqL]
  | p :: a, q :: b, x, y, h => by
    rw [List.cons_append, List.cons_append]
    simp only [eqL]
    rw [eqL_app (by simpa using h), Bool.and_assoc]
  | [], _ :: _, _, _, h => by simp at h
  | _ :: _, [], _, _, h => by simp at h
theorem shpL_app : ∀ {a b x y : List D}, a.length = b.length → shpL (a ++ x) (b ++ y) = (shpL a b && shpL x y)
  | [], [], x, y, _ => by simp [shpL]
  | p :: a, q :: b, x, y, h => by
    rw [List.cons_append, List.cons_append]
    simp only [shpL]
    rw [shpL_app (by simpa using h), Bool.and_assoc]
  | [], _ :: _, _, _, h => by simp at h
  | _ :: _, [], _, _, h => by simp at h
theorem eqL_len : ∀ {a b : List D}, a.length ≠ b.length → eqL a b = false
  | [], [], h => absurd rfl h
  | p :: a, q :: b, h => by
    simp only [eqL]
    rw [eqL_len (fun z => h (by simp [z])), Bool.and_false]
  | [], _ :: _, _ => rfl
  | _ :: _, [], _ => rfl
/-- flat words are compared as they are -/
theorem flt_eq {C : Addr} {H : Hp} {x y : V} {d e : D} (hx : Is C H x d) (hy : Is C H y e) (fd : flt d = true) (fe : flt e = true) : scal x y = true ∧ decide (x = y) = eqD d e := by
  cases hx <;> cases fd <;> cases hy <;> cases fe <;> refine ⟨rfl, ?_⟩ <;> simp [eqD]
def spAre (C : Addr) : Sp := fun vs H Q _ => ∃ a b ds es, vs = [.ref a, .ref b] ∧ Is C H (.ref a) (.tup ds) ∧ Is C H (.ref b) (.tup es) ∧ ds.length = es.length ∧ shpL ds es = true ∧ szL ds ≤ 1000000 ∧ szL es ≤ 1000000 ∧ ∀ H', Same H H' → Q (.bl (eqL ds es)) H'
mutual
theorem shp_refl : ∀ {d : D}, shp d d = true → eqD d d = true
  | .tup ds, h => by simp only [eqD]; simp [shp] at h; exact shpL_refl h
  | .atom k ds, h => by simp [shp] at h; simp only [eqD]; rw [shpL_refl h]; simp
  | .non, _ => rfl
  | .int i, _ => by simp [eqD]
  | .str s, _ => by simp [eqD]
  | .bl _, h => by simp [shp] at h
  | .lst _, h => by simp [shp] at h
  | .dct, h => by simp [shp] at h
theorem shpL_refl : ∀ {ds : List D}, shpL ds ds = true → eqL ds ds = true
  | [], _ => rfl
  | d :: ds, h => by
    simp only [shpL, Bool.and_eq_true] at h
    simp only [eqL]; rw [shp_refl h.1, shpL_refl h.2]; rfl
end
def spSame (C : Addr) : Sp := fun vs H Q _ => ∃ a b dx fs dx' fs', vs = [.ref a, .ref b] ∧ H a = some (.ins C dx fs) ∧ H b = some (.ins C dx' fs') ∧ Q (.bl (decide (a = b))) H
section
variable {P : Program} {w : World} {K : PySem.W.Frag} {mg : Str → Option Value} {base : Heap} {f : Addr} {fd : FuncData} {C : Addr}
abbrev s_Atom_is_same : Stmt := L2.inClass (top 16) 2
theorem sc_Atom_is_same : FnScope ["self", "other"] ["self", "other"] (C8.fnScope s_Atom_is_same) := C8.fnScope_by (by decide +kernel)
theorem ok_is_same {fI : Addr} {fdI : FuncData} (me : Meth K C "is_same" fI) (T : Txt K mg w C) (F : C8.Fun K "is_same" "Atom.is_same" s_Atom_is_same fI fdI) (b : Binds K fdI ["self", "other"] []) : C8.Met P w K mg base 1 C "is_same" (spSame C) [] := by
  refine C8.met0 T.cl.cl me F b sc_Atom_is_same (fun vs H Q E h => ?_) (fun cdv A outer s H vs Q E hr h => ?_)
  · obtain ⟨a, b, dx, fs, dx', fs', rfl, _⟩ := h; rfl
  obtain ⟨a, b, dx, fs, dx', fs', rfl, h1, h2, q⟩ := h
  refine ⟨_, (pss_one (ps_ret (pe_cmpR op_is_ref (pv 0) (pv 1) (nomark _)))), ?_⟩
  exact ⟨_, rfl, _, rfl, a, b, _, _, rfl, rfl, h1, rfl, h2, rfl, q⟩
abbrev s__are_equal : Stmt := top 20
theorem sc__are_equal : FnScope ["ones", "others", "left", "right", "one", "other"] ["ones", "others"] (C8.fnScope s__are_equal) := C8.fnScope_by (by decide +kernel)
theorem ok__are_equal (F : C8.Def K mg "_are_equal" s__are_equal f fd) (b : Binds K fd ["ones", "others"] []) (T : Txt K mg w C) (m_is_same : C8.Met P w K mg base 1 C "is_same" (spSame C) []) : C8.Cal P w K mg base 2 "_are_equal" (spAre C) [] := by
  refine C8.cal0 F b .nil sc__are_equal (fun vs H Q E h => ?_) (fun cdv A outer s H vs Q E hr h => ?_)
  · obtain ⟨a, b, ds, es, rfl, _⟩ := h; rfl
  obtain ⟨a, b, ds, es, rfl, ha, hb, hl, hs, hz1, hz2, q⟩ := h
  refine ⟨_, (pss_cons (ps_set (i := 2) sc__are_equal.nd rfl (Or.inl rfl) (pe_callTy call_list_of rfl T.z_list bt_list (pa_cons (pv 0) pa_nil)))
      (pss_cons (ps_set (i := 3) sc__are_equal.nd rfl (Or.inl rfl) (pe_callTy call_list_of rfl T.z_list bt_list (pa_cons (pv 1) pa_nil)))
      (pss_cons (ps_while PassesOwn.never (pt_truth (pv 2) (fun _ => rfl))
      (pss_cons (ps_set (i := 4) sc__are_equal.nd rfl (Or.inl rfl) (pe_bm0 PySem.F.plainAttrs_list PySem.F.slot_list_pop PySem.F.type_list_pop mt_pop (pv 2)))
      (pss_cons (ps_set (i := 5) sc__are_equal.nd rfl (Or.inl rfl) (pe_bm0 PySem.F.plainAttrs_list PySem.F.slot_list_pop PySem.F.type_list_pop mt_pop (pv 3)))
      (pss_one (ps_if (PW.pt (pw_and (pt_cmpR (op_isTyA (C := C)) (pe_callTy (call_typeA (C := C)) rfl T.z_type bt_type (pa_cons (pv 4) pa_nil)) (pe_bltn (v := .ty "tuple") rfl T.z_tuple bt_tuple rfl) (nomark _)) (pw_and1 (pt_cmpR (op_isTyA (C := C)) (pe_callTy (call_typeA (C := C)) rfl T.z_type bt_type (pa_cons (pv 5) pa_nil)) (pe_bltn (v := .ty "tuple") rfl T.z_tuple bt_tuple rfl) (nomark _))))) (pss_cons (ps_if (pt_cmpR op_ne (pe_callB call_lenS rfl T.z_len bt_len (pa_cons (pv 4) pa_nil)) (pe_callB call_lenS rfl T.z_len bt_len (pa_cons (pv 5) pa_nil)) (nomark _)) (pss_one (ps_ret pe_bl)) pss_nil)
      (pss_cons (ps_expr (pe_bm PySem.F.plainAttrs_list PySem.F.slot_list_extend PySem.F.type_list_extend mt_extendT (pv 2) (pa_cons (pv 4) pa_nil)))
      (pss_one (ps_expr (pe_bm PySem.F.plainAttrs_list PySem.F.slot_list_extend PySem.F.type_list_extend mt_extendT (pv 3) (pa_cons (pv 5) pa_nil)))))) (pss_one (ps_if (PW.pt (pw_and (pt_cmpR (op_isTyA (C := C)) (pe_callTy (call_typeA (C := C)) rfl T.z_type bt_type (pa_cons (pv 4) pa_nil)) (pe_glob (v := .ref C) rfl T.g_Atom rfl) (nomark _)) (pw_and1 (pt_cmpR (op_isTyA (C := C)) (pe_callTy (call_typeA (C := C)) rfl T.z_type bt_type (pa_cons (pv 5) pa_nil)) (pe_glob (v := .ref C) rfl T.g_Atom rfl) (nomark _))))) (pss_cons (ps_if (pt_val (C8.pe_mt m_is_same hr (by first | decide | omega) (pv 4) (pa_cons (pv 5) pa_nil))) (pss_one ps_continue) pss_nil)
      (pss_cons (ps_if (pt_cmpR op_ne (pe_fld (pv 4) rfl) (pe_fld (pv 5) rfl) (nomark _)) (pss_one (ps_ret pe_bl)) pss_nil)
      (pss_cons (ps_expr (pe_bm PySem.F.plainAttrs_list PySem.F.slot_list_extend PySem.F.type_list_extend mt_extendT (pv 2) (pa_cons (pe_fld (pv 4) rfl) pa_nil)))
      (pss_one (ps_expr (pe_bm PySem.F.plainAttrs_list PySem.F.slot_list_extend PySem.F.type_list_extend mt_extendT (pv 3) (pa_cons (pe_fld (pv 5) rfl) pa_nil))))))) (pss_one (ps_if (pt_cmpR op_ne (pv 4) (pv 5) (nomark _)) (pss_one (ps_ret pe_bl)) pss_nil)))))))))
      (pss_one (ps_ret pe_bl))))), ?_⟩
  cases ha with
  | @tup _ xs _ ta ia =>
    cases hb with
    | @tup _ ys _ tb ib =>
      refine ⟨_, rfl, a, xs, rfl, .inr (SqT.of ta), fun l hl0 => ?_⟩
      have s1 := same_new (o := .lst xs) hl0
      refine ⟨_, rfl, b, ys, rfl, .inr (SqT.of (s1 _ _ tb)), fun r hr0 => ?_⟩
      have s2 := same_new (o := .lst ys) hr0
      have hrH : H r = none := s1.free hr0
      have nlr : l ≠ r := fun z => by rw [← z, upd_same] at hr0; cases hr0
      refine ⟨fun m σ' H' => ∃ v4 v5 xs ys as bs, σ' = [some (.ref a), some (.ref b), some (.ref l), some (.ref r), v4, v5] ∧ Same H H' ∧ H' l = some (.lst xs) ∧ H' r = some (.lst ys) ∧ IsA C H xs as ∧ IsA C H ys bs ∧ as.length = bs.length ∧ shpL as bs = true ∧ eqL as bs = eqL ds es ∧ m = szL as ∧ szL as ≤ 1000000 ∧ szL bs ≤ 1000000,
        ⟨_, none, none, xs, ys, ds, es, rfl, s1.trans s2, s2 _ _ upd_same, upd_same, ia, ib, hl, hs, rfl, rfl, hz1, hz2⟩, ?_⟩
      clear hs hz1 hz2 hl s1 s2 ia ib ta tb hr0
      rintro m σ' H' ⟨v4, v5, xs, ys, as, bs, rfl, sm, hxl, hyr, ixs, iys, hl, hs, he, rfl, hza, hzb⟩
      refine ⟨_, rfl, _, .inl ⟨xs, SqL.of hxl, rfl⟩, ?_⟩
      rcases List.eq_nil_or_concat as with rfl | ⟨as', d, rfl⟩
      · have hb0 : bs = [] := List.eq_nil_of_length_eq_zero hl.symm
        subst hb0
        cases ixs
        refine iteF ?_
        have q := q H' sm
        rw [← he] at q
        exact q
      rcases List.eq_nil_or_concat bs with rfl | ⟨bs', e, rfl⟩
      · simp at hl
      obtain ⟨xs', x, rfl, ixs', hx⟩ := ixs.concat
      obtain ⟨ys', y, rfl, iys', hy⟩ := iys.concat
      simp only [List.concat_eq_append] at hl hs he hza hzb ⊢
      have hl' : as'.length = bs'.length := by simpa using hl
      rw [shpL_app hl', Bool.and_eq_true] at hs
      rw [eqL_app hl'] at he
      have hsh : shp d e = true := by simpa [shpL] using hs.2
      have he2 : eqL [d] [e] = eqD d e := by simp [eqL]
      rw [he2] at he
      have hsa : szL (as' ++ [d]) = szL as' + sz d := by rw [szL_app]; simp [szL]
      have hsb : szL (bs' ++ [e]) = szL bs' + sz e := by rw [szL_app]; simp [szL]
      have hpd := sz_pos d
      have hla := len_szL as'
      have hlb := len_szL bs'
      have hlx := ixs'.len
      have hly := iys'.len
      refine bT (by simp) ⟨fun σ2 H2 => ∃ m', m' < szL (as' ++ [d]) ∧ ∃ v4 v5 xs ys as bs, σ2 = [some (.ref a), some (.ref b), some (.ref l), some (.ref r), v4, v5] ∧ Same H H2 ∧ H2 l = some (.lst xs) ∧ H2 r = some (.lst ys) ∧ IsA C H xs as ∧ IsA C H ys bs ∧ as.length = bs.length ∧ shpL as bs = true ∧ eqL as bs = eqL ds es ∧ m' = szL as ∧ szL as ≤ 1000000 ∧ szL bs ≤ 1000000, fun σ2 H2 h => h, ?_⟩
      -- one = left.pop(); other = right.pop()
      refine ⟨_, rfl, .inl ⟨rfl, _, SqL.of hxl⟩, l, _, x, rfl, rfl, hxl, by simp, ?_⟩
      rw [List.dropLast_concat]
      have hyr1 : (upd H' l (.lst xs')) r = some (.lst (ys' ++ [y])) := by rw [upd_ne nlr.symm]; exact hyr
      refine ⟨_, rfl, .inl ⟨rfl, _, SqL.of hyr1⟩, r, _, y, rfl, rfl, hyr1, by simp, ?_⟩
      rw [List.dropLast_concat]
      have sm2 : Same H (upd (upd H' l (.lst xs')) r (.lst ys')) := same_put (same_put sm hl0) hrH
      have hl2 : (upd (upd H' l (.lst xs')) r (.lst ys')) l = some (.lst xs') := by rw [upd_ne nlr]; exact upd_same
      have hr2 : (upd (upd H' l (.lst xs')) r (.lst ys')) r = some (.lst ys') := upd_same
      generalize upd (upd H' l (.lst xs')) r (.lst ys') = H2 at sm2 hl2 hr2
      have hx2 := hx.same sm2
      have hy2 := hy.same sm2
      -- nothing more is asked of the pair
      have good : eqD d e = true → ∃ m', m' < szL (as' ++ [d]) ∧ ∃ v4 v5 xs ys as bs, ([some (.ref a), some (.ref b), some (.ref l), some (.ref r), some x, some y] : L2.St) = [some (.ref a), some (.ref b), some (.ref l), some (.ref r), v4, v5] ∧ Same H H2 ∧ H2 l = some (.lst xs) ∧ H2 r = some (.lst ys) ∧ IsA C H xs as ∧ IsA C H ys bs ∧ as.length = bs.length ∧ shpL as bs = true ∧ eqL as bs = eqL ds es ∧ m' = szL as ∧ szL as ≤ 1000000 ∧ szL bs ≤ 1000000 := fun h =>
        ⟨szL as', by omega, _, _, xs', ys', as', bs', rfl, sm2, hl2, hr2, ixs', iys', hl', hs.1, by rw [← he, h, Bool.and_true], rfl, by omega, by omega⟩
      have bad : eqD d e = false → Q (.bl false) H2 := fun h => by
        have q := q H2 sm2
        rw [← he, h, Bool.and_false] at q
        exact q
      -- both are opened
      have open_ : ∀ {ts us : List V} {gs hs' : List D} {p1 p2 : Addr}, H2 p1 = some (.tup ts) → H2 p2 = some (.tup us) → IsA C H ts gs → IsA C H us hs' → gs.length = hs'.length → shpL gs hs' = true → eqL gs hs' = eqD d e → szL gs < sz d → szL hs' ≤ sz e →
          (xs'.length + ts.length ≤ sizeLine ∧ ys'.length + us.length ≤ sizeLine) ∧ (upd H2 l (.lst (xs' ++ ts))) r = some (.lst ys') ∧ (upd H2 l (.lst (xs' ++ ts))) p2 = some (.tup us) ∧
          ∃ m', m' < szL (as' ++ [d]) ∧ ∃ v4 v5 xs ys as bs, ([some (.ref a), some (.ref b), some (.ref l), some (.ref r), some x, some y] : L2.St) = [some (.ref a), some (.ref b), some (.ref l), some (.ref r), v4, v5] ∧ Same H (upd (upd H2 l (.lst (xs' ++ ts))) r (.lst (ys' ++ us))) ∧ (upd (upd H2 l (.lst (xs' ++ ts))) r (.lst (ys' ++ us))) l = some (.lst xs) ∧ (upd (upd H2 l (.lst (xs' ++ ts))) r (.lst (ys' ++ us))) r = some (.lst ys) ∧ IsA C H xs as ∧ IsA C H ys bs ∧ as.length = bs.length ∧ shpL as bs = true ∧ eqL as bs = eqL ds es ∧ m' = szL as ∧ szL as ≤ 1000000 ∧ szL bs ≤ 1000000 := fun {ts us gs hs' p1 p2} e1 e2 i1 i2 hlen hsp heq z1 z2 => by
        have k1 := i1.len
        have k2 := i2.len
        have k3 := len_szL gs
        have k4 := len_szL hs'
        refine ⟨⟨Nat.le_trans (show _ ≤ 1000000 by omega) (by decide), Nat.le_trans (show _ ≤ 1000000 by omega) (by decide)⟩, by rw [upd_ne nlr.symm]; exact hr2, Tups.put hl2 _ _ e2, ?_⟩
        refine ⟨szL (as' ++ gs), ?_, _, _, xs' ++ ts, ys' ++ us, as' ++ gs, bs' ++ hs', rfl, same_put (same_put sm2 hl0) hrH, by rw [upd_ne nlr]; exact upd_same, upd_same, ixs'.app i1, iys'.app i2, by simp; omega, ?_, ?_, rfl, ?_, ?_⟩
        · rw [szL_app, hsa]; omega
        · rw [shpL_app hl', hs.1, hsp]; rfl
        · rw [eqL_app hl', heq]; exact he
        · rw [szL_app]; omega
        · rw [szL_app]; omega
      refine ⟨_, rfl, x, d, rfl, hx2, kyV_ok d, .inl ⟨_, rfl⟩, _, rfl, ?_⟩
      by_cases ct : kyV C d = .ty "tuple"
      · refine ifT ct ⟨_, rfl, y, e, rfl, hy2, kyV_ok e, .inl ⟨_, rfl⟩, _, rfl, ?_⟩
        obtain ⟨gs, rfl⟩ := kyV_tup.mp ct
        by_cases cu : kyV C e = .ty "tuple"
        · refine ifT cu ?_
          obtain ⟨hs', rfl⟩ := kyV_tup.mp cu
          cases hx with
          | @tup p1 ts _ t1 i1 =>
            cases hy with
            | @tup p2 us _ t2 i2 =>
              have k1 := i1.len
              have k2 := i2.len
              refine ⟨_, rfl, p1, ts, rfl, .inr (SqT.of (sm2 _ _ t1)), _, rfl, p2, us, rfl, .inr (SqT.of (sm2 _ _ t2)), rfl, _, rfl, ?_⟩
              by_cases cl : gs.length = hs'.length
              · refine bF (by rw [k1, k2, cl]; simp) ?_
                have hsp : shpL gs hs' = true := by simpa [shp, cl] using hsh
                obtain ⟨⟨b1, b2⟩, f1, f2, fin⟩ := open_ (sm2 _ _ t1) (sm2 _ _ t2) i1 i2 cl hsp (by simp [eqD]) (by simp only [sz]; omega) (by simp only [sz]; omega)
                refine ⟨_, rfl, .inl ⟨rfl, _, SqL.of hl2⟩, _, rfl, l, p1, xs', ts, rfl, rfl, hl2, sm2 _ _ t1, b1, ?_⟩
                exact ⟨_, rfl, .inl ⟨rfl, _, SqL.of f1⟩, _, rfl, r, p2, ys', us, rfl, rfl, f1, f2, b2, fin⟩
              · refine bT (by rw [k1, k2, decide_eq_false (fun z => cl (by have := V.int.inj z; omega))]; rfl) ?_
                exact bad (by simp only [eqD]; exact eqL_len cl)
        · exfalso
          cases e <;> first | exact absurd rfl cu | (simp [shp] at hsh)
      · refine ifF ct ?_
        refine ⟨_, rfl, x, d, rfl, hx2, kyV_ok d, .inr rfl, _, rfl, ?_⟩
        by_cases ca : kyV C d = .ref C
        · refine ifT ca ⟨_, rfl, y, e, rfl, hy2, kyV_ok e, .inr rfl, _, rfl, ?_⟩
          obtain ⟨k, gs, rfl⟩ := kyV_atom.mp ca
          by_cases cb : kyV C e = .ref C
          · refine ifT cb ?_
            obtain ⟨k', hs', rfl⟩ := kyV_atom.mp cb
            cases hx with
            | @atom a1 dx1 q1 _ ts _ u1 v1 i1 =>
              cases hy with
              | @atom a2 dx2 q2 _ us _ u2 v2 i2 =>
                refine ⟨_, rfl, a1, dx1, _, rfl, sm2 _ _ u1, rfl, _, rfl, a1, a2, dx1, _, dx2, _, rfl, sm2 _ _ u1, sm2 _ _ u2, ⟨_, rfl, ?_⟩⟩
                by_cases cs : a1 = a2
                · subst cs
                  have eds := Is.uniq (Is.atom u1 v1 i1) (Is.atom u2 v2 i2)
                  refine bT (by simp) ?_
                  rw [← eds] at hsh good
                  exact good (shp_refl hsh)
                refine bF (by simp [cs]) ?_
                refine ⟨_, rfl, a1, C, dx1, _, _, rfl, sm2 _ _ u1, T.cl.cl, T.cl.nK, rfl, _, rfl, a2, C, dx2, _, _, rfl, sm2 _ _ u2, T.cl.cl, T.cl.nK, rfl, rfl, _, rfl, ?_⟩
                by_cases ck : k = k'
                · refine bF (by rw [ck]; simp) ?_
                  have hsp : gs.length = hs'.length ∧ shpL gs hs' = true := by simpa [shp, ck] using hsh
                  obtain ⟨⟨b1, b2⟩, f1, f2, fin⟩ := open_ (sm2 _ _ v1) (sm2 _ _ v2) i1 i2 hsp.1 hsp.2 (by simp [eqD, ck]) (by simp only [sz]; omega) (by simp only [sz]; omega)
                  refine ⟨_, rfl, .inl ⟨rfl, _, SqL.of hl2⟩, _, rfl, a1, C, dx1, _, _, rfl, sm2 _ _ u1, T.cl.cl, T.cl.nT, rfl, l, q1, xs', ts, rfl, rfl, hl2, sm2 _ _ v1, b1, ?_⟩
                  have n2 : a2 ≠ l := fun z => by have := sm2 _ _ u2; rw [z, hl2] at this; cases this
                  exact ⟨_, rfl, .inl ⟨rfl, _, SqL.of f1⟩, _, rfl, a2, C, dx2, _, _, rfl, by rw [upd_ne n2]; exact sm2 _ _ u2, T.cl.cl, T.cl.nT, rfl, r, q2, ys', us, rfl, rfl, f1, f2, b2, fin⟩
                · refine bT (by rw [decide_eq_false (fun z => ck (V.str.inj z))]; rfl) ?_
                  exact bad (by simp [eqD, ck])
          · exfalso
            cases e <;> first | exact absurd rfl cb | (simp [shp] at hsh)
        · refine ifF ca ?_
          have fl : flt d = true ∧ flt e = true := by
            cases d <;> first | exact absurd rfl ct | exact absurd rfl ca | (cases e <;> simp_all [shp, flt])
          obtain ⟨sc1, de⟩ := flt_eq hx2 hy2 fl.1 fl.2
          refine ⟨_, rfl, _, rfl, sc1, _, rfl, ?_⟩
          rw [de]
          cases hq : eqD d e with
          | true => exact iteF (good hq)
          | false => exact iteT (bad hq)
end
end Hc

namespace Hc
open PySem PySem.Spec PyProof.Rows L2 Hr PySem.SeqAt
open AutoSeq1 (wpAny_loadPart')
open MeetsSeq MeetsSeq2 MeetsSeq3 SeqRoads2
/-! ### != of lists whose items' == runs code, all equal -/
section
variable {prog : Program} {w : World} {A : Around} {R : Result → Shared → Prop}
theorem ne_loopG (l b : Addr) (N : Nat) (I : Nat → Shared → Prop) (hl : GQ.ListI prog w A (fun e s' => R (.error e) s') l b N I)
    (fin : ∀ s, I N s → R (.ok (.ret (.bool false))) s) (k : Nat) :
    ∀ i : Nat, N - i = k → i ≤ N → ∀ s, I i s →
      wpAny (model prog w) A.in1 (Builtin.«list.__eq__.loop» ⟨[.ref l, .ref b, rawInt i, rawInt 3], []⟩) (GQ.FinOf prog w A R) (fun e s' => R (.error e) s') s := by
  induction k with
  | zero =>
    intro i hk hi s h
    obtain ⟨items, items2, n, n2, hl1, hb1, hs1, hs2, _⟩ := hl _ _ h
    have hi' : i = N := by omega
    have hR : R (.ok (.ret (.bool false))) s := fin s (hi' ▸ h)
    obtain ⟨hp, g, d, tk, os⟩ := s
    wp_walk using wpAny_loadPart' hl1, wpAny_loadPart' hb1
    have hi1 : items[((i : Nat) : Int).toNat]? = none := by simp; omega
    have hi2 : items2[((i : Nat) : Int).toNat]? = none := by simp; omega
    rw [hi1, hi2]
    wp_walk using wpAny_loadPart' hl1, wpAny_loadPart' hb1
    show R (.ok (.ret (.bool (items.size != items2.size)))) _
    rw [hs1, hs2]
    simpa using hR
  | succ k ih =>
    intro i hk hi s h
    obtain ⟨items, items2, n, n2, hl1, hb1, hs1, hs2, turn⟩ := hl _ _ h
    have hlt : i < items.size := by omega
    have hlt2 : i < items2.size := by omega
    have ht := turn hlt hlt2
    obtain ⟨hp, g, d, tk, os⟩ := s
    wp_walk using wpAny_loadPart' hl1, wpAny_loadPart' hb1
    have hi1 : items[((i : Nat) : Int).toNat]? = some items[i] := by simp [hlt]
    have hi2 : items2[((i : Nat) : Int).toNat]? = some items2[i] := by simp [hlt2]
    have hc : ((i : Int) + 1) = ((i + 1 : Nat) : Int) := by omega
    rw [hi1, hi2]
    refine wpAny_bind (wpAny_mono ht (fun r s2 h2 => ?_) fun _ _ x => x)
    obtain ⟨hr, h2⟩ := h2
    subst hr
    have hrec := ih (i + 1) (by omega) (by omega) s2 h2
    obtain ⟨hp2, g2, d2, tk2, os2⟩ := s2
    wp_walk
    rw [hc]
    exact ⟨plainId_quiet plain_eq_loop _, codeAny_builtin entry_eq_loop (by
      rw [Around.under_plainId plain_eq_loop _]
      exact hrec)⟩
theorem list_neG (l b : Addr) (N : Nat) (I : Nat → Shared → Prop) (hl : GQ.ListI prog w A (fun e s' => R (.error e) s') l b N I)
    (fin : ∀ s, I N s → R (.ok (.ret (.bool false))) s) {s : Shared} (h : I 0 s) :
    wpAny (model prog w) A.in1 (Builtin.«list.__ne__» ⟨[.ref l, .ref b], []⟩) (GQ.FinOf prog w A R) (fun e s' => R (.error e) s') s := by
  obtain ⟨items, items2, n, n2, hl1, hb1, hs1, hs2, _⟩ := hl _ _ h
  have hrec := ne_loopG (A := A) (R := R) l b N I hl fin _ 0 rfl (Nat.zero_le _) s h
  obtain ⟨hp, g, d, tk, os⟩ := s
  have f3 := AutoSeq1.sub_list_list
  have hne : ¬ (items.size != items2.size) = true := by simp [hs1, hs2]
  wp_walk using wpAny_loadPart' hl1, wpAny_loadPart' hb1
  exact ⟨plainId_quiet plain_eq_loop _, codeAny_builtin entry_eq_loop (by
    rw [Around.under_plainId plain_eq_loop _]
    exact hrec)⟩
theorem rc_neG {E : Value → Shared → Prop} {l b : Addr} {N : Nat} {Q : Value → Shared → Prop} {s : Shared} (hu : A.units < cLine) (I : Nat → Shared → Prop) (hl : GQ.ListI prog w A E l b N I)
    (fin : ∀ s, I N s → Q (.bool false) s) (h : I 0 s) : wpAny (model prog w) A (richCompare .NotEq (.ref l) (.ref b)) Q E s := by
  obtain ⟨items, items2, n, n2, hl1, hb1, _, _, _⟩ := hl _ _ h
  refine wpAny_richCompare_same_room (op := .NotEq) ⟨_, hl1, rfl⟩ ⟨_, hb1, rfl⟩ F.slot_list_ne (GQ.call_here F.slot_list_ne ⟨_, hl1, rfl⟩ F.entry_list_ne (F.args_list_ne_2 _ _) ?_) hu
  exact list_neG (R := wants (fun v s' => v ≠ .notImplemented ∧ Q v s') E) l b N I hl (fun s' q => ⟨(fun x => nomatch x), fin s' q⟩) h
end
/-- an atom that is equal to itself -/
def Gd (d : D) : Prop := (∃ k ds, d = .atom k ds) ∧ Fit d ∧ eqD d d = true
def spEqA (C : Addr) : Sp := fun vs H Q _ => ∃ x y d e, vs = [x, y] ∧ Is C H x d ∧ Is C H y e ∧ Gd d ∧ Gd e ∧ shp d e = true ∧ ∀ H', Same H H' → Q (.bl (eqD d e)) H'
section
variable {P : Program} {w : World} {K : PySem.W.Frag} {mg : Str → Option Value} {base : Heap} {f : Addr} {fd : FuncData} {C : Addr}
abbrev s_Atom___eq__ : Stmt := L2.inClass (top 16) 1
theorem sc_Atom___eq__ : FnScope ["self", "other"] ["self", "other"] (C8.fnScope s_Atom___eq__) := C8.fnScope_by (by decide +kernel)
theorem ok_eq {fI : Addr} {fdI : FuncData} (F : C8.Fun K "__eq__" "Atom.__eq__" s_Atom___eq__ fI fdI) (T : Txt K mg w C)
    (c__are_equal : C8.Cal P w K mg base 2 "_are_equal" (spAre C) []) : FnOk P w K mg base C8.CX0 3 fI fdI ["self", "other"] (spEqA C) := by
  refine C8.fn0 F sc_Atom___eq__ (fun vs H Q E h => ?_) (fun cdv A outer s H vs Q E hr h => ?_)
  · obtain ⟨x, y, d, e, rfl, _⟩ := h; rfl
  obtain ⟨x, y, d, e, rfl, hx, hy, ⟨⟨k, ds, rfl⟩, zd, _⟩, ⟨⟨k', es, rfl⟩, ze, _⟩, hsh, q⟩ := h
  refine ⟨_, (pss_cons (ps_if (pt_not (pt_val (pe_callB (call_isiA T.cl) rfl T.z_isinstance bt_isinstance (pa_cons (pv 1) (pa_cons (pe_glob (v := .ref C) rfl T.g_Atom rfl) pa_nil))))) (pss_one (ps_ret pe_bl)) pss_nil)
      (pss_one (ps_ret (pe_and (pe_cmpR op_eq (pe_fld (pv 0) rfl) (pe_fld (pv 1) rfl) (nomark _)) (pe_one (C8.pe_c c__are_equal hr (by first | decide | omega) rfl (pa_cons (pe_fld (pv 0) rfl) (pa_cons (pe_fld (pv 1) rfl) pa_nil)))))))), ?_⟩
  refine ⟨_, rfl, y, _, _, _, _, rfl, hy, .own C, T.kitC _, _, rfl, bF rfl ?_⟩
  cases hx with
  | @atom a1 dx1 t1 _ xs _ u1 v1 i1 =>
    cases hy with
    | @atom a2 dx2 t2 _ ys _ u2 v2 i2 =>
      refine ⟨_, rfl, a1, C, dx1, _, _, rfl, u1, T.cl.cl, T.cl.nK, rfl, _, rfl, a2, C, dx2, _, _, rfl, u2, T.cl.cl, T.cl.nK, rfl, rfl, _, rfl, ?_⟩
      by_cases ck : k = k'
      · refine bT (by rw [ck]; simp) ?_
        have hsp : ds.length = es.length ∧ shpL ds es = true := by simpa [shp, ck] using hsh
        refine ⟨_, rfl, a1, C, dx1, _, _, rfl, u1, T.cl.cl, T.cl.nT, rfl, _, rfl, a2, C, dx2, _, _, rfl, u2, T.cl.cl, T.cl.nT, rfl, ?_⟩
        have z1 := zd.1
        have z2 := ze.1
        simp only [sz] at z1 z2
        refine ⟨_, _, ds, es, rfl, .tup v1 i1, .tup v2 i2, hsp.1, hsp.2, by omega, by omega, fun H' s' => ?_⟩
        have e0 : eqD (.atom k ds) (.atom k' es) = eqL ds es := by simp [eqD, ck]
        rw [e0] at q
        exact q H' s'
      · refine bF (by simpa using ck) ?_
        have e0 : eqD (.atom k ds) (.atom k' es) = false := by simp [eqD, ck]
        rw [e0] at q
        exact q H (Same.refl H)
end
/-- the atoms' own == -/
structure OwnE (P : Program) (w : World) (K : PySem.W.Frag) (mg : Str → Option Value) (base : Heap) (n : Nat) (C : Addr) : Prop where
  ex : ∃ (f : Addr) (fd : FuncData) (ps : List Str), FnOk P w K mg base C8.CX0 n f fd ps (spEqA C) ∧ PySem.W.findIn K (.ref C) "__eq__" = some (some (.ref f)) ∧ PySem.W.isFn K (.ref f) = true ∧ Binds K fd ps []
/-- what is asked of two atoms -/
def AtE (C : Addr) (H : Hp) (x y : V) (b : Bool) : Prop := ∃ d e, Is C H x d ∧ Is C H y e ∧ Gd d ∧ Gd e ∧ shp d e = true ∧ b = eqD d e
theorem AtE.same {C : Addr} {H H' : Hp} {x y : V} {b : Bool} (s : Same H H') (h : AtE C H x y b) : AtE C H' x y b := by
  obtain ⟨d, e, h1, h2, h3⟩ := h
  exact ⟨d, e, h1.same s, h2.same s, h3⟩
section
variable {X : Cx} {n : Nat} {C : Addr}
theorem atom_rc (O : OwnE X.prog X.w X.K X.mg X.base n C) {A : Around} {pins : List (Addr × Obj)} {s : Shared} {σ : L2.St} {H : Hp} {x y : V} {u v : Value} {b : Bool} (sb : Sub X n A) (I : Inv X pins σ H s) (rx : RelV x u) (ry : RelV y v) (h : AtE C H x y b) :
    wpAny (model X.prog X.w) A (richCompare .Eq u v) (fun r s' => r = .bool b ∧ ∃ H', Inv X pins σ H' s' ∧ Same H H') X.xe s := by
  obtain ⟨d, e, hx, hy, gd, ge, hsh, rfl⟩ := h
  obtain ⟨f, fd, ps, F, hs, hf, hb⟩ := O.ex
  have hx0 := hx
  have hy0 := hy
  obtain ⟨k, ds, rfl⟩ := gd.1
  obtain ⟨k', es, rfl⟩ := ge.1
  cases hx with
  | @atom a dx t1 _ xs _ u1 v1 i1 =>
  cases hy with
  | @atom c dy t2 _ ys _ u2 v2 i2 =>
  cases rx
  cases ry
  obtain ⟨mA, J, _⟩ := ins_get I.hok u1
  obtain ⟨mB, J', _⟩ := ins_get I.hok u2
  obtain ⟨od, J, _⟩ := J.look
  obtain ⟨od', J', _⟩ := J'.look
  obtain ⟨m, hF⟩ := I.fr
  refine PySem.W.cmp_K (op := .Eq) (tb := .ref C) sb.room.units0 hF I.ok.mod.kin J J'.type (by simp [PySem.W.notFirst]) hs hf ?_
  have hsp : spEqA C [.ref a, .ref c] H (fun v H' => v = .bl (eqD (.atom k ds) (.atom k' es)) ∧ Same H H') C8.E0 := ⟨_, _, _, _, rfl, hx0, hy0, gd, ge, hsh, fun H' e => ⟨rfl, e⟩⟩
  have e0 : Env0 X.prog X.w X.K X.mg X.base A X.stack s H := by
    have e := I.env0
    exact ⟨by rw [sb.fr]; exact e.frames, e.mod, e.bs, e.bsz, e.funs, e.frf, e.hok, e.bare⟩
  have hl := F.len _ _ _ _ hsp
  have r2 : Vals [V.ref a, V.ref c] [Value.ref a, Value.ref c] := .cons rfl (.cons rfl .nil)
  refine wpAny_call (codeAny_mono (F.run A X.stack s H ⟨[.ref a, .ref c], []⟩ [.ref a, .ref c] [.ref a, .ref c] _ C8.E0 sb.room e0 (by
    have := hb s [.ref a, .ref c] I.kIn (by simpa using hl)
    simpa using this) r2 hsp) fun r s' hq => ?_)
  cases r with
  | error e => exact C8.pass0 (E := C8.E0) pins σ H s e s' I hq
  | ok fl =>
    cases fl with
    | ret w =>
      obtain ⟨z, H', I', rz, ez, ex⟩ := I.after hq
      subst ez
      cases rz
      exact ⟨rfl, H', I', ex⟩
    | next => exact False.elim hq
    | brk => exact False.elim hq
    | cont => exact False.elim hq
theorem atom_eqB (O : OwnE X.prog X.w X.K X.mg X.base n C) {A : Around} {pins : List (Addr × Obj)} {s : Shared} {σ : L2.St} {H : Hp} {x y : V} {u v : Value} {b : Bool} (sb : Sub X n A) (I : Inv X pins σ H s) (rx : RelV x u) (ry : RelV y v) (h : AtE C H x y b) :
    wpAny (model X.prog X.w) A (eqBool u v) (fun r s' => r = b ∧ ∃ H', Inv X pins σ H' s' ∧ Same H H') X.xe s := by
  have h0 := h
  have rx0 := rx
  have ry0 := ry
  obtain ⟨d, e, hx, hy, gd, ge, hsh, hb⟩ := h
  obtain ⟨k, ds, rfl⟩ := gd.1
  obtain ⟨k', es, rfl⟩ := ge.1
  have hu := hx
  cases hx with
  | @atom a dx t1 _ xs _ u1 v1 i1 =>
  have hv := hy
  cases hy with
  | @atom c dy t2 _ ys _ u2 v2 i2 =>
  cases rx
  cases ry
  by_cases hac : a = c
  · subst hac
    have e := Is.uniq hu hv
    rw [← e, gd.2.2] at hb
    subst hb
    exact SeqAt.EqAt.same (A := A) (s := s) (.ref a) X.prog X.w X.xe _ ⟨rfl, H, I, Same.refl H⟩
  · refine GQ.eqBool_refG hac (wpAny_mono (atom_rc O sb I rx0 ry0 h0) (fun r s' q => ?_) fun _ _ x => x)
    obtain ⟨hr', q⟩ := q
    exact ⟨b, hr', rfl, q⟩
/-- what the loop keeps -/
def LoopS (X : Cx) (pins : List (Addr × Obj)) (σ : L2.St) (H : Hp) (s' : Shared) : Prop := ∃ H', Inv X pins σ H' s' ∧ Same H H'
/-- x in l, atoms -/
def rInA (C : Addr) (g : Bool → Bool) : R2 := fun x y H Q => ∃ l xs ds d, y = .ref l ∧ H l = some (.lst xs) ∧ IsA C H xs ds ∧ Is C H x d ∧ Gd d ∧ (∀ e ∈ ds, Gd e ∧ shp e d = true) ∧ ∀ H', Same H H' → Q (.bl (g (ds.any fun e => eqD e d))) H'
theorem asks_of (O : OwnE X.prog X.w X.K X.mg X.base n C) {A : Around} {pins : List (Addr × Obj)} {σ : L2.St} {H : Hp} (sb : Sub X (n + 1) A) {l : Addr} {xs : List V} {ds : List D} {x : V} {v : Value} {d : D}
    (hl : H l = some (.lst xs)) (hxs : IsA C H xs ds) (hx : Is C H x d) (rx : RelV x v) (gd : Gd d) (ga : ∀ e ∈ ds, Gd e ∧ shp e d = true) : Asks X.prog X.w A X.xe l v (LoopS X pins σ H) (ds.map fun e => eqD e d) := by
  refine ⟨fun s1 j => ?_⟩
  obtain ⟨H1, I1, e1⟩ := j
  obtain ⟨z, its, k, r, e⟩ := I1.hok l _ (e1 _ _ hl)
  have hlen := r.length
  have hxl := hxs.len
  refine ⟨its.toArray, k, e, by rw [List.size_toArray, List.length_map]; omega, fun i h h2 => ?_⟩
  have h' : i < its.length := by simpa using h
  have hi : i < xs.length := by omega
  obtain ⟨u, hu, ru⟩ := r.get (List.getElem?_eq_getElem hi)
  rw [List.getElem?_eq_getElem h'] at hu
  have hu2 : its.toArray[i] = u := by simpa using Option.some.inj hu
  obtain ⟨y, hy, hyi⟩ := hxs.at (List.getElem?_eq_getElem hi)
  have gy := ga y (List.mem_of_getElem? hy)
  have hb : (ds.map fun e => eqD e d)[i] = eqD y d := by
    have : (ds.map fun e => eqD e d)[i]? = some (eqD y d) := by rw [List.getElem?_map, hy]; rfl
    rw [List.getElem?_eq_getElem h2] at this
    exact Option.some.inj this
  rw [hu2, hb]
  refine wpAny_mono (atom_eqB O sb.in1 I1 ru rx ⟨y, d, hyi.same e1, hx.same e1, gy.1, gd, gy.2, rfl⟩) (fun r s2 q => ?_) fun _ _ x => x
  obtain ⟨hr, H2, I2, e2⟩ := q
  exact ⟨hr, H2, I2, e1.trans e2⟩
theorem op_inA (O : OwnE X.prog X.w X.K X.mg X.base n C) (hr : Room (n + 1) X.A) : OpR X (compareOp .In) (rInA C id) := by
  intro pins s σ H x y v u Q I rx ry h
  obtain ⟨l, xs, ds, d, rfl, hl, hxs, hx, gd, ga, q⟩ := h
  cases ry
  refine op_in_ (asks_of O ⟨hr, rfl⟩ hl hxs hx rx gd ga) (s := s) ⟨H, I, Same.refl H⟩ (fun s' j => ?_)
  obtain ⟨H', I', e⟩ := j
  have e9 : ((ds.map fun e => eqD e d).any id) = ds.any fun e => eqD e d := by rw [List.any_map]; rfl
  rw [e9]
  exact ⟨.bl _, H', I', rfl, q H' e⟩
theorem op_notInA (O : OwnE X.prog X.w X.K X.mg X.base n C) (hr : Room (n + 1) X.A) : OpR X (compareOp .NotIn) (rInA C not) := by
  intro pins s σ H x y v u Q I rx ry h
  obtain ⟨l, xs, ds, d, rfl, hl, hxs, hx, gd, ga, q⟩ := h
  cases ry
  refine op_notIn_ (asks_of O ⟨hr, rfl⟩ hl hxs hx rx gd ga) (s := s) ⟨H, I, Same.refl H⟩ (fun s' j => ?_)
  obtain ⟨H', I', e⟩ := j
  have e9 : ((ds.map fun e => eqD e d).any id) = ds.any fun e => eqD e d := by rw [List.any_map]; rfl
  rw [e9]
  exact ⟨.bl _, H', I', rfl, q H' e⟩
/-- l != m: lists of the same atoms -/
def rNeL (C : Addr) : R2 := fun x y H Q => ∃ l m xs ys ds, x = .ref l ∧ y = .ref m ∧ H l = some (.lst xs) ∧ H m = some (.lst ys) ∧ IsA C H xs ds ∧ IsA C H ys ds ∧ (∀ e ∈ ds, Gd e ∧ shp e e = true) ∧ ∀ H', Same H H' → Q (.bl false) H'
theorem op_neL (O : OwnE X.prog X.w X.K X.mg X.base n C) (hr : Room (n + 1) X.A) : OpR X (compareOp .NotEq) (rNeL C) := by
  intro pins s σ H x y v u Q I rx ry h
  obtain ⟨l, m, xs, ys, ds, rfl, rfl, hl, hm, hxs, hys, ga, q⟩ := h
  cases rx
  cases ry
  show wpAny (model X.prog X.w) X.A (richCompare .NotEq (.ref l) (.ref m)) (EP X pins σ Q) X.xe s
  have sb : Sub X (n + 1) X.A := ⟨hr, rfl⟩
  refine rc_neG (N := xs.length) sb.room.units0 (fun _ s' => LoopS X pins σ H s') (fun i s' j => ?_) (fun s' j => ?_) ⟨H, I, Same.refl H⟩
  · obtain ⟨H1, I1, e1⟩ := id j
    obtain ⟨z, its, k, r, e⟩ := I1.hok l _ (e1 _ _ hl)
    obtain ⟨z2, its2, k2, r2, e2⟩ := I1.hok m _ (e1 _ _ hm)
    have hl1 := hxs.len
    have hl2 := hys.len
    refine ⟨its.toArray, its2.toArray, k, k2, e, e2, by rw [List.size_toArray, ← r.length], by rw [List.size_toArray, ← r2.length]; omega, fun h1 h2 => ?_⟩
    have h1' : i < its.length := by simpa using h1
    have h2' : i < its2.length := by simpa using h2
    have hi1 : i < xs.length := by rw [r.length]; exact h1'
    have hi2 : i < ys.length := by rw [r2.length]; exact h2'
    obtain ⟨a, ha, ra⟩ := r.get (List.getElem?_eq_getElem hi1)
    obtain ⟨b, hb, rb⟩ := r2.get (List.getElem?_eq_getElem hi2)
    rw [List.getElem?_eq_getElem h1'] at ha
    rw [List.getElem?_eq_getElem h2'] at hb
    have ea : its.toArray[i] = a := by simpa using Option.some.inj ha
    have eb : its2.toArray[i] = b := by simpa using Option.some.inj hb
    obtain ⟨d, hd, hdi⟩ := hxs.at (List.getElem?_eq_getElem hi1)
    obtain ⟨d', hd', hdi'⟩ := hys.at (List.getElem?_eq_getElem hi2)
    rw [hd] at hd'
    cases hd'
    have g := ga d (List.mem_of_getElem? hd)
    rw [ea, eb]
    refine wpAny_mono (atom_eqB O sb.in1 I1 ra rb ⟨d, d, hdi.same e1, hdi'.same e1, g.1, g.1, g.2, g.1.2.2.symm⟩) (fun r s2 q => ?_) fun _ _ x => x
    obtain ⟨hr, H2, I2, e3⟩ := q
    exact ⟨hr, H2, I2, e1.trans e3⟩
  · obtain ⟨H', I', e⟩ := j
    exact ⟨.bl false, H', I', rfl, q H' e⟩
end
end Hc

namespace Hc
open PySem PySem.Spec PyProof.Rows L2 Hr
/-- tuples and atoms stay -/
structure Keep (C : Addr) (H H' : Hp) : Prop where
  tup : ∀ b xs, H b = some (.tup xs) → H' b = some (.tup xs)
  ins : ∀ b dx fs, H b = some (.ins C dx fs) → H' b = some (.ins C dx fs)
theorem Keep.of {C : Addr} {H H' : Hp} (s : Same H H') : Keep C H H' := ⟨fun b _ e => s b _ e, fun b _ _ e => s b _ e⟩
theorem Keep.trans {C : Addr} {H H1 H2 : Hp} (a : Keep C H H1) (b : Keep C H1 H2) : Keep C H H2 := ⟨fun c xs e => b.tup c xs (a.tup c xs e), fun c dx fs e => b.ins c dx fs (a.ins c dx fs e)⟩
theorem Keep.lst {C : Addr} {H : Hp} {l : Addr} {xs ys : List V} (h : H l = some (.lst xs)) : Keep C H (upd H l (.lst ys)) :=
  ⟨fun b _ e => by rw [upd_ne (fun z => by rw [z, h] at e; cases e)]; exact e, fun b _ _ e => by rw [upd_ne (fun z => by rw [z, h] at e; cases e)]; exact e⟩
/-- all but the list at l stays -/
def But (l : Addr) (H H' : Hp) : Prop := ∀ b o, H b = some o → b ≠ l → H' b = some o
theorem But.keep {C l : Addr} {H H' : Hp} {xs : List V} (h : H l = some (.lst xs)) (b : But l H H') : Keep C H H' :=
  ⟨fun c _ e => b c _ e (fun z => by rw [z, h] at e; cases e), fun c _ _ e => b c _ e (fun z => by rw [z, h] at e; cases e)⟩
mutual
/-- no lists and no dicts within -/
def cln : D → Bool
  | .tup ds => clnL ds
  | .atom _ ds => clnL ds
  | .lst _ => false
  | .dct => false
  | _ => true
def clnL : List D → Bool
  | [] => true
  | d :: ds => cln d && clnL ds
end
mutual
theorem Is.keep {C : Addr} {H H' : Hp} (k : Keep C H H') : ∀ {x : V} {d : D}, cln d = true → Is C H x d → Is C H' x d
  | _, _, _, .non => .non
  | _, _, _, .bl b => .bl b
  | _, _, _, .int i => .int i
  | _, _, _, .str s => .str s
  | _, _, c, .tup h t => .tup (k.tup _ _ h) (IsA.keep k (by simpa [cln] using c) t)
  | _, _, c, .lst h t => by simp [cln] at c
  | _, _, c, .dct h => by simp [cln] at c
  | _, _, c, .atom h h2 t => .atom (k.ins _ _ _ h) (k.tup _ _ h2) (IsA.keep k (by simpa [cln] using c) t)
theorem IsA.keep {C : Addr} {H H' : Hp} (k : Keep C H H') : ∀ {xs : List V} {ds : List D}, clnL ds = true → IsA C H xs ds → IsA C H' xs ds
  | _, _, _, .nil => .nil
  | _, _, c, .cons h t => by
    simp only [clnL, Bool.and_eq_true] at c
    exact .cons (Is.keep k c.1 h) (IsA.keep k c.2 t)
end
theorem clnL_iff : ∀ {ds : List D}, clnL ds = true ↔ ∀ d ∈ ds, cln d = true
  | [] => by simp [clnL]
  | d :: ds => by simp [clnL, clnL_iff (ds := ds)]
theorem clnL_app (a b : List D) : clnL (a ++ b) = (clnL a && clnL b) := by
  induction a with
  | nil => simp [clnL]
  | cons x a ih => rw [List.cons_append]; simp only [clnL]; rw [ih, Bool.and_assoc]
/-- what is there already is passed over -/
def add1 (ds : List D) (a : D) : List D := if ds.any (fun e => eqD e a) then ds else ds ++ [a]
def addAll (ds ps : List D) : List D := ps.foldl add1 ds
theorem add1_mem {ds : List D} {a e : D} (h : e ∈ add1 ds a) : e ∈ ds ∨ e = a := by
  unfold add1 at h
  split at h
  · exact .inl h
  · simpa using h
theorem addAll_mem : ∀ {ps ds : List D} {e : D}, e ∈ addAll ds ps → e ∈ ds ∨ e ∈ ps
  | [], ds, e, h => .inl h
  | p :: ps, ds, e, h => by
    rcases addAll_mem (ps := ps) (ds := add1 ds p) h with h | h
    · rcases add1_mem h with h | h
      · exact .inl h
      · exact .inr (by rw [h]; exact List.mem_cons_self)
    · exact .inr (List.mem_cons_of_mem _ h)
theorem addAll_app (ds ps qs : List D) : addAll ds (ps ++ qs) = addAll (addAll ds ps) qs := List.foldl_append
theorem add1_len (ds : List D) (a : D) : (add1 ds a).length ≤ ds.length + 1 := by
  unfold add1
  split
  · omega
  · simp
theorem addAll_len : ∀ (ps ds : List D), (addAll ds ps).length ≤ ds.length + ps.length
  | [], ds => Nat.le_refl _
  | p :: ps, ds => by
    have := addAll_len ps (add1 ds p)
    have := add1_len ds p
    show (addAll (add1 ds p) ps).length ≤ _
    simp only [List.length_cons]; omega
/-- the class Knowledge at N -/
structure Kno (K : PySem.W.Frag) (mg : Str → Option Value) (N : Addr) : Prop where
  cl : Cls K N
  g_Knowledge : mg "Knowledge" = some (.ref N)
  nA : NoAttr K N "_atoms"
/-- what a host has, by its list -/
def Kn (N : Addr) (H : Hp) (p l : Addr) (xs : List V) : Prop := (∃ dx, H p = some (.ins N dx [("_atoms", .ref l)])) ∧ H l = some (.lst xs)
theorem Kn.same {N : Addr} {H H' : Hp} {p l : Addr} {xs : List V} (s : Same H H') (h : Kn N H p l xs) : Kn N H' p l xs := by
  obtain ⟨⟨dx, h1⟩, h2⟩ := h
  exact ⟨⟨dx, s _ _ h1⟩, s _ _ h2⟩
/-- atoms of a family whose shapes fit -/
def Fam (as : List D) : Prop := ∀ a ∈ as, Gd a ∧ cln a = true ∧ ∀ b ∈ as, shp a b = true
def spKI (N : Addr) : Sp := fun vs H Q _ => ∃ p dx, vs = [.ref p] ∧ H p = some (.ins N dx []) ∧ ∀ l, H l = none → Q .non (upd (upd H l (.lst [])) p (.ins N dx [("_atoms", .ref l)]))
def spAtoms (N : Addr) : Sp := fun vs H Q _ => ∃ p l xs, vs = [.ref p] ∧ Kn N H p l xs ∧ ∀ m, H m = none → Q (.ref m) (upd H m (.lst xs))
def spCopy (N : Addr) : Sp := fun vs H Q _ => ∃ p l xs, vs = [.ref p] ∧ Kn N H p l xs ∧ ∀ H' q m, Same H H' → H q = none → H m = none → Kn N H' q m xs → Q (.ref q) H'
def spTake (N C : Addr) (U : List D) : Sp := fun vs H Q _ => ∃ p l x xs ds d, vs = [.ref p, x] ∧ Kn N H p l xs ∧ IsA C H xs ds ∧ Is C H x d ∧ Fit d ∧ Fam U ∧ (∀ a ∈ ds, a ∈ U) ∧ (∀ a ∈ places d, a ∈ U) ∧ ds.length ≤ 1000000 ∧
  ∀ H' ys, But l H H' → H' l = some (.lst ys) → IsA C H' ys (addAll ds (places d)) → Q .non H'
def spCan (N C : Addr) (U : List D) : Sp := fun vs H Q _ => ∃ p l x xs ds d, vs = [.ref p, x] ∧ Kn N H p l xs ∧ IsA C H xs ds ∧ Is C H x d ∧ Fit d ∧ Fam U ∧ (∀ a ∈ ds, a ∈ U) ∧ (okW 40 40 0 d = true → ∀ a ∈ places d, a ∈ U) ∧
  ∀ H', Same H H' → Q (.bl (okW 40 40 0 d && (places d).all fun a => ds.any fun e => eqD e a)) H'
section
variable {X : Cx} {k j : Nat} {C : Addr} {x : Str} {sp : Sp} {dvs : List V} {p pos : Pos}
theorem pe_mk0 (c : C8.Mak X.prog X.w X.K X.mg X.base k x C sp dvs) (hr : Room j X.A) (hk : k + 1 ≤ j) (hg : Gl X x) (hdb : (x == ("__debug__" : Str)) = false := by decide) :
    PE X (.Call (.Name x p) [] [] pos) (tMake C sp dvs C8.E0 tNil) := by
  obtain ⟨f, fd, ps, ds, M, F, hm, b, d⟩ := c.ex
  exact pe_make0 M F (hr.mono hk) hg hm b d C8.pass0 hdb
end
section
variable {P : Program} {w : World} {K : PySem.W.Frag} {mg : Str → Option Value} {base : Heap} {f : Addr} {fd : FuncData} {C N : Addr}
abbrev s_Knowledge___init__ : Stmt := L2.inClass (top 17) 0
theorem sc_Knowledge___init__ : FnScope ["self"] ["self"] (C8.fnScope s_Knowledge___init__) := C8.fnScope_by (by decide +kernel)
theorem ok_kinit {fI : Addr} {fdI : FuncData} (M : Mk K N fI) (G : Kno K mg N) (F : C8.Fun K "__init__" "Knowledge.__init__" s_Knowledge___init__ fI fdI) (b : Binds K fdI ["self"] []) : C8.Mak P w K mg base 1 "Knowledge" N (spKI N) [] := by
  refine C8.mak0 M G.g_Knowledge F b .nil sc_Knowledge___init__ (fun vs H Q E h => ?_) (fun cdv A outer s H vs Q E hr h => ?_)
  · obtain ⟨p, dx, rfl, _⟩ := h; rfl
  obtain ⟨p, dx, rfl, hp, q⟩ := h
  refine ⟨_, (pss_one (ps_fld (pv 0) (pe_lst pa_nil) rfl)), ?_⟩
  refine ⟨(by show 0 ≤ sizeLine; decide), fun l hl => ⟨_, rfl, p, N, dx, [], rfl, same_new hl _ _ hp, G.cl, G.nA, (by show 0 < 1000; decide), q l hl⟩⟩
abbrev s_Knowledge_atoms : Stmt := L2.inClass (top 17) 3
theorem sc_Knowledge_atoms : FnScope ["self"] ["self"] (C8.fnScope s_Knowledge_atoms) := C8.fnScope_by (by decide +kernel)
theorem ok_atoms {fI : Addr} {fdI : FuncData} (me : Meth K N "atoms" fI) (G : Kno K mg N) (T : Txt K mg w C) (F : C8.Fun K "atoms" "Knowledge.atoms" s_Knowledge_atoms fI fdI) (b : Binds K fdI ["self"] []) : C8.Met P w K mg base 1 N "atoms" (spAtoms N) [] := by
  refine C8.met0 G.cl me F b sc_Knowledge_atoms (fun vs H Q E h => ?_) (fun cdv A outer s H vs Q E hr h => ?_)
  · obtain ⟨p, l, xs, rfl, _⟩ := h; rfl
  obtain ⟨p, l, xs, rfl, ⟨⟨dx, hp⟩, hl⟩, q⟩ := h
  refine ⟨_, (pss_one (ps_ret (pe_callTy call_list_of rfl T.z_list bt_list (pa_cons (pe_fld (pv 0) rfl) pa_nil)))), ?_⟩
  exact ⟨_, rfl, p, N, dx, _, _, rfl, hp, G.cl, G.nA, rfl, l, xs, rfl, .inl (SqL.of hl), q⟩
abbrev s_Knowledge_copy : Stmt := L2.inClass (top 17) 4
theorem sc_Knowledge_copy : FnScope ["self", "other"] ["self"] (C8.fnScope s_Knowledge_copy) := C8.fnScope_by (by decide +kernel)
theorem ok_copy {fI : Addr} {fdI : FuncData} (me : Meth K N "copy" fI) (G : Kno K mg N) (T : Txt K mg w C) (k_Knowledge : C8.Mak P w K mg base 1 "Knowledge" N (spKI N) []) (F : C8.Fun K "copy" "Knowledge.copy" s_Knowledge_copy fI fdI) (b : Binds K fdI ["self"] []) : C8.Met P w K mg base 3 N "copy" (spCopy N) [] := by
  refine C8.met0 G.cl me F b sc_Knowledge_copy (fun vs H Q E h => ?_) (fun cdv A outer s H vs Q E hr h => ?_)
  · obtain ⟨p, l, xs, rfl, _⟩ := h; rfl
  obtain ⟨p, l, xs, rfl, ⟨⟨dx, hp⟩, hl⟩, q⟩ := h
  refine ⟨_, (pss_cons (ps_set (i := 1) sc_Knowledge_copy.nd rfl (Or.inl rfl) (pe_mk0 k_Knowledge hr (by first | decide | omega) rfl))
      (pss_cons (ps_fld (pv 1) (pe_callTy call_list_of rfl T.z_list bt_list (pa_cons (pe_fld (pv 0) rfl) pa_nil)) rfl)
      (pss_one (ps_ret (pv 1))))), ?_⟩
  intro o do_ ho hdo hne
  have s1 : Same H (upd (upd H do_ (.own o)) o (.ins N do_ [])) := same_put (same_new hdo) ho
  have n1 : p ≠ o := ne_of_none hp ho
  have n2 : l ≠ o := ne_of_none hl ho
  refine ⟨o, do_, rfl, upd_same, fun m hm => ⟨rfl, ?_⟩⟩
  have nmo : m ≠ o := fun z => by rw [z, upd_same] at hm; cases hm
  have hm0 : H m = none := s1.free hm
  have s2 : Same H (upd (upd (upd (upd H do_ (.own o)) o (.ins N do_ [])) m (.lst [])) o (.ins N do_ [("_atoms", .ref m)])) := same_put (same_put s1 hm0) ho
  have ho2 : (upd (upd (upd (upd H do_ (.own o)) o (.ins N do_ [])) m (.lst [])) o (.ins N do_ [("_atoms", .ref m)])) o = some (.ins N do_ [("_atoms", .ref m)]) := upd_same
  generalize (upd (upd (upd (upd H do_ (.own o)) o (.ins N do_ [])) m (.lst [])) o (.ins N do_ [("_atoms", .ref m)])) = H2 at s2 ho2
  refine ⟨_, rfl, p, N, dx, _, _, rfl, s2 _ _ hp, G.cl, G.nA, rfl, l, xs, rfl, .inl (SqL.of (s2 _ _ hl)), fun r hr' => ?_⟩
  have hr0 : H r = none := s2.free hr'
  have nro : r ≠ o := fun z => by rw [z, ho2] at hr'; cases hr'
  refine ⟨_, rfl, o, N, do_, _, rfl, by rw [upd_ne nro.symm]; exact ho2, G.cl, G.nA, (by show 1 < 1000; decide), ?_⟩
  refine ⟨_, rfl, q _ o r (same_put (same_put s2 hr0) ho) ho hr0 ⟨⟨do_, upd_same⟩, by rw [upd_ne nro]; exact upd_same⟩⟩
abbrev s_Knowledge_take : Stmt := L2.inClass (top 17) 1
theorem sc_Knowledge_take : FnScope ["self", "word", "atom"] ["self", "word"] (C8.fnScope s_Knowledge_take) := C8.fnScope_by (by decide +kernel)
theorem ok_take {U : List D} {fI : Addr} {fdI : FuncData} (me : Meth K N "take" fI) (G : Kno K mg N) (T : Txt K mg w C) (O : OwnE P w K mg base 3 C) (c__places_of_atoms : C8.Cal P w K mg base 1 "_places_of_atoms" (spPlaces C) []) (F : C8.Fun K "take" "Knowledge.take" s_Knowledge_take fI fdI) (b : Binds K fdI ["self", "word"] []) : C8.Met P w K mg base 5 N "take" (spTake N C U) [] := by
  refine C8.met0 G.cl me F b sc_Knowledge_take (fun vs H Q E h => ?_) (fun cdv A outer s H vs Q E hr h => ?_)
  · obtain ⟨p, l, x, xs, ds, d, rfl, _⟩ := h; rfl
  obtain ⟨p, l, x, xs, ds, d, rfl, ⟨⟨dx, hp⟩, hl⟩, hxs, hx, hz, hU, h1, h2, hlen, q⟩ := h
  refine ⟨_, (pss_one (ps_for PassesOwn.never rfl (pi_list (C8.pe_c c__places_of_atoms hr (by first | decide | omega) rfl (pa_cons (pv 1) pa_nil))) (pg_name (i := 2) sc_Knowledge_take.nd rfl (Or.inl rfl))
      (pss_one (ps_if (pt_cmpR (op_notInA O (hr.mono (by decide))) (pv 2) (pe_fld (pv 0) rfl) (by with_unfolding_all rfl)) (pss_one (ps_expr (pe_bm PySem.F.plainAttrs_list PySem.F.slot_list_append PySem.F.type_list_append mt_append (pe_fld (pv 0) rfl) (pa_cons (pv 2) pa_nil)))) pss_nil)))), ?_⟩
  refine ⟨x, rfl, x, d, rfl, hx, hz, fun H1 pl ps s1 hpl hps iA => ?_⟩
  have hpll := places_len d
  have hpl0 : pl ≠ l := fun z => by rw [z, hl] at hpl; cases hpl
  have hc : clnL (places d) = true := clnL_iff.mpr fun a ha => (hU a (h2 a ha)).2.1
  have hcd : clnL ds = true := clnL_iff.mpr fun a ha => (hU a (h1 a ha)).2.1
  refine ⟨pl, rfl, ⟨ps, SqL.of hps⟩, for_it (walk_list (xs := ps)) (fun i σ H2 => ∃ v2 ys, σ = [some (.ref p), some x, v2] ∧ But l H1 H2 ∧ H2 l = some (.lst ys) ∧ IsA C H2 ys (addAll ds ((places d).take i))) ⟨none, xs, rfl, fun b o e _ => e, s1 _ _ hl, hxs.same s1⟩ (fun i σ H2 _ h => ?_) ?_ ?_⟩
  · obtain ⟨_, _, _, b2, _⟩ := h
    exact SqL.of (b2 _ _ hps hpl0)
  · rintro i y σ H2 H3 hi ⟨v2, ys, rfl, b2, hl2, iy⟩ ⟨rfl, hy⟩
    obtain ⟨a, ha, hya⟩ := iA.at hy
    have hau : a ∈ U := h2 a (List.mem_of_getElem? ha)
    have kp : Keep C H1 H3 := But.keep (s1 _ _ hl) b2
    have hya3 : Is C H3 y a := Is.keep kp (hU a hau).2.1 hya
    have hpn : p ≠ l := fun z => by rw [z, hl] at hp; cases hp
    have hmem : ∀ e ∈ addAll ds ((places d).take i), e ∈ U := fun e he => by
      rcases addAll_mem he with he | he
      · exact h1 e he
      · exact h2 e (List.mem_of_mem_take he)
    have estep : addAll ds ((places d).take (i + 1)) = add1 (addAll ds ((places d).take i)) a := by
      rw [List.take_add_one, ha, addAll_app]; rfl
    refine ⟨_, rfl, _, rfl, p, N, dx, _, _, rfl, b2 _ _ (s1 _ _ hp) hpn, G.cl, G.nA, rfl, l, ys, _, a, rfl, hl2, iy, hya3, (hU a hau).1, fun e he => ⟨(hU e (hmem e he)).1, (hU e (hmem e he)).2.2 a hau⟩, fun H4 s4 => ⟨_, rfl, ?_⟩⟩
    have hll := iy.len
    have hla := addAll_len ((places d).take i) ds
    have hlt : ((places d).take i).length ≤ 1000000 := by rw [List.length_take]; have := hz.1; omega
    cases hany : (addAll ds ((places d).take i)).any (fun e => eqD e a) with
    | true =>
      refine bF rfl ⟨_, ys, rfl, fun b o e n => s4 _ _ (b2 b o e n), s4 _ _ hl2, ?_⟩
      rw [estep]
      unfold add1
      rw [if_pos hany]
      exact iy.same s4
    | false =>
      refine bT rfl ?_
      refine ⟨_, rfl, p, N, dx, _, _, rfl, s4 _ _ (b2 _ _ (s1 _ _ hp) hpn), G.cl, G.nA, rfl, .inl ⟨rfl, _, SqL.of (s4 _ _ hl2)⟩, _, rfl, l, ys, y, rfl, rfl, s4 _ _ hl2, Nat.lt_of_lt_of_le (show ys.length < 2000001 by omega) (by decide), ?_⟩
      refine ⟨_, ys ++ [y], rfl, fun b o e n => by rw [upd_ne n]; exact s4 _ _ (b2 b o e n), upd_same, ?_⟩
      rw [estep]
      unfold add1
      rw [if_neg (by rw [hany]; exact Bool.false_ne_true)]
      have kq : Keep C H3 (upd H4 l (.lst (ys ++ [y]))) := (Keep.of s4).trans (Keep.lst (s4 _ _ hl2))
      exact (IsA.keep kq (clnL_iff.mpr fun e he => (hU e (hmem e he)).2.1) iy).app (.cons (Is.keep kq (hU a hau).2.1 hya3) .nil)
  · rintro σ H2 ⟨v2, ys, rfl, b2, hl2, iy⟩
    have hll := iA.len
    rw [List.take_of_length_le (by omega)] at iy
    exact q H2 ys (fun b o e n => b2 b o (s1 _ _ e) n) hl2 iy
abbrev s_Knowledge_can_make : Stmt := L2.inClass (top 17) 2
theorem sc_Knowledge_can_make : FnScope ["self", "value", "atom"] ["self", "value"] (C8.fnScope s_Knowledge_can_make) := C8.fnScope_by (by decide +kernel)
theorem ok_can {U : List D} {fI : Addr} {fdI : FuncData} (me : Meth K N "can_make" fI) (G : Kno K mg N) (T : Txt K mg w C) (O : OwnE P w K mg base 3 C) (c_is_word : C8.Cal P w K mg base 3 "is_word" (spB C Fit (okW 40 40 0)) []) (c__places_of_atoms : C8.Cal P w K mg base 1 "_places_of_atoms" (spPlaces C) []) (F : C8.Fun K "can_make" "Knowledge.can_make" s_Knowledge_can_make fI fdI) (b : Binds K fdI ["self", "value"] []) : C8.Met P w K mg base 5 N "can_make" (spCan N C U) [] := by
  refine C8.met0 G.cl me F b sc_Knowledge_can_make (fun vs H Q E h => ?_) (fun cdv A outer s H vs Q E hr h => ?_)
  · obtain ⟨p, l, x, xs, ds, d, rfl, _⟩ := h; rfl
  obtain ⟨p, l, x, xs, ds, d, rfl, ⟨⟨dx, hp⟩, hl⟩, hxs, hx, hz, hU, h1, h2, q⟩ := h
  refine ⟨_, (pss_one (ps_ret (pe_and (C8.pe_c c_is_word hr (by first | decide | omega) rfl (pa_cons (pv 1) pa_nil)) (pe_one (pe_callB (cr_all rfl) rfl T.z_all bt_all (pa_cons (pe_lc (own := [("atom", 2)]) (te := tOp (rInA C id) (tVar 2) (tFld K (tVar 0) "_atoms")) (g := gName 2) rfl sc_Knowledge_can_make.nd (pi_list (C8.pe_c c__places_of_atoms hr (by first | decide | omega) rfl (pa_cons (pv 1) pa_nil))) (blkOk_by (own := [("atom", 2)]) (N := ["self", "value", "atom"]) (sc := C8.fnScope s_Knowledge_can_make) (by decide +kernel)) (fun _ _ _ _ _ => (pg_name (i := 2) sc_Knowledge_can_make.nd rfl (Or.inl rfl))) (fun _ _ _ _ _ => pts_nil) (fun _ _ _ _ _ => (pe_cmpR (op_inA O (hr.mono (by decide))) (pv 2) (pe_fld (pv 0) rfl) (by with_unfolding_all rfl)))) pa_nil)))))), ?_⟩
  refine ⟨x, rfl, x, d, rfl, hx, hz, fun H1 s1 => ⟨_, rfl, ?_⟩⟩
  cases ho : okW 40 40 0 d with
  | false =>
    rw [ho] at q
    exact iteF (q H1 s1)
  | true =>
    have h2 := h2 ho
    rw [ho, Bool.true_and] at q
    refine iteT ⟨x, rfl, x, d, rfl, hx.same s1, hz, fun H2 pl ps s2 hpl hps iA => ?_⟩
    have s12 := s1.trans s2
    refine ⟨pl, rfl, ⟨ps, SqL.of hps⟩, fun Dl hD => ?_⟩
    refine lc_it (walk_list (xs := ps)) (fun i H3 => Same H2 H3 ∧ H3 Dl = some (.lst (((places d).take i).map fun a => V.bl (ds.any fun e => eqD e a)))) ⟨same_new hD, upd_same⟩ (fun i H3 _ h => SqL.of (h.1 _ _ hps)) ?_ ?_
    · rintro i y H3 H4 hi ⟨s3, hz3⟩ ⟨rfl, hy⟩
      obtain ⟨a, ha, hya⟩ := iA.at hy
      have hau : a ∈ U := h2 a (List.mem_of_getElem? ha)
      have s03 := s12.trans s3
      refine ⟨rfl, yes ?_⟩
      refine ⟨_, rfl, _, rfl, p, N, dx, _, _, rfl, s03 _ _ hp, G.cl, G.nA, rfl, l, xs, ds, a, rfl, s03 _ _ hl, hxs.same s03, hya.same s3, (hU a hau).1, fun e he => ⟨(hU e (h1 e he)).1, (hU e (h1 e he)).2.2 a hau⟩, fun H5 s5 => ?_⟩
      have hpll := places_len d
      refine ⟨_, s5 _ _ hz3, Nat.lt_of_lt_of_le (show _ < 1000001 by rw [List.length_map, List.length_take]; have := hz.1; omega) (by decide), same_put (s3.trans s5) hD, ?_⟩
      rw [upd_same, List.take_add_one, ha, List.map_append]; rfl
    · rintro H3 ⟨s3, hz3⟩
      have hll := iA.len
      rw [List.take_of_length_le (by omega)] at hz3
      refine ⟨Dl, (places d).map fun a => ds.any fun e => eqD e a, rfl, SqL.of (by rw [List.map_map]; exact hz3), ?_⟩
      have e9 : ((places d).map fun a => ds.any fun e => eqD e a).all id = (places d).all fun a => ds.any fun e => eqD e a := by rw [List.all_map]; rfl
      rw [e9]
      exact q H3 (s12.trans s3)
end
end Hc

namespace Hc
open PySem PySem.Spec PyProof.Rows L2 Hr
theorem ru {k : Nat} {A : Around} (r : Room k A) : A.units + 1 < cLine := by have := r.units; omega
def kD (c : Addr) (r m : Int) : List (Key × V) := [(.inr "cells", .ref c), (.inr "rest", .int r), (.inr "mixed", .int m)]
theorem n_rc : ¬ (("cells" : Str) = "rest") := by decide +kernel
theorem n_mc : ¬ (("cells" : Str) = "mixed") := by decide +kernel
theorem n_mr : ¬ (("rest" : Str) = "mixed") := by decide +kernel
theorem n_cr : ¬ (("rest" : Str) = "cells") := by decide +kernel
theorem n_cm : ¬ (("mixed" : Str) = "cells") := by decide +kernel
theorem n_rm : ¬ (("mixed" : Str) = "rest") := by decide +kernel
section
variable {H : Hp} {d c : Addr} {r m : Int}
theorem dg_cells (h : H d = some (.dK (kD c r m))) : DGet H d (.str "cells") (some (.ref c)) := by
  have := DGet.k (k := .inr "cells") h
  rwa [show valV (kD c r m) (.inr "cells") = some (.ref c) by simp [kD, valV]] at this
theorem dg_rest (h : H d = some (.dK (kD c r m))) : DGet H d (.str "rest") (some (.int r)) := by
  have := DGet.k (k := .inr "rest") h
  rwa [show valV (kD c r m) (.inr "rest") = some (.int r) by simp [kD, valV, n_rc]] at this
theorem dg_mixed (h : H d = some (.dK (kD c r m))) : DGet H d (.str "mixed") (some (.int m)) := by
  have := DGet.k (k := .inr "mixed") h
  rwa [show valV (kD c r m) (.inr "mixed") = some (.int m) by simp [kD, valV, n_mc, n_mr]] at this
theorem dp_rest {v : Int} (h : H d = some (.dK (kD c r m))) : DPut H d (.str "rest") (.int v) (upd H d (.dK (kD c v m))) := by
  have := DPut.k (k := .inr "rest") (v := .int v) h (Nat.lt_of_lt_of_le (show 3 < 1000001 by decide) (by decide))
  rwa [show putK (kD c r m) (.inr "rest") (.int v) = kD c v m by simp [kD, putK, n_rc, n_mr, n_rm]] at this
theorem dp_mixed {v : Int} (h : H d = some (.dK (kD c r m))) : DPut H d (.str "mixed") (.int v) (upd H d (.dK (kD c r v))) := by
  have := DPut.k (k := .inr "mixed") (v := .int v) h (Nat.lt_of_lt_of_le (show 3 < 1000001 by decide) (by decide))
  rwa [show putK (kD c r m) (.inr "mixed") (.int v) = kD c r v by simp [kD, putK, n_mc, n_mr]] at this
end
/-- the drawing dict, its cells -/
def Dr (H : Hp) (d c : Addr) : Prop := (∃ r m, H d = some (.dK (kD c r m))) ∧ ∃ ns : List Int, ns.length ≤ 1000 ∧ H c = some (.lst (ns.map V.int))
/-- all but those two stay -/
def Bu2 (d c : Addr) (H H' : Hp) : Prop := ∀ b o, H b = some o → b ≠ d → b ≠ c → H' b = some o
theorem Bu2.refl {d c : Addr} {H : Hp} : Bu2 d c H H := fun _ _ e _ _ => e
theorem Bu2.of {d c : Addr} {H H' : Hp} (s : Same H H') : Bu2 d c H H' := fun b o e _ _ => s b o e
theorem Bu2.trans {d c : Addr} {H H1 H2 : Hp} (a : Bu2 d c H H1) (b : Bu2 d c H1 H2) : Bu2 d c H H2 := fun x o e n1 n2 => b x o (a x o e n1 n2) n1 n2
theorem Bu2.d {d c : Addr} {H : Hp} {o : HO} : Bu2 d c H (upd H d o) := fun x _ e n _ => by rw [upd_ne n]; exact e
theorem Bu2.c {d c : Addr} {H : Hp} {o : HO} : Bu2 d c H (upd H c o) := fun x _ e _ n => by rw [upd_ne n]; exact e
theorem Dr.ne {H : Hp} {d c : Addr} (h : Dr H d c) : d ≠ c := fun z => by
  obtain ⟨⟨r, m, h1⟩, ns, _, h2⟩ := h
  rw [z, h2] at h1; cases h1
theorem Dr.keep {C : Addr} {H H' : Hp} {d c : Addr} (h : Dr H d c) (b : Bu2 d c H H') : Keep C H H' := by
  obtain ⟨⟨r, m, h1⟩, ns, _, h2⟩ := h
  exact ⟨fun x _ e => b x _ e (fun z => by rw [z, h1] at e; cases e) (fun z => by rw [z, h2] at e; cases e), fun x _ _ e => b x _ e (fun z => by rw [z, h1] at e; cases e) (fun z => by rw [z, h2] at e; cases e)⟩
theorem Dr.same {H H' : Hp} {d c : Addr} (s : Same H H') (h : Dr H d c) : Dr H' d c := by
  obtain ⟨⟨r, m, h1⟩, ns, hn, h2⟩ := h
  exact ⟨⟨r, m, s _ _ h1⟩, ns, hn, s _ _ h2⟩
/-- what is none of the two stays none -/
theorem Dr.off {H : Hp} {d c : Addr} (h : Dr H d c) {p : Addr} (hp : H p = none) : p ≠ d ∧ p ≠ c := by
  obtain ⟨⟨r, m, h1⟩, ns, hn, h2⟩ := h
  exact ⟨fun z => (by rw [z, h1] at hp; cases hp), fun z => (by rw [z, h2] at hp; cases hp)⟩
def spDraw : Sp := fun vs H Q _ => ∃ d c many, vs = [.ref d, .int many] ∧ Dr H d c ∧ 0 < many ∧ many < 1073741824 ∧ ∀ H' r, Dr H' d c → Bu2 d c H H' → 0 ≤ r → r < many → Q (.int r) H'
def spPick : Sp := fun vs H Q _ => ∃ (d c l : Addr) (xs : List V), vs = [.ref d, .ref l] ∧ Dr H d c ∧ H l = some (.lst xs) ∧ l ≠ c ∧ 0 < xs.length ∧ xs.length < 1000000 ∧ ∀ (H' : Hp) (i : Nat) (x : V), Dr H' d c → Bu2 d c H H' → xs[i]? = some x → Q x H'
section
variable {P : Program} {w : World} {K : PySem.W.Frag} {mg : Str → Option Value} {base : Heap} {f : Addr} {fd : FuncData} {C N : Addr}
abbrev s__law_begin : Stmt := top 26
theorem sc__law_begin : FnScope ["script"] ["script"] (C8.fnScope s__law_begin) := C8.fnScope_by (by decide +kernel)
theorem ok__law_begin (F : C8.Def K mg "_law_begin" s__law_begin f fd) (b : Binds K fd ["script"] []) (T : Txt K mg w C) : C8.Cal P w K mg base 1 "_law_begin" (fun vs H Q _ => ∃ (a : Addr) (ns : List Int), vs = [.ref a] ∧ SqL K H a (ns.map V.int) ∧ ns.length ≤ 1000 ∧ ∀ H' d c, Same H H' → H d = none → H c = none → Dr H' d c → Q (.ref d) H') [] := by
  refine C8.cal0 F b .nil sc__law_begin (fun vs H Q E h => ?_) (fun cdv A outer s H vs Q E hr h => ?_)
  · obtain ⟨a, ns, rfl, _⟩ := h; rfl
  obtain ⟨a, ns, rfl, hl, hn, q⟩ := h
  refine ⟨_, (pss_one (ps_ret (pe_disp (pps_cons pe_str (pe_callTy call_list_of rfl T.z_list bt_list (pa_cons (pv 0) pa_nil)) (pps_cons pe_str pe_int (pps_cons pe_str pe_int pps_nil))) rfl rfl (List.cons_ne_nil _ _) (by decide)))), ?_⟩
  intro d hd
  have s1 := same_new (o := .dK []) hd
  refine ⟨_, rfl, a, ns.map V.int, rfl, .inl (hl.ext s1), fun c hc => ?_⟩
  have ndc : d ≠ c := fun z => by rw [← z, upd_same] at hc; cases hc
  refine ⟨by rw [upd_ne ndc]; exact upd_same, kD c 0 1, rfl, by show 3 ≤ 15; decide, ?_⟩
  refine q _ d c (same_put (same_put s1 (s1.free hc)) hd) hd (s1.free hc) ⟨⟨0, 1, ?_⟩, ns, hn, by rw [upd_ne ndc.symm]; exact upd_same⟩
  rw [upd_same]
  refine congrArg (fun l => some (HO.dK l)) ?_
  simp [kD, mergeK, putK, n_rc, n_mc, n_mr]
abbrev s__law_draw : Stmt := top 27
theorem sc__law_draw : FnScope ["draws", "many", "cells", "cell", "value"] ["draws", "many"] (C8.fnScope s__law_draw) := C8.fnScope_by (by decide +kernel)
theorem ok__law_draw (F : C8.Def K mg "_law_draw" s__law_draw f fd) (b : Binds K fd ["draws", "many"] []) (T : Txt K mg w C) : C8.Cal P w K mg base 1 "_law_draw" spDraw [] := by
  refine C8.cal0 F b .nil sc__law_draw (fun vs H Q E h => ?_) (fun cdv A outer s H vs Q E hr h => ?_)
  · obtain ⟨d, c, many, rfl, _⟩ := h; rfl
  obtain ⟨d, c, many, rfl, hD, hm0, hm1, q⟩ := h
  refine ⟨_, (C8.pss_cut (ps_if (PW.pt (pw_and (pt_cmpR op_eq (pe_dget (ru hr) (pv 0) pe_str (fun _ _ => rfl)) pe_int (nomark _)) (pw_and1 (pt_cmpR op_gt (pe_callB call_lenS rfl T.z_len bt_len (pa_cons (pe_dget (ru hr) (pv 0) pe_str (fun _ _ => rfl)) pa_nil)) pe_int (nomark _))))) (pss_cons (ps_set (i := 2) sc__law_draw.nd rfl (Or.inl rfl) (pe_dget (ru hr) (pv 0) pe_str (fun _ _ => rfl)))
      (pss_cons (ps_set (i := 3) sc__law_draw.nd rfl (Or.inl rfl) (pe_callB call_abs rfl T.z_abs bt_abs (pa_cons (pe_bm PySem.F.plainAttrs_list PySem.F.slot_list_pop PySem.F.type_list_pop mt_popAt (pv 2) (pa_cons pe_int pa_nil)) pa_nil)))
      (pss_cons (ps_if (pt_cmpR op_ge (pv 3) (pe_op op_pow pe_int pe_int) (nomark _)) (pss_one (ps_dput (ru hr) (pv 0) pe_str (pv 3) rfl)) pss_nil)
      (pss_one (ps_dput (ru hr) (pv 0) pe_str (pe_op op_mod (pe_callTy call_int1 rfl T.z_int bt_int (pa_cons (pe_op op_add (pe_op op_add (pe_op op_mul (pe_dget (ru hr) (pv 0) pe_str (fun _ _ => rfl)) pe_int) (pv 3)) pe_int) pa_nil)) pe_int) rfl))))) pss_nil)
      (pss_cons (ps_if (pt_cmpR op_gt (pe_dget (ru hr) (pv 0) pe_str (fun _ _ => rfl)) pe_int (nomark _)) (pss_cons (ps_set (i := 4) sc__law_draw.nd rfl (Or.inl rfl) (pe_op op_mod (pe_callTy call_int1 rfl T.z_int bt_int (pa_cons (pe_dget (ru hr) (pv 0) pe_str (fun _ _ => rfl)) pa_nil)) (pv 1)))
      (pss_cons (ps_dput (ru hr) (pv 0) pe_str (pe_op op_fdiv (pe_dget (ru hr) (pv 0) pe_str (fun _ _ => rfl)) (pv 1)) rfl)
      (pss_one (ps_ret (pv 4))))) pss_nil)
      (pss_cons (ps_dput (ru hr) (pv 0) pe_str (pe_op op_mod (pe_callTy call_int1 rfl T.z_int bt_int (pa_cons (pe_op op_add (pe_op op_mul (pe_dget (ru hr) (pv 0) pe_str (fun _ _ => rfl)) pe_int) pe_int) pa_nil)) pe_int) rfl)
      (pss_one (ps_ret (pe_op op_mod (pe_callTy call_int1 rfl T.z_int bt_int (pa_cons (pe_op op_fdiv (pe_dget (ru hr) (pv 0) pe_str (fun _ _ => rfl)) pe_int) pa_nil)) (pv 1))))))), ?_⟩
  obtain ⟨⟨r0, m0, hd⟩, ns, hn, hc⟩ := id hD
  have ndc := hD.ne
  refine ⟨fun σ H1 => ∃ v2 v3, σ = [some (.ref d), some (.int many), v2, v3, none] ∧ Dr H1 d c ∧ Bu2 d c H H1, ?_, ?_⟩
  · have fin : ∃ v2 v3, (L2.start ["draws", "many", "cells", "cell", "value"] [.ref d, .int many] : L2.St) = [some (.ref d), some (.int many), v2, v3, none] ∧ Dr H d c ∧ Bu2 d c H H := ⟨none, none, rfl, hD, Bu2.refl⟩
    refine ⟨_, rfl, d, _, rfl, dg_rest hd, rfl, _, rfl, ?_⟩
    by_cases c1 : r0 = 0
    · refine ifT (by rw [c1]) ⟨_, rfl, d, _, rfl, dg_cells hd, c, _, rfl, .inl (SqL.of hc), _, _, rfl, rfl, _, rfl, ?_⟩
      cases ns with
      | nil => exact ifF (by simp) fin
      | cons n ns =>
        refine ifT (by simp) ?_
        refine ⟨_, rfl, d, _, rfl, dg_cells hd, ?_⟩
        refine ⟨_, rfl, .inl ⟨rfl, _, SqL.of hc⟩, c, _, 0, 0, .int n, rfl, rfl, hc, by decide, by decide, PySem.StrLaws.seqIndex_nonneg (by omega) (by simp), rfl, n, rfl, ?_⟩
        have hd1 : (upd H c (.lst (ns.map V.int))) d = some (.dK (kD c r0 m0)) := by rw [upd_ne ndc]; exact hd
        have hc1 : (upd H c (.lst (ns.map V.int))) c = some (.lst (ns.map V.int)) := upd_same
        have b1 : Bu2 d c H (upd H c (.lst (ns.map V.int))) := Bu2.c
        have hn1 : ns.length ≤ 1000 := by simp at hn; omega
        show _
        have hEr : (List.map V.int (n :: ns)).eraseIdx 0 = ns.map V.int := rfl
        rw [hEr]
        generalize (upd H c (.lst (ns.map V.int))) = H1 at hd1 hc1 b1
        -- behind the test of the cell
        have go : ∀ (H2 : Hp) (r m : Int) (v2 : Option V) (cell : Int), H2 d = some (.dK (kD c r m)) → H2 c = some (.lst (ns.map V.int)) → Bu2 d c H H2 → ∀ x, ∃ (v2 v3 : Option V), ([some (.ref d), some (.int many), some (.ref c), some (.int cell), none] : L2.St) = [some (.ref d), some (.int many), v2, v3, none] ∧ Dr (upd H2 d (.dK (kD c r x))) d c ∧ Bu2 d c H (upd H2 d (.dK (kD c r x))) := fun H2 r m v2 cell e1 e2 b2 x =>
          ⟨_, _, rfl, ⟨⟨r, x, upd_same⟩, ns, hn1, by rw [upd_ne ndc.symm]; exact e2⟩, b2.trans Bu2.d⟩
        refine ⟨_, rfl, _, _, rfl, rfl, ⟨by decide, by decide, by decide⟩, _, _, rfl, rfl, _, rfl, ite2 (fun _ => ?_) (fun _ => ?_)⟩
        · refine ⟨_, rfl, _, rfl, d, _, rfl, dp_rest hd1, ?_⟩
          exact ⟨_, rfl, d, _, rfl, dg_mixed upd_same, _, _, rfl, rfl, .inr ⟨by decide, by decide⟩, _, rfl, _, _, rfl, rfl, _, _, rfl, rfl, .inl ⟨_, rfl, _, _, rfl, rfl, (show (0 : Int) < 2147483647 by decide), _, rfl, d, _, rfl, dp_mixed upd_same, go _ _ _ none _ upd_same (by rw [upd_ne ndc.symm]; exact hc1) (b1.trans Bu2.d) _⟩⟩
        · exact ⟨_, rfl, d, _, rfl, dg_mixed hd1, _, _, rfl, rfl, .inr ⟨by decide, by decide⟩, _, rfl, _, _, rfl, rfl, _, _, rfl, rfl, .inl ⟨_, rfl, _, _, rfl, rfl, (show (0 : Int) < 2147483647 by decide), _, rfl, d, _, rfl, dp_mixed hd1, go _ _ _ none _ hd1 hc1 b1 _⟩⟩
    · exact ifF (by simpa using c1) fin
  · rintro σ H1 ⟨v2, v3, rfl, hD1, b1⟩
    obtain ⟨⟨r, m, e1⟩, ns1, hn1, e2⟩ := id hD1
    refine ⟨_, rfl, d, _, rfl, dg_rest e1, _, _, rfl, rfl, _, rfl, ite2 (fun _ => ?_) (fun _ => ?_)⟩
    · refine ⟨_, rfl, d, _, rfl, dg_rest e1, .inl ⟨_, rfl, _, rfl, _, _, rfl, rfl, hm0, ?_⟩⟩
      refine ⟨_, rfl, d, _, rfl, dg_rest e1, _, rfl, _, _, rfl, rfl, ⟨hm0, hm1⟩, _, rfl, d, _, rfl, dp_rest e1, _, rfl, ?_⟩
      exact q _ _ ⟨⟨_, m, upd_same⟩, ns1, hn1, by rw [upd_ne ndc.symm]; exact e2⟩ (b1.trans Bu2.d) (Int.emod_nonneg _ (by omega)) (Int.emod_lt_of_pos _ hm0)
    · refine ⟨_, rfl, d, _, rfl, dg_mixed e1, _, _, rfl, rfl, .inr ⟨by decide, by decide⟩, _, _, rfl, rfl, .inl ⟨_, rfl, _, _, rfl, rfl, (show (0 : Int) < 2147483629 by decide), ?_⟩⟩
      refine ⟨_, rfl, d, _, rfl, dp_mixed e1, ?_⟩
      refine ⟨_, rfl, d, _, rfl, dg_mixed upd_same, _, _, rfl, rfl, ⟨by decide, by decide⟩, .inl ⟨_, rfl, _, rfl, _, _, rfl, rfl, hm0, ?_⟩⟩
      exact q _ _ ⟨⟨r, _, upd_same⟩, ns1, hn1, by rw [upd_ne ndc.symm]; exact e2⟩ (b1.trans Bu2.d) (Int.emod_nonneg _ (by omega)) (Int.emod_lt_of_pos _ hm0)
abbrev s__law_pick : Stmt := top 28
theorem sc__law_pick : FnScope ["draws", "row"] ["draws", "row"] (C8.fnScope s__law_pick) := C8.fnScope_by (by decide +kernel)
theorem ok__law_pick (F : C8.Def K mg "_law_pick" s__law_pick f fd) (b : Binds K fd ["draws", "row"] []) (T : Txt K mg w C) (c__law_draw : C8.Cal P w K mg base 1 "_law_draw" spDraw []) : C8.Cal P w K mg base 2 "_law_pick" spPick [] := by
  refine C8.cal0 F b .nil sc__law_pick (fun vs H Q E h => ?_) (fun cdv A outer s H vs Q E hr h => ?_)
  · obtain ⟨d, c, l, xs, rfl, _⟩ := h; rfl
  obtain ⟨d, c, l, xs, rfl, hD, hl, hlc, h0, h1, q⟩ := h
  have hld : l ≠ d := fun z => by
    obtain ⟨⟨r, m, hd⟩, _⟩ := hD
    rw [z, hd] at hl; cases hl
  refine ⟨_, (pss_one (ps_ret (pe_ix ix_list (pv 1) (C8.pe_c c__law_draw hr (by first | decide | omega) rfl (pa_cons (pv 0) (pa_cons (pe_callB call_lenS rfl T.z_len bt_len (pa_cons (pv 1) pa_nil)) pa_nil))) (fun _ _ => rfl)))), ?_⟩
  refine ⟨_, rfl, _, rfl, _, rfl, l, xs, rfl, .inl (SqL.of hl), d, c, _, rfl, hD, by omega, by omega, fun H1 r hD1 b1 g0 g1 => ?_⟩
  have hlt : r.toNat < xs.length := by omega
  have hx : xs[r.toNat]? = some xs[r.toNat] := List.getElem?_eq_getElem hlt
  have hr2 : ((r.toNat : Nat) : Int) = r := by omega
  refine ⟨l, xs, r, _, rfl, rfl, SqL.of (b1 _ _ hl hld hlc), (show atI xs r = some xs[r.toNat] by have := atI_nat hx; rwa [hr2] at this), q H1 _ _ hD1 b1 hx⟩
end
end Hc

namespace Hc
open PySem PySem.Spec PyProof.Rows L2 Hr
def chD (a : Str) (i : Int) : D := .atom "challenge" [.str a, .int i]
def tokD (i : Int) : D := .atom "token" [.str "m", .tup [.tup [.str "page", .int 0, .tup [.int 1, .int 2, .int 3, .int i]]], chD "v" i]
def sealD (i : Int) : D := .atom "seal" [.str "m", .int 1, .int i, .tup [.int i, .int 0, .int 0, chD "w" i]]
def tickD (i : Int) : D := .atom "ticket" [.str "m", .int (i + 1), .str "n", .tup [], .tup (List.replicate 8 .non), .tup [.int 8]]
def poolI (i : Int) : List D := [chD "v" i, tokD i, sealD i, tickD i]
def poolN : Nat → List D
  | 0 => []
  | n + 1 => poolN n ++ poolI (0 + (n : Nat))
def poolD (r : Int) : List D := poolN 3 ++ [chD "w" r]
theorem cln_poolI (i : Int) : clnL (poolI i) = true := rfl
theorem cln_poolN : ∀ n, clnL (poolN n) = true
  | 0 => rfl
  | n + 1 => by unfold poolN; rw [clnL_app, cln_poolN n]; rfl
theorem app_step {C l : Addr} {H3 : Hp} {xs : List V} {ds : List D} {x : V} {d : D} (hl : H3 l = some (.lst xs)) (ix : IsA C H3 xs ds) (hx : Is C H3 x d) (c : clnL ds = true) (cd : cln d = true) : IsA C (upd H3 l (.lst (xs ++ [x]))) (xs ++ [x]) (ds ++ [d]) :=
  (IsA.keep (Keep.lst hl) c ix).app (.cons (Is.keep (Keep.lst hl) cd hx) .nil)
/-- an atom made -/
theorem made {C t : Addr} {H : Hp} {k : Str} {xs : List V} {ds : List D} (ht : H t = some (.tup xs)) (ix : IsA C H xs ds) (hk : isTermK k ds = true) (hr : rank (.atom k ds) ≤ mostR k) (hf : Fit (.tup ds)) {Q : VK}
    (q : ∀ H' x, Same H H' → H x = none → Is C H' (.ref x) (.atom k ds) → Q (.ref x) H') : ∀ x dx, H x = none → H dx = none → dx ≠ x →
      spInit C (.ref x :: ([.str k, .ref t] ++ [])) (upd (upd H dx (.own x)) x (.ins C dx [])) (fun v H2 => v = .non ∧ Q (.ref x) H2) C8.E0 := fun x dx hx hdx hne => by
  have s1 : Same H (upd (upd H dx (.own x)) x (.ins C dx [])) := same_put (same_new hdx) hx
  refine ⟨x, dx, k, t, ds, rfl, upd_same, (Is.tup ht ix).same s1, hk, hr, hf, fun H' e1 e2 => ⟨rfl, ?_⟩⟩
  have s2 : Same H H' := fun b o e => e2 b o (s1 b o e) (ne_of_none e hx)
  exact q H' x s2 hx (.atom e1 (s2 _ _ ht) (ix.same s2))
theorem new_tup {C u : Addr} {H : Hp} {xs : List V} {ds : List D} (hu : H u = none) (ix : IsA C H xs ds) : Is C (upd H u (.tup xs)) (.ref u) (.tup ds) := .tup upd_same (ix.same (same_new hu))
theorem fit_of {d : D} (h : sz d ≤ 1000000) (t : txl d) : Fit d := ⟨h, t⟩
theorem small_txt {z : Str} (h : z.length ≤ 24) : z.length ≤ sizeLine := Nat.le_trans h (by decide)
theorem fin3 {n : Nat} (h : n < 3) {p : Int → Prop} (h0 : p 0) (h1 : p 1) (h2 : p 2) : p (0 + (n : Nat)) := by
  rcases (show n = 0 ∨ n = 1 ∨ n = 2 by omega) with rfl | rfl | rfl
  · exact h0
  · exact h1
  · exact h2
mutual
def txb : D → Bool
  | .str s => decide (s.length ≤ 24)
  | .tup ds => txbL ds
  | .lst ds => txbL ds
  | .atom _ ds => txbL ds
  | _ => true
def txbL : List D → Bool
  | [] => true
  | d :: ds => txb d && txbL ds
end
mutual
theorem txl_of : ∀ {d : D}, txb d = true → txl d
  | .str s, h => by simp only [txb, decide_eq_true_eq] at h; exact small_txt h
  | .tup ds, h => by simp only [txb] at h; simp only [txl]; exact txlL_of h
  | .lst ds, h => by simp only [txb] at h; simp only [txl]; exact txlL_of h
  | .atom _ ds, h => by simp only [txb] at h; simp only [txl]; exact txlL_of h
  | .non, _ => trivial
  | .bl _, _ => trivial
  | .int _, _ => trivial
  | .dct, _ => trivial
theorem txlL_of : ∀ {ds : List D}, txbL ds = true → txlL ds
  | [], _ => trivial
  | d :: ds, h => by
    simp only [txbL, Bool.and_eq_true] at h
    exact ⟨txl_of h.1, txlL_of h.2⟩
end
def okAt (k : Str) (ds : List D) : Bool := isTermK k ds && decide (rank (.atom k ds) ≤ mostR k) && decide (sz (.tup ds) ≤ 1000000) && txbL ds
theorem made' {C t : Addr} {H : Hp} {k : Str} {xs : List V} {ds : List D} (ht : H t = some (.tup xs)) (ix : IsA C H xs ds) (ok : okAt k ds = true) {x dx : Addr} (hx : H x = none) (hdx : H dx = none) (hne : dx ≠ x) {Q2 : VK}
    (q : ∀ H', Same H H' → Is C H' (.ref x) (.atom k ds) → Q2 .non H') : spInit C (.ref x :: ([.str k, .ref t] ++ [])) (upd (upd H dx (.own x)) x (.ins C dx [])) Q2 C8.E0 := by
  unfold okAt at ok
  simp only [Bool.and_eq_true, decide_eq_true_eq] at ok
  have s1 : Same H (upd (upd H dx (.own x)) x (.ins C dx [])) := same_put (same_new hdx) hx
  refine ⟨x, dx, k, t, ds, rfl, upd_same, (Is.tup ht ix).same s1, ok.1.1.1, ok.1.1.2, ⟨ok.1.2, by simp only [txl]; exact txlL_of ok.2⟩, fun H' e1 e2 => ?_⟩
  have s2 : Same H H' := fun b o e => e2 b o (s1 b o e) (ne_of_none e hx)
  exact q H' s2 (.atom e1 (s2 _ _ ht) (ix.same s2))
theorem ok_ch (a : Str) (ha : a = "v" ∨ a = "w") {i : Nat} (h : i < 3) : okAt "challenge" [.str a, .int (0 + (i : Nat))] = true := by
  rcases ha with rfl | rfl
  · exact fin3 h (p := fun n => okAt "challenge" [.str "v", .int n] = true) (by decide +kernel) (by decide +kernel) (by decide +kernel)
  · exact fin3 h (p := fun n => okAt "challenge" [.str "w", .int n] = true) (by decide +kernel) (by decide +kernel) (by decide +kernel)
def trm : D → List D
  | .atom _ ds => ds
  | _ => []
theorem ok_tok {i : Nat} (h : i < 3) : okAt "token" (trm (tokD (0 + (i : Nat)))) = true :=
  fin3 h (p := fun n => okAt "token" (trm (tokD n)) = true) (by decide +kernel) (by decide +kernel) (by decide +kernel)
theorem ok_seal {i : Nat} (h : i < 3) : okAt "seal" (trm (sealD (0 + (i : Nat)))) = true :=
  fin3 h (p := fun n => okAt "seal" (trm (sealD n)) = true) (by decide +kernel) (by decide +kernel) (by decide +kernel)
theorem ok_tick {i : Nat} (h : i < 3) : okAt "ticket" (trm (tickD (0 + (i : Nat)))) = true :=
  fin3 h (p := fun n => okAt "ticket" (trm (tickD n)) = true) (by decide +kernel) (by decide +kernel) (by decide +kernel)
def spPool (C : Addr) : Sp := fun vs H Q _ => ∃ d c, vs = [.ref d] ∧ Dr H d c ∧ ∀ H' l xs r, Dr H' d c → Bu2 d c H H' → H l = none → H' l = some (.lst xs) → IsA C H' xs (poolD r) → 0 ≤ r → r < 3 → Q (.ref l) H'
section
variable {P : Program} {w : World} {K : PySem.W.Frag} {mg : Str → Option Value} {base : Heap} {f : Addr} {fd : FuncData} {C N : Addr}
abbrev s__law_pool : Stmt := top 29
theorem sc__law_pool : FnScope ["draws", "rows", "number"] ["draws"] (C8.fnScope s__law_pool) := C8.fnScope_by (by decide +kernel)
theorem ok__law_pool (F : C8.Def K mg "_law_pool" s__law_pool f fd) (b : Binds K fd ["draws"] []) (T : Txt K mg w C) (k_Atom : C8.Mak P w K mg base 5 "Atom" C (spInit C) []) (c__law_draw : C8.Cal P w K mg base 1 "_law_draw" spDraw []) : C8.Cal P w K mg base 7 "_law_pool" (spPool C) [] := by
  refine C8.cal0 F b .nil sc__law_pool (fun vs H Q E h => ?_) (fun cdv A outer s H vs Q E hr h => ?_)
  · obtain ⟨d, c, rfl, _⟩ := h; rfl
  obtain ⟨d, c, rfl, hD, q⟩ := h
  refine ⟨_, (pss_cons (ps_set (i := 1) sc__law_pool.nd rfl (Or.inl rfl) (pe_lst pa_nil))
      (pss_cons (ps_for PassesOwn.never rfl (pi_range1 rfl T.z_range (pa_cons pe_int pa_nil)) (pg_name (i := 2) sc__law_pool.nd rfl (Or.inl rfl))
      (pss_cons (ps_expr (pe_bm PySem.F.plainAttrs_list PySem.F.slot_list_append PySem.F.type_list_append mt_append (pv 1) (pa_cons (C8.pe_mk k_Atom hr (by first | decide | omega) rfl (pa_cons pe_str (pa_cons (pe_tup (pa_cons pe_str (pa_cons (pv 2) pa_nil))) pa_nil))) pa_nil)))
      (pss_cons (ps_expr (pe_bm PySem.F.plainAttrs_list PySem.F.slot_list_append PySem.F.type_list_append mt_append (pv 1) (pa_cons (C8.pe_mk k_Atom hr (by first | decide | omega) rfl (pa_cons pe_str (pa_cons (pe_tup (pa_cons pe_str (pa_cons (pe_tup (pa_cons (pe_tup (pa_cons pe_str (pa_cons pe_int (pa_cons (pe_tup (pa_cons pe_int (pa_cons pe_int (pa_cons pe_int (pa_cons (pv 2) pa_nil))))) pa_nil)))) pa_nil)) (pa_cons (C8.pe_mk k_Atom hr (by first | decide | omega) rfl (pa_cons pe_str (pa_cons (pe_tup (pa_cons pe_str (pa_cons (pv 2) pa_nil))) pa_nil))) pa_nil)))) pa_nil))) pa_nil)))
      (pss_cons (ps_expr (pe_bm PySem.F.plainAttrs_list PySem.F.slot_list_append PySem.F.type_list_append mt_append (pv 1) (pa_cons (C8.pe_mk k_Atom hr (by first | decide | omega) rfl (pa_cons pe_str (pa_cons (pe_tup (pa_cons pe_str (pa_cons pe_int (pa_cons (pv 2) (pa_cons (pe_tup (pa_cons (pv 2) (pa_cons pe_int (pa_cons pe_int (pa_cons (C8.pe_mk k_Atom hr (by first | decide | omega) rfl (pa_cons pe_str (pa_cons (pe_tup (pa_cons pe_str (pa_cons (pv 2) pa_nil))) pa_nil))) pa_nil))))) pa_nil))))) pa_nil))) pa_nil)))
      (pss_one (ps_expr (pe_bm PySem.F.plainAttrs_list PySem.F.slot_list_append PySem.F.type_list_append mt_append (pv 1) (pa_cons (C8.pe_mk k_Atom hr (by first | decide | omega) rfl (pa_cons pe_str (pa_cons (pe_tup (pa_cons pe_str (pa_cons (pe_op op_add (pv 2) pe_int) (pa_cons pe_str (pa_cons (pe_tup pa_nil) (pa_cons (pe_op op_repT (pe_tup (pa_cons pe_non pa_nil)) pe_int) (pa_cons (pe_tup (pa_cons pe_int pa_nil)) pa_nil))))))) pa_nil))) pa_nil))))))))
      (pss_cons (ps_expr (pe_bm PySem.F.plainAttrs_list PySem.F.slot_list_append PySem.F.type_list_append mt_append (pv 1) (pa_cons (C8.pe_mk k_Atom hr (by first | decide | omega) rfl (pa_cons pe_str (pa_cons (pe_tup (pa_cons pe_str (pa_cons (C8.pe_c c__law_draw hr (by first | decide | omega) rfl (pa_cons (pv 0) (pa_cons pe_int pa_nil))) pa_nil))) pa_nil))) pa_nil)))
      (pss_one (ps_ret (pv 1)))))), ?_⟩
  refine ⟨(by show 0 ≤ sizeLine; decide), fun l hl => ?_⟩
  refine ⟨3, rfl, by decide, by decide, for_it walk_range (fun i σ H' => ∃ v2 xs, σ = [some (.ref d), some (.ref l), v2] ∧ Same H H' ∧ H' l = some (.lst xs) ∧ IsA C H' xs (poolN i)) ⟨none, [], rfl, same_new hl, upd_same, .nil⟩ (fun _ _ _ _ _ => trivial) ?_ ?_⟩
  · rintro i x σ H1 H2 hi ⟨v2, xs, rfl, s1, hl1, ix⟩ ⟨rfl, rfl⟩
    have hi : i < 3 := hi
    have hlen : xs.length ≤ 100 := by
      rw [ix.len]
      rcases (show i = 0 ∨ i = 1 ∨ i = 2 by omega) with rfl | rfl | rfl <;> decide
    have cl0 := cln_poolN i
    -- the challenge
    refine ⟨_, rfl, .inl ⟨rfl, _, SqL.of hl1⟩, ?_⟩
    refine ⟨_, rfl, (by show 2 ≤ sizeLine; decide), fun u hu => ?_⟩
    have sa := same_new (o := .tup [.str "v", .int (0 + (i : Nat))]) hu
    intro y1 dy1 hx3 hdx3 hne3
    refine made' (ds := [.str "v", .int (0 + (i : Nat))]) upd_same (.cons (.str _) (.cons (.int _) .nil)) (ok_ch "v" (.inl rfl) hi) hx3 hdx3 hne3 fun H3 s3 ix3 => ⟨rfl, ?_⟩
    have s13 := sa.trans s3
    refine ⟨l, xs, _, rfl, rfl, s13 _ _ hl1, small1000 (by omega), ?_⟩
    have j1 := app_step (s13 _ _ hl1) (ix.same s13) ix3 cl0 rfl
    have t1 := same_put (o := .lst (xs ++ [.ref y1])) (s1.trans s13) hl
    have l1 : (upd H3 l (.lst (xs ++ [.ref y1]))) l = some (.lst (xs ++ [.ref y1])) := upd_same
    generalize upd H3 l (.lst (xs ++ [.ref y1])) = H4 at j1 t1 l1 ⊢
    clear s1 sa s3 s13 hu hx3 ix3 hdx3 hne3
    -- the token
    refine ⟨_, rfl, .inl ⟨rfl, _, SqL.of l1⟩, ?_⟩
    refine ⟨_, rfl, (by show 4 ≤ sizeLine; decide), fun u1 hu1 => ?_⟩
    refine ⟨(by show 3 ≤ sizeLine; decide), fun u2 hu2 => ?_⟩
    refine ⟨(by show 1 ≤ sizeLine; decide), fun u3 hu3 => ?_⟩
    have sa := ((same_new (o := .tup [.int 1, .int 2, .int 3, .int (0 + (i : Nat))]) hu1).trans (same_new hu2)).trans (same_new (o := .tup [.ref u2]) hu3)
    have iu1 : Is C (upd H4 u1 (.tup [.int 1, .int 2, .int 3, .int (0 + (i : Nat))])) (.ref u1) (.tup [.int 1, .int 2, .int 3, .int (0 + (i : Nat))]) := new_tup hu1 (.cons (.int _) (.cons (.int _) (.cons (.int _) (.cons (.int _) .nil))))
    have iu2 := new_tup (xs := [.str "page", .int 0, .ref u1]) hu2 (.cons (.str _) (.cons (.int _) (.cons iu1 .nil)))
    have iu3 := new_tup (xs := [.ref u2]) hu3 (.cons iu2 .nil)
    generalize (upd (upd (upd H4 u1 (.tup [.int 1, .int 2, .int 3, .int (0 + (i : Nat))])) u2 (.tup [.str "page", .int 0, .ref u1])) u3 (.tup [.ref u2])) = H5 at sa iu3 ⊢
    clear iu1 iu2 hu1 hu2 hu3
    refine ⟨_, rfl, (by show 2 ≤ sizeLine; decide), fun u4 hu4 => ?_⟩
    have sb := same_new (o := .tup [.str "v", .int (0 + (i : Nat))]) hu4
    intro x3 dx3 hx3 hdx3 hne3
    refine made' (ds := [.str "v", .int (0 + (i : Nat))]) upd_same (.cons (.str _) (.cons (.int _) .nil)) (ok_ch "v" (.inl rfl) hi) hx3 hdx3 hne3 fun H6 s6 ix6 => ⟨rfl, ?_⟩
    refine ⟨(by show 3 ≤ sizeLine; decide), fun u5 hu5 => ?_⟩
    have sc := same_new (o := .tup [.str "m", .ref u3, .ref x3]) hu5
    intro x7 dx7 hx7 hdx7 hne7
    have s56 := sb.trans s6
    refine made' (ds := trm (tokD (0 + (i : Nat)))) upd_same (.cons (.str _) (.cons ((iu3.same s56).same sc) (.cons (ix6.same sc) .nil))) (ok_tok hi) hx7 hdx7 hne7 fun H7 s7 ix7 => ⟨rfl, ?_⟩
    have s13 := ((sa.trans s56).trans sc).trans s7
    refine ⟨l, _, _, rfl, rfl, s13 _ _ l1, small1000 (by simp; omega), ?_⟩
    have j2 := app_step (s13 _ _ l1) (j1.same s13) ix7 (by rw [clnL_app, cl0]; rfl) rfl
    have t2 := same_put (o := .lst (xs ++ [.ref y1] ++ [.ref x7])) (t1.trans s13) hl
    have l2 : (upd H7 l (.lst (xs ++ [.ref y1] ++ [.ref x7]))) l = some (.lst (xs ++ [.ref y1] ++ [.ref x7])) := upd_same
    have c2 : clnL (poolN i ++ [chD "v" (0 + (i : Nat))] ++ [tokD (0 + (i : Nat))]) = true := by rw [clnL_app, clnL_app, cl0]; rfl
    show _
    generalize upd H7 l (.lst (xs ++ [.ref y1] ++ [.ref x7])) = G0 at j2 t2 l2 ⊢
    clear t1 l1 j1 sa iu3 hu4 sb hx3 hdx3 hne3 s6 ix6 hu5 sc hx7 hdx7 hne7 s56 s7 ix7 s13
    -- the seal
    refine ⟨_, rfl, .inl ⟨rfl, _, SqL.of l2⟩, ?_⟩
    refine ⟨_, rfl, _, rfl, _, rfl, (by show 2 ≤ sizeLine; decide), fun v1 hv1 => ?_⟩
    have sa := same_new (o := .tup [.str "w", .int (0 + (i : Nat))]) hv1
    intro y3 dy3 hy3 hdy3 hney3
    refine made' (ds := [.str "w", .int (0 + (i : Nat))]) upd_same (.cons (.str _) (.cons (.int _) .nil)) (ok_ch "w" (.inr rfl) hi) hy3 hdy3 hney3 fun G3 s3 ix3 => ⟨rfl, ?_⟩
    refine ⟨(by show 4 ≤ sizeLine; decide), fun v2' hv2 => ?_⟩
    have sb := same_new (o := .tup [.int (0 + (i : Nat)), .int 0, .int 0, .ref y3]) hv2
    have iv2 : Is C (upd G3 v2' (.tup [.int (0 + (i : Nat)), .int 0, .int 0, .ref y3])) (.ref v2') (.tup [.int (0 + (i : Nat)), .int 0, .int 0, chD "w" (0 + (i : Nat))]) := new_tup hv2 (.cons (.int _) (.cons (.int _) (.cons (.int _) (.cons ix3 .nil))))
    refine ⟨(by show 4 ≤ sizeLine; decide), fun v3 hv3 => ?_⟩
    have sc := same_new (o := .tup [.str "m", .int 1, .int (0 + (i : Nat)), .ref v2']) hv3
    intro y7 dy7 hy7 hdy7 hney7
    refine made' (ds := trm (sealD (0 + (i : Nat)))) upd_same (.cons (.str _) (.cons (.int _) (.cons (.int _) (.cons (iv2.same sc) .nil)))) (ok_seal hi) hy7 hdy7 hney7 fun G7 s7 ix7 => ⟨rfl, ?_⟩
    have s13 := (((sa.trans s3).trans sb).trans sc).trans s7
    refine ⟨l, _, _, rfl, rfl, s13 _ _ l2, small1000 (by simp; omega), ?_⟩
    have j3 := app_step (s13 _ _ l2) (j2.same s13) ix7 c2 rfl
    have t3 := same_put (o := .lst (xs ++ [.ref y1] ++ [.ref x7] ++ [.ref y7])) (t2.trans s13) hl
    have l3 : (upd G7 l (.lst (xs ++ [.ref y1] ++ [.ref x7] ++ [.ref y7]))) l = some (.lst (xs ++ [.ref y1] ++ [.ref x7] ++ [.ref y7])) := upd_same
    have c3 : clnL (poolN i ++ [chD "v" (0 + (i : Nat))] ++ [tokD (0 + (i : Nat))] ++ [sealD (0 + (i : Nat))]) = true := by rw [clnL_app, c2]; rfl
    show _
    generalize upd G7 l (.lst (xs ++ [.ref y1] ++ [.ref x7] ++ [.ref y7])) = M0 at j3 t3 l3 ⊢
    clear t2 l2 j2 sa hv1 sb hy3 hdy3 hney3 s3 ix3 hv2 sc iv2 hv3 hy7 hdy7 hney7 s7 ix7 s13
    -- the ticket
    refine ⟨_, rfl, .inl ⟨rfl, _, SqL.of l3⟩, ?_⟩
    refine ⟨_, rfl, _, _, rfl, rfl, (by show 0 ≤ sizeLine; decide), fun w1 hw1 => ⟨(by show 1 ≤ sizeLine; decide), fun w2 hw2 => ?_⟩⟩
    have sa := (same_new (o := .tup []) hw1).trans (same_new (o := .tup [.non]) hw2)
    have iw1 : Is C (upd (upd M0 w1 (.tup [])) w2 (.tup [.non])) (.ref w1) (.tup []) := (new_tup hw1 .nil).same (same_new hw2)
    refine ⟨w2, 8, [.non], rfl, rfl, SqT.of upd_same, List.cons_ne_nil _ _, by decide, by decide, by decide, fun w3 hw3 => ?_⟩
    have sb := same_new (o := .tup (List.replicate (8 : Int).toNat [V.non]).flatten) hw3
    have iw3 : Is C (upd (upd (upd M0 w1 (.tup [])) w2 (.tup [.non])) w3 (.tup (List.replicate (8 : Int).toNat [V.non]).flatten)) (.ref w3) (.tup (List.replicate 8 .non)) := new_tup hw3 (.cons .non (.cons .non (.cons .non (.cons .non (.cons .non (.cons .non (.cons .non (.cons .non .nil))))))))
    refine ⟨(by show 1 ≤ sizeLine; decide), fun w4 hw4 => ?_⟩
    have sc := same_new (o := .tup [.int 8]) hw4
    have iw4 := new_tup (C := C) (xs := [.int 8]) (ds := [.int 8]) hw4 (.cons (.int _) .nil)
    have iw1 := (iw1.same sb).same sc
    have iw3 := iw3.same sc
    have sd := (sa.trans sb).trans sc
    generalize (upd (upd (upd (upd M0 w1 (.tup [])) w2 (.tup [.non])) w3 (.tup (List.replicate (8 : Int).toNat [V.non]).flatten)) w4 (.tup [.int 8])) = M4 at sd iw1 iw3 iw4 ⊢
    refine ⟨(by show 6 ≤ sizeLine; decide), fun w5 hw5 => ?_⟩
    have se := same_new (o := .tup [.str "m", .int (0 + (i : Nat) + 1), .str "n", .ref w1, .ref w3, .ref w4]) hw5
    intro z7 dz7 hz7 hdz7 hnez7
    refine made' (ds := trm (tickD (0 + (i : Nat)))) upd_same (.cons (.str _) (.cons (.int _) (.cons (.str _) (.cons (iw1.same se) (.cons (iw3.same se) (.cons (iw4.same se) .nil)))))) (ok_tick hi) hz7 hdz7 hnez7 fun M7 s7 ix7 => ⟨rfl, ?_⟩
    have s13 := (sd.trans se).trans s7
    refine ⟨l, _, _, rfl, rfl, s13 _ _ l3, small1000 (by simp; omega), ?_⟩
    have j4 := app_step (s13 _ _ l3) (j3.same s13) ix7 c3 rfl
    have t4 := same_put (o := .lst (xs ++ [.ref y1] ++ [.ref x7] ++ [.ref y7] ++ [.ref z7])) (t3.trans s13) hl
    refine ⟨_, _, rfl, t4, upd_same, ?_⟩
    have e9 : poolN (i + 1) = poolN i ++ [chD "v" (0 + (i : Nat))] ++ [tokD (0 + (i : Nat))] ++ [sealD (0 + (i : Nat))] ++ [tickD (0 + (i : Nat))] := by
      simp only [poolN, poolI, List.append_assoc, List.cons_append, List.nil_append]
    rw [e9]
    exact j4
  · rintro σ H1 ⟨v2, xs, rfl, s1, hl1, ix⟩
    refine ⟨_, rfl, .inl ⟨rfl, _, SqL.of hl1⟩, ?_⟩
    have hoff := hD.off hl
    refine ⟨_, rfl, d, c, 3, rfl, hD.same s1, by decide, by decide, fun H2 r hD2 b2 g0 g1 => ⟨(by show 2 ≤ sizeLine; decide), fun u hu => ?_⟩⟩
    have hl2 := b2 _ _ hl1 hoff.1 hoff.2
    have kp := (hD.same s1).keep (C := C) b2
    have sa := same_new (o := .tup [.str "w", .int r]) hu
    have hr3 : r = 0 ∨ r = 1 ∨ r = 2 := by omega
    have hok : okAt "challenge" [.str "w", .int r] = true := by rcases hr3 with rfl | rfl | rfl <;> decide +kernel
    intro y3 dy3 hy3 hdy3 hney3
    refine made' (ds := [.str "w", .int r]) upd_same (.cons (.str _) (.cons (.int _) .nil)) hok hy3 hdy3 hney3 fun G3 s3 ix3 => ⟨rfl, ?_⟩
    have s13 := sa.trans s3
    have hlen : xs.length ≤ 100 := by rw [ix.len]; decide
    refine ⟨l, xs, _, rfl, rfl, s13 _ _ hl2, small1000 (by omega), _, rfl, ?_⟩
    have ix2 := IsA.keep kp (cln_poolN 3) ix
    have hlH2 : ∀ b o, H b = some o → b ≠ l := fun b o e => ne_of_none e hl
    refine q _ l _ r ?_ (fun b o e n1 n2 => by rw [upd_ne (hlH2 b o e)]; exact s13 _ _ (b2 b o (s1 b o e) n1 n2)) hl upd_same (app_step (s13 _ _ hl2) (ix2.same s13) ix3 (cln_poolN 3) rfl) g0 g1
    obtain ⟨⟨r0, m0, e1⟩, ns, hn, e2⟩ := hD2.same s13
    exact ⟨⟨r0, m0, by rw [upd_ne hoff.1.symm]; exact e1⟩, ns, hn, by rw [upd_ne hoff.2.symm]; exact e2⟩
end
end Hc

namespace Hc
open PySem PySem.Spec PyProof.Rows L2 Hr
mutual
theorem eqD_eq : ∀ {a b : D}, eqD a b = true → a = b
  | .tup a, .tup b, h => by simp only [eqD] at h; rw [eqL_eq h]
  | .atom k a, .atom k' b, h => by
    simp only [eqD, Bool.and_eq_true, decide_eq_true_eq] at h
    rw [h.1, eqL_eq h.2]
  | .non, .non, _ => rfl
  | .int i, .int j, h => by simp only [eqD, decide_eq_true_eq] at h; rw [h]
  | .str x, .str y, h => by simp only [eqD, decide_eq_true_eq] at h; rw [h]
  | .tup _, .non, h | .tup _, .bl _, h | .tup _, .int _, h | .tup _, .str _, h | .tup _, .lst _, h | .tup _, .dct, h | .tup _, .atom _ _, h => by simp [eqD] at h
  | .atom _ _, .non, h | .atom _ _, .bl _, h | .atom _ _, .int _, h | .atom _ _, .str _, h | .atom _ _, .lst _, h | .atom _ _, .dct, h | .atom _ _, .tup _, h => by simp [eqD] at h
  | .non, .bl _, h | .non, .int _, h | .non, .str _, h | .non, .tup _, h | .non, .lst _, h | .non, .dct, h | .non, .atom _ _, h => by simp [eqD] at h
  | .int _, .non, h | .int _, .bl _, h | .int _, .str _, h | .int _, .tup _, h | .int _, .lst _, h | .int _, .dct, h | .int _, .atom _ _, h => by simp [eqD] at h
  | .str _, .non, h | .str _, .bl _, h | .str _, .int _, h | .str _, .tup _, h | .str _, .lst _, h | .str _, .dct, h | .str _, .atom _ _, h => by simp [eqD] at h
  | .bl _, _, h => by simp [eqD] at h
  | .lst _, _, h => by simp [eqD] at h
  | .dct, _, h => by simp [eqD] at h
theorem eqL_eq : ∀ {a b : List D}, eqL a b = true → a = b
  | [], [], _ => rfl
  | x :: a, y :: b, h => by
    simp only [eqL, Bool.and_eq_true] at h
    rw [eqD_eq h.1, eqL_eq h.2]
  | [], _ :: _, h => by simp [eqL] at h
  | _ :: _, [], h => by simp [eqL] at h
end
/-- not there yet -/
def ni (ds : List D) (a : D) : Bool := !ds.any fun e => eqD e a
theorem addAll_split (ds : List D) : ∀ (ps es : List D), addAll (ds ++ es.filter (ni ds)) ps = ds ++ (addAll es ps).filter (ni ds)
  | [], es => rfl
  | p :: ps, es => by
    show addAll (add1 (ds ++ es.filter (ni ds)) p) ps = ds ++ (addAll (add1 es p) ps).filter (ni ds)
    rw [← addAll_split ds ps (add1 es p)]
    congr 1
    unfold add1
    by_cases c1 : ni ds p = true
    · have h1 : (ds.any fun e => eqD e p) = false := by unfold ni at c1; simpa using c1
      have h2 : ((ds ++ es.filter (ni ds)).any fun e => eqD e p) = es.any fun e => eqD e p := by
        rw [List.any_append, h1, Bool.false_or, List.any_filter]
        congr 1
        funext e
        cases he : eqD e p with
        | false => simp
        | true => rw [eqD_eq he, c1]; rfl
      rw [h2]
      by_cases c2 : (es.any fun e => eqD e p) = true
      · rw [if_pos c2, if_pos c2]
      · rw [if_neg c2, if_neg c2, List.filter_append, List.append_assoc]
        congr 2
        simp [c1]
    · have h1 : (ds.any fun e => eqD e p) = true := by unfold ni at c1; simpa using c1
      have h2 : ((ds ++ es.filter (ni ds)).any fun e => eqD e p) = true := by rw [List.any_append, h1]; rfl
      rw [if_pos h2]
      by_cases c2 : (es.any fun e => eqD e p) = true
      · rw [if_pos c2]
      · rw [if_neg c2, List.filter_append]
        have : [p].filter (ni ds) = [] := by simp [c1]
        rw [this, List.append_nil]
theorem addAll_eq (ds ps : List D) : addAll ds ps = ds ++ (addAll [] ps).filter (ni ds) := by
  have := addAll_split ds ps []
  simpa using this
mutual
/-- how deep tuples lie in one another -/
def dep : D → Nat
  | .tup ds => depL ds + 1
  | _ => 0
def depL : List D → Nat
  | [] => 0
  | d :: ds => max (dep d) (depL ds)
end
theorem depL_mem : ∀ {ds : List D} {d : D}, d ∈ ds → dep d ≤ depL ds
  | x :: ds, d, h => by
    simp only [depL]
    rcases List.mem_cons.mp h with rfl | h
    · omega
    · have := depL_mem h; omega
theorem szL_mem : ∀ {ds : List D} {d : D}, d ∈ ds → sz d ≤ szL ds
  | x :: ds, d, h => by
    simp only [szL]
    rcases List.mem_cons.mp h with rfl | h
    · omega
    · have := szL_mem h; omega
theorem placesL_mem : ∀ {ds : List D} {d a : D}, d ∈ ds → a ∈ places d → a ∈ placesL ds
  | x :: ds, d, a, h, ha => by
    simp only [placesL]
    rcases List.mem_cons.mp h with rfl | h
    · exact List.mem_append_left _ ha
    · exact List.mem_append_right _ (placesL_mem h ha)
theorem placesL_take : ∀ (ds : List D) (i : Nat) (d : D), ds[i]? = some d → placesL (ds.take (i + 1)) = placesL (ds.take i) ++ places d
  | ds, i, d, h => by
    rw [List.take_add_one, h, placesL_app]
    simp [placesL]
def UD : List D := poolD 0 ++ [chD "w" 1, chD "w" 2]
def isAt : D → Bool | .atom _ _ => true | _ => false
theorem isAt_iff {d : D} (h : isAt d = true) : ∃ k ds, d = .atom k ds := by cases d <;> first | exact ⟨_, _, rfl⟩ | cases h
theorem famUD : Fam UD := by
  have h : (UD.all fun a => isAt a && decide (sz a ≤ 1000000) && txb a && eqD a a && cln a && UD.all (shp a)) = true := by decide +kernel
  intro a ha
  have h1 := List.all_eq_true.mp h a ha
  simp only [Bool.and_eq_true, decide_eq_true_eq] at h1
  exact ⟨⟨isAt_iff h1.1.1.1.1.1, ⟨h1.1.1.1.1.2, txl_of h1.1.1.1.2⟩, h1.1.1.2⟩, h1.1.2, List.all_eq_true.mp h1.2⟩
theorem famCln {ds : List D} (h : ∀ a ∈ ds, a ∈ UD) : clnL ds = true := clnL_iff.mpr fun a ha => (famUD a (h a ha)).2.1
/-- the atoms in a word, each once -/
def spIns (C : Addr) (n : Nat) : Sp := fun vs H Q _ => ∃ x d, vs = [x] ∧ Is C H x d ∧ cln d = true ∧ dep d < n ∧ sz d ≤ 100000 ∧ (∀ a ∈ places d, a ∈ UD) ∧
  ∀ H' p xs, Same H H' → H p = none → H' p = some (.lst xs) → IsA C H' xs (addAll [] (places d)) → Q (.ref p) H'
section
variable {P : Program} {w : World} {K : PySem.W.Frag} {mg : Str → Option Value} {base : Heap} {f : Addr} {fd : FuncData} {C N : Addr}
theorem kitA (T : Txt K mg w C) (d : D) : PySem.W.kitOne K (kyU C d) (.ref C) = some (isAt d) := by rw [T.kitC]; cases d <;> rfl
theorem kitT (T : Txt K mg w C) (d : D) : PySem.W.kitOne K (kyU C d) (.type "tuple") = some (isT d) := by rw [T.kit d "tuple" (by simp)]; cases d <;> simp [isT]
theorem kitB (T : Txt K mg w C) (b : Bool) : PySem.W.kitOne K (kyU C (.bl b)) (.type "bool") = some true := by rw [T.kit (.bl b) "bool" (by simp)]; simp
abbrev s__law_inside : Stmt := top 31
theorem sc__law_inside : FnScope ["word", "found", "part", "atom"] ["word"] (C8.fnScope s__law_inside) := C8.fnScope_by (by decide +kernel)
theorem ok__law_inside (F : C8.Def K mg "_law_inside" s__law_inside f fd) (b : Binds K fd ["word"] []) (T : Txt K mg w C) (O : OwnE P w K mg base 3 C) : ∀ n, C8.Cal P w K mg base (n + 4) "_law_inside" (spIns C n) [] := by
  intro n
  induction n with
  | zero =>
    refine C8.cal0 F b .nil sc__law_inside (fun vs H Q E h => ?_) (fun cdv A outer s H vs Q E hr h => ?_)
    · obtain ⟨x, d, _, _, _, h, _⟩ := h; omega
    · obtain ⟨x, d, _, _, _, h, _⟩ := h; omega
  | succ n ih =>
    have c__law_inside := ih
    refine C8.cal0 F b .nil sc__law_inside (fun vs H Q E h => ?_) (fun cdv A outer s H vs Q E hr h => ?_)
    · obtain ⟨x, d, rfl, _⟩ := h; rfl
    obtain ⟨x, d, rfl, hx, hc, hd, hz, hU, q⟩ := h
    refine ⟨_, (pss_cons (ps_if (pt_val (pe_callB (call_isiA T.cl) rfl T.z_isinstance bt_isinstance (pa_cons (pv 0) (pa_cons (pe_glob (v := .ref C) rfl T.g_Atom rfl) pa_nil)))) (pss_one (ps_ret (pe_lst (pa_cons (pv 0) pa_nil)))) pss_nil)
      (pss_cons (ps_set (i := 1) sc__law_inside.nd rfl (Or.inr rfl) (pe_lst pa_nil))
      (pss_cons (ps_if (pt_val (pe_callB (call_isiA T.cl) rfl T.z_isinstance bt_isinstance (pa_cons (pv 0) (pa_cons (pe_bltn (v := .ty "tuple") rfl T.z_tuple bt_tuple rfl) pa_nil)))) (pss_one (ps_for PassesOwn.never rfl (pi_tup (pv 0)) (pg_name (i := 2) sc__law_inside.nd rfl (Or.inl rfl))
      (pss_one (ps_set (i := 1) sc__law_inside.nd rfl (Or.inr rfl) (pe_op op_cat (pv 1) (pe_lc (own := [("atom", 3)]) (g := gName 3) rfl sc__law_inside.nd (pi_list (C8.pe_c c__law_inside hr (Nat.le_refl _) rfl (pa_cons (pv 2) pa_nil))) (blkOk_by (own := [("atom", 3)]) (N := ["word", "found", "part", "atom"]) (sc := C8.fnScope s__law_inside) (by decide +kernel)) (fun _ _ _ _ _ => (pg_name (i := 3) sc__law_inside.nd rfl (Or.inl rfl))) (fun _ _ _ _ _ => (pts_one (pt_cmpR (op_notInA O (hr.mono (by omega))) (pv 3) (pv 1) (by with_unfolding_all rfl)))) (fun _ _ _ _ _ => (pv 3)))))))) pss_nil)
      (pss_one (ps_ret (pv 1)))))), ?_⟩
    refine ⟨_, rfl, x, _, _, _, _, rfl, hx, .own C, kitA T d, _, rfl, ?_⟩
    cases hA : isAt d with
    | true =>
      obtain ⟨k, ds, rfl⟩ := isAt_iff hA
      refine iteT ⟨_, rfl, (by show 1 ≤ sizeLine; decide), fun l hl => ?_⟩
      exact q _ l [x] (same_new hl) hl upd_same (.cons (hx.same (same_new hl)) .nil)
    | false =>
      refine iteF ⟨(by show 0 ≤ sizeLine; decide), fun l hl => ?_⟩
      have s1 := same_new (o := .lst []) hl
      refine ⟨_, rfl, x, d, _, _, _, rfl, hx.same s1, .ty _, kitT T d, _, rfl, ?_⟩
      cases hT : isT d with
      | false =>
        have hp : places d = [] := by cases d <;> first | rfl | (simp [isAt] at hA; done) | (simp [isT] at hT; done)
        rw [hp] at q
        exact iteF ⟨_, rfl, q _ l [] s1 hl upd_same .nil⟩
      | true =>
        obtain ⟨gs, rfl⟩ : ∃ gs, d = .tup gs := by cases d <;> first | exact ⟨_, rfl⟩ | cases hT
        cases hx with
        | @tup a ys _ ha iy =>
        have hcg : clnL gs = true := by simpa [cln] using hc
        have hUg : ∀ a ∈ placesL gs, a ∈ UD := by simpa [places] using hU
        have hyl := iy.len
        have hgl := len_szL gs
        have hzg : szL gs + 1 ≤ 100000 := by simpa [sz] using hz
        have hpg := placesL_len gs
        refine iteT ⟨_, rfl, a, rfl, ⟨ys, SqT.of (s1 _ _ ha)⟩, for_it (walk_tup (xs := ys)) (fun i σ H1 => ∃ m xs v2, σ = [some (.ref a), some (.ref m), v2, none] ∧ Same H H1 ∧ H m = none ∧ H1 m = some (.lst xs) ∧ IsA C H1 xs (addAll [] (placesL (gs.take i)))) ⟨l, [], none, rfl, s1, hl, upd_same, .nil⟩ (fun i σ H1 _ h => ?_) ?_ ?_⟩
        · obtain ⟨_, _, _, _, s, _⟩ := h
          exact SqT.of (s _ _ ha)
        · rintro i y σ H1 H2 hi ⟨m, xs, v2, rfl, sm, hm, hm1, ix⟩ ⟨rfl, hy⟩
          obtain ⟨g, hg, hyg⟩ := iy.at hy
          have gm : g ∈ gs := List.mem_of_getElem? hg
          have hgU : ∀ a ∈ places g, a ∈ UD := fun a ha => hUg a (placesL_mem gm ha)
          have hfU : ∀ a ∈ addAll [] (placesL (gs.take i)), a ∈ UD := fun e he => by
            rcases addAll_mem he with he | he
            · cases he
            · refine hUg e ?_
              have : placesL gs = placesL (gs.take i) ++ placesL (gs.drop i) := by rw [← placesL_app, List.take_append_drop]
              rw [this]; exact List.mem_append_left _ he
          have hsg := szL_mem gm
          have hdg := depL_mem gm
          have hd' : depL gs + 1 < n + 1 := hd
          refine ⟨_, rfl, ?_⟩
          refine ⟨y, rfl, y, g, rfl, hyg.same sm, clnL_iff.mp hcg g gm, by omega, by omega, hgU, fun H3 p ps s3 hp hp3 ip => ?_⟩
          refine ⟨p, rfl, ⟨ps, SqL.of hp3⟩, fun Dl hD => ?_⟩
          have sH3 := sm.trans s3
          have hnx : H3 m = some (.lst xs) := s3 _ _ hm1
          have ixx := ix.same s3
          have hDH : H Dl = none := sH3.free hD
          refine lc_it (walk_list (xs := ps)) (fun j H4 => Same H3 H4 ∧ ∃ acc, H4 Dl = some (.lst acc) ∧ IsA C H4 acc (((addAll [] (places g)).take j).filter (ni (addAll [] (placesL (gs.take i)))))) ⟨same_new hD, [], upd_same, .nil⟩ (fun j H4 _ h => SqL.of (h.1 _ _ hp3)) ?_ ?_
          · rintro j z H4 H5 hj ⟨s4, acc, hz4, ia⟩ ⟨rfl, hz'⟩
            obtain ⟨e, he, hze⟩ := ip.at hz'
            have heU : e ∈ UD := by
              rcases addAll_mem (List.mem_of_getElem? he) with h | h
              · cases h
              · exact hgU e h
            refine ⟨rfl, ?_⟩
            refine ⟨_, rfl, _, rfl, m, xs, _, e, rfl, s4 _ _ hnx, ixx.same s4, hze.same s4, (famUD e heU).1, fun f hf => ⟨(famUD f (hfU f hf)).1, (famUD f (hfU f hf)).2.2 e heU⟩, fun H6 s6 => ⟨_, rfl, ?_⟩⟩
            have hfilt : ((addAll [] (places g)).take (j + 1)).filter (ni (addAll [] (placesL (gs.take i)))) = ((addAll [] (places g)).take j).filter (ni (addAll [] (placesL (gs.take i)))) ++ [e].filter (ni (addAll [] (placesL (gs.take i)))) := by
              rw [List.take_add_one, he, List.filter_append]; rfl
            rw [hfilt]
            show (if ni (addAll [] (placesL (gs.take i))) e = true then _ else _)
            have hal := ia.len
            have hal2 : acc.length ≤ 100000 := by
              rw [hal]
              refine Nat.le_trans (List.length_filter_le _ _) ?_
              rw [List.length_take]
              have h1 := addAll_len (places g) []
              have h2 := places_len g
              simp at h1
              omega
            cases hni : ni (addAll [] (placesL (gs.take i))) e with
            | false =>
              refine iteF ⟨s4.trans s6, acc, s6 _ _ hz4, ?_⟩
              rw [List.filter_cons_of_neg (by rw [hni]; exact Bool.false_ne_true), List.filter_nil, List.append_nil]
              exact ia.same s6
            | true =>
              refine iteT ⟨_, rfl, acc, s6 _ _ hz4, Nat.lt_of_lt_of_le (show acc.length < 1000001 by omega) (by decide), same_put (s4.trans s6) hD, _, upd_same, ?_⟩
              rw [List.filter_cons_of_pos hni, List.filter_nil]
              have kq : Keep C H6 (upd H6 Dl (.lst (acc ++ [z]))) := Keep.lst (s6 _ _ hz4)
              refine (IsA.keep kq (famCln fun a ha => ?_) (ia.same s6)).app (.cons (Is.keep kq (famUD e heU).2.1 ((hze.same s4).same s6)) .nil)
              have h1 := (List.mem_filter.mp ha).1
              rcases addAll_mem (List.mem_of_mem_take h1) with h | h
              · cases h
              · exact hgU a h
          · rintro H4 ⟨s4, acc, hz4, ia⟩
            have hpl := ip.len
            rw [List.take_of_length_le (l := addAll [] (places g)) (i := ps.length) (by omega)] at ia
            have hla := ia.len
            have hlx := ix.len
            have b1 : acc.length ≤ 100000 := by
              rw [hla]
              refine Nat.le_trans (List.length_filter_le _ _) ?_
              have h1 := addAll_len (places g) []
              have h2 := places_len g
              simp at h1
              omega
            have b2 : xs.length ≤ 100000 := by
              rw [hlx]
              have h1 := addAll_len (placesL (gs.take i)) []
              have h2 := placesL_len (gs.take i)
              have h3 : szL gs = szL (gs.take i) + szL (gs.drop i) := by rw [← szL_app, List.take_append_drop]
              simp at h1
              omega
            refine ⟨m, Dl, xs, acc, rfl, rfl, s4 _ _ hnx, hz4, Nat.le_trans (show _ ≤ 1000000 by omega) (by decide), fun r hr' => ?_⟩
            have s5 := same_new (o := .lst (xs ++ acc)) hr'
            have sH4 := sH3.trans s4
            refine ⟨r, xs ++ acc, _, rfl, sH4.trans s5, sH4.free hr', upd_same, ?_⟩
            rw [placesL_take gs i g hg, addAll_app, addAll_eq (addAll [] (placesL (gs.take i))) (places g)]
            exact (((ixx.same s4).same s5)).app (ia.same s5)
        · rintro σ H1 ⟨m, xs, v2, rfl, sm, hm, hm1, ix⟩
          rw [List.take_of_length_le (by omega)] at ix
          exact ⟨_, rfl, q H1 m xs sm hm hm1 ix⟩
end
end Hc

namespace Hc
open PySem PySem.Spec PyProof.Rows L2 Hr
def leaf (d : D) : Prop := d = .non ∨ d = .int 5 ∨ d = .str "a" ∨ d = .tup [] ∨ d ∈ UD
def Wd : Nat → D → Prop
  | 0, d => leaf d
  | n + 1, d => leaf d ∨ ∃ ds, d = .tup ds ∧ ds.length ≤ 3 ∧ ∀ e ∈ ds, Wd n e
theorem Wd.leaf : ∀ {n : Nat} {d : D}, Hc.leaf d → Wd n d
  | 0, _, h => h
  | _ + 1, _, h => .inl h
/-- what is known of a word -/
structure Ok (n : Nat) (d : D) : Prop where
  cl : cln d = true
  tx : txb d = true
  dp : dep d ≤ n + 1
  sz : sz d ≤ 100 * 4 ^ n
  pl : ∀ a ∈ places d, a ∈ UD
  ok : ∀ j, j + n ≤ 38 → okW 40 40 j d = true
theorem ok_leaf {d : D} (h : leaf d) : Ok 0 d := by
  rcases h with rfl | rfl | rfl | rfl | h
  · exact ⟨rfl, rfl, by decide, by decide, fun a h => (by cases h), fun j _ => rfl⟩
  · exact ⟨rfl, rfl, by decide, by decide, fun a h => (by cases h), fun j _ => by simp only [okW]; decide⟩
  · exact ⟨rfl, by decide +kernel, by decide, by decide, fun a h => (by cases h), fun j _ => by simp only [okW]; decide +kernel⟩
  · exact ⟨rfl, rfl, by decide, by decide, fun a h => (by cases h), fun j hj => by simp only [okW, okA, Bool.and_true, decide_eq_true_eq]; omega⟩
  · have hb : (UD.all fun a => decide (sz a ≤ 100) && decide (rank a ≤ 40) && txb a) = true := by decide +kernel
    have h1 := List.all_eq_true.mp hb d h
    simp only [Bool.and_eq_true, decide_eq_true_eq] at h1
    obtain ⟨⟨k, ds, rfl⟩, _, _⟩ := (famUD d h).1
    exact ⟨(famUD _ h).2.1, h1.2, by simp [dep], by simpa using h1.1.1, fun a ha => by simp [places] at ha; rw [ha]; exact h, fun j _ => by simp only [okW]; exact decide_eq_true h1.1.2⟩
theorem Ok.up {n m : Nat} {d : D} (h : Ok n d) (hm : n ≤ m) : Ok m d :=
  ⟨h.cl, h.tx, by have := h.dp; omega, Nat.le_trans h.sz (Nat.mul_le_mul_left _ (Nat.pow_le_pow_right (by decide) hm)), h.pl, fun j hj => h.ok j (by omega)⟩
theorem szL_bound {b : Nat} : ∀ {ds : List D}, (∀ e ∈ ds, sz e ≤ b) → szL ds ≤ ds.length * b
  | [], _ => by simp [szL]
  | d :: ds, h => by
    have h1 := h d List.mem_cons_self
    have h2 := szL_bound (fun e he => h e (List.mem_cons_of_mem _ he))
    simp only [szL, List.length_cons, Nat.add_mul, Nat.one_mul]; omega
theorem depL_bound {b : Nat} : ∀ {ds : List D}, (∀ e ∈ ds, dep e ≤ b) → depL ds ≤ b
  | [], _ => Nat.zero_le _
  | d :: ds, h => by
    have h1 := h d List.mem_cons_self
    have h2 := depL_bound (fun e he => h e (List.mem_cons_of_mem _ he))
    simp only [depL]; omega
theorem placesL_all {p : D → Prop} : ∀ {ds : List D}, (∀ e ∈ ds, ∀ a ∈ places e, p a) → ∀ a ∈ placesL ds, p a
  | [], _, a, h => by simp [placesL] at h
  | d :: ds, h, a, ha => by
    simp only [placesL] at ha
    rcases List.mem_append.mp ha with ha | ha
    · exact h d List.mem_cons_self a ha
    · exact placesL_all (fun e he => h e (List.mem_cons_of_mem _ he)) a ha
theorem okA_all {j : Nat} : ∀ {ds : List D}, (∀ e ∈ ds, okW 40 40 j e = true) → okA 40 40 j ds = true
  | [], _ => rfl
  | d :: ds, h => by
    simp only [okA]
    rw [h d List.mem_cons_self, okA_all (fun e he => h e (List.mem_cons_of_mem _ he))]; rfl
theorem txbL_all : ∀ {ds : List D}, (∀ e ∈ ds, txb e = true) → txbL ds = true
  | [], _ => rfl
  | d :: ds, h => by
    simp only [txbL]
    rw [h d List.mem_cons_self, txbL_all (fun e he => h e (List.mem_cons_of_mem _ he))]; rfl
theorem ok_tup {n : Nat} {ds : List D} (hl : ds.length ≤ 3) (h : ∀ e ∈ ds, Ok n e) : Ok (n + 1) (.tup ds) := by
  refine ⟨?_, ?_, ?_, ?_, ?_, fun j hj => ?_⟩
  · simp only [cln]; exact clnL_iff.mpr fun e he => (h e he).cl
  · simp only [txb]; exact txbL_all fun e he => (h e he).tx
  · simp only [dep]; have := depL_bound (b := n + 1) (ds := ds) fun e he => (h e he).dp; omega
  · have h1 := szL_bound (ds := ds) fun e he => (h e he).sz
    have h2 : ds.length * (100 * 4 ^ n) ≤ 3 * (100 * 4 ^ n) := Nat.mul_le_mul_right _ hl
    have h3 : 0 < 4 ^ n := Nat.pow_pos (by decide)
    simp only [Hr.sz, Nat.pow_succ]; omega
  · simp only [places]; exact placesL_all fun e he => (h e he).pl
  · simp only [okW]
    rw [okA_all (j := j + 1) fun e he => (h e he).ok (j + 1) (by omega), decide_eq_true (by omega)]; rfl
theorem Wd.ok : ∀ {n : Nat} {d : D}, Wd n d → Ok n d
  | 0, d, h => ok_leaf h
  | n + 1, d, h => by
    rcases h with h | ⟨ds, rfl, hl, h⟩
    · exact (ok_leaf h).up (Nat.zero_le _)
    · exact ok_tup hl fun e he => (h e he).ok
theorem Ok.fit {n : Nat} {d : D} (h : Ok n d) (hn : n ≤ 6) : Fit d := by
  refine ⟨?_, txl_of h.tx⟩
  have h1 := h.sz
  have h2 : 4 ^ n ≤ 4 ^ 6 := Nat.pow_le_pow_right (by decide) hn
  have h3 : 4 ^ 6 = 4096 := by decide
  omega
/-- words drawn of the atoms of a list -/
def spW (C : Addr) (n : Nat) : Sp := fun vs H Q _ => ∃ (d c a : Addr) (k : Nat) (xs : List V) (ps : List D), vs = [.ref d, .ref a, .int (k : Nat)] ∧ k < n ∧ Dr H d c ∧ H a = some (.lst xs) ∧ a ≠ c ∧ IsA C H xs ps ∧ (∀ e ∈ ps, e ∈ UD) ∧ 0 < xs.length ∧ xs.length < 1000 ∧
  ∀ H' v w, Dr H' d c → Bu2 d c H H' → Is C H' v w → Wd k w → Q v H'
section
variable {P : Program} {w : World} {K : PySem.W.Frag} {mg : Str → Option Value} {base : Heap} {f : Addr} {fd : FuncData} {C N : Addr}
abbrev s__law_word : Stmt := top 30
theorem sc__law_word : FnScope ["draws", "atoms", "deep", "kind", "k"] ["draws", "atoms", "deep"] (C8.fnScope s__law_word) := C8.fnScope_by (by decide +kernel)
theorem ok__law_word (F : C8.Def K mg "_law_word" s__law_word f fd) (b : Binds K fd ["draws", "atoms", "deep"] []) (T : Txt K mg w C) (c__law_draw : C8.Cal P w K mg base 1 "_law_draw" spDraw []) (c__law_pick : C8.Cal P w K mg base 2 "_law_pick" spPick []) : ∀ n, C8.Cal P w K mg base (n + 3) "_law_word" (spW C n) [] := by
  intro n
  induction n with
  | zero =>
    refine C8.cal0 F b .nil sc__law_word (fun vs H Q E h => ?_) (fun cdv A outer s H vs Q E hr h => ?_)
    · obtain ⟨d, c, a, k, xs, ps, _, h, _⟩ := h; omega
    · obtain ⟨d, c, a, k, xs, ps, _, h, _⟩ := h; omega
  | succ n ih =>
    have c__law_word := ih
    refine C8.cal0 F b .nil sc__law_word (fun vs H Q E h => ?_) (fun cdv A outer s H vs Q E hr h => ?_)
    · obtain ⟨d, c, a, k, xs, ps, rfl, _⟩ := h; rfl
    obtain ⟨d, c, a, k, xs, ps, rfl, hk, hD, ha, hac, ix, hU, h0, h1, q⟩ := h
    have had : a ≠ d := fun z => by
      obtain ⟨⟨r, m, hd⟩, _⟩ := hD
      rw [z, hd] at ha; cases ha
    refine ⟨_, (pss_cons (ps_set (i := 3) sc__law_word.nd rfl (Or.inl rfl) (C8.pe_c c__law_draw hr (by omega) rfl (pa_cons (pv 0) (pa_cons pe_int pa_nil))))
      (pss_cons (ps_if (PW.pt (pw_or (pt_cmpR op_eq (pv 2) pe_int (nomark _)) (pw_or1 (pt_cmpR op_eq (pv 3) pe_int (nomark _))))) (pss_one (ps_ret (C8.pe_c c__law_pick hr (by omega) rfl (pa_cons (pv 0) (pa_cons (pe_lst (pa_cons pe_non (pa_cons pe_int (pa_cons pe_str (pa_cons (pe_tup pa_nil) pa_nil))))) pa_nil))))) pss_nil)
      (pss_cons (ps_if (pt_cmpR op_lt (pv 3) pe_int (nomark _)) (pss_one (ps_ret (C8.pe_c c__law_pick hr (by omega) rfl (pa_cons (pv 0) (pa_cons (pv 1) pa_nil))))) pss_nil)
      (pss_one (ps_ret (pe_callTy call_tuple_of rfl T.z_tuple bt_tuple (pa_cons (pe_lc (own := [("k", 4)]) (g := gName 4) rfl sc__law_word.nd (pi_range1 rfl T.z_range (pa_cons (C8.pe_c c__law_draw hr (by omega) rfl (pa_cons (pv 0) (pa_cons pe_int pa_nil))) pa_nil)) (blkOk_by (own := [("k", 4)]) (N := ["draws", "atoms", "deep", "kind", "k"]) (sc := C8.fnScope s__law_word) (by decide +kernel)) (fun _ _ _ _ _ => (pg_name (i := 4) sc__law_word.nd rfl (Or.inl rfl))) (fun _ _ _ _ _ => pts_nil) (fun _ _ _ _ _ => (C8.pe_c c__law_word hr (Nat.le_refl _) rfl (pa_cons (pv 0) (pa_cons (pv 1) (pa_cons (pe_op op_sub (pv 2) pe_int) pa_nil)))))) pa_nil))))))), ?_⟩
    refine ⟨_, rfl, d, c, 5, rfl, hD, by decide, by decide, fun H1 r hD1 b1 g0 g1 => ?_⟩
    have k1 := hD.keep (C := C) b1
    have ha1 := b1 _ _ ha had hac
    have ix1 := IsA.keep k1 (famCln hU) ix
    have leaves : ∀ u l, H1 u = none → (upd H1 u (.tup [])) l = none → spPick [.ref d, .ref l] (upd (upd H1 u (.tup [])) l (.lst [.non, .int 5, .str "a", .ref u])) Q C8.E0 := fun u l hu hl => by
      have s1 := (same_new (o := .tup []) hu).trans (same_new (o := .lst [.non, .int 5, .str "a", .ref u]) hl)
      have hu2 : (upd (upd H1 u (.tup [])) l (.lst [.non, .int 5, .str "a", .ref u])) u = some (.tup []) := (same_new hl) _ _ upd_same
      have hoff := hD1.off (same_new (o := .tup []) hu |>.free hl)
      refine ⟨d, c, l, _, rfl, hD1.same s1, upd_same, hoff.2, (by show 0 < 4; decide), (by show 4 < 1000000; decide), fun H2 i x hD2 b2 hx => ?_⟩
      have k2 := (hD1.same s1).keep (C := C) b2
      have b3 := (b1.trans (Bu2.of s1)).trans b2
      rcases (show i = 0 ∨ i = 1 ∨ i = 2 ∨ i = 3 ∨ 4 ≤ i by omega) with rfl | rfl | rfl | rfl | h4
      · cases hx; exact q _ _ .non hD2 b3 .non (Wd.leaf (.inl rfl))
      · cases hx; exact q _ _ (.int 5) hD2 b3 (.int _) (Wd.leaf (.inr (.inl rfl)))
      · cases hx; exact q _ _ (.str "a") hD2 b3 (.str _) (Wd.leaf (.inr (.inr (.inl rfl))))
      · cases hx; exact q _ _ (.tup []) hD2 b3 (.tup (k2.tup _ _ hu2) .nil) (Wd.leaf (.inr (.inr (.inr (.inl rfl)))))
      · rw [List.getElem?_eq_none (by simpa using h4)] at hx; cases hx
    have leafy : ∀ (σ : L2.St), σ[0]? = some (some (.ref d)) → (tRet (tCall spPick [] C8.E0 (tCons (tVar 0) (tCons (tLst (tCons (tC .non) (tCons (tC (.int 5)) (tCons (tC (.str "a")) (tCons (tTup tNil) tNil))))) tNil)))) { nx := fun _ H' => Q .non H', rt := Q } σ H1 := fun σ hσ =>
      ⟨_, hσ, (by show 0 ≤ sizeLine; decide), fun u hu => ⟨(by show 4 ≤ sizeLine; decide), fun l hl => leaves u l hu hl⟩⟩
    refine ⟨_, rfl, rfl, _, rfl, ?_⟩
    by_cases c1 : k = 0
    · subst c1
      exact ifT rfl (leafy _ rfl)
    refine ifF (fun z => c1 (by have := V.int.inj z; omega)) ⟨_, rfl, rfl, _, rfl, ?_⟩
    by_cases c2 : r = 0
    · subst c2
      exact ifT rfl (leafy _ rfl)
    refine ifF (fun z => c2 (V.int.inj z)) ⟨_, rfl, _, _, rfl, rfl, _, rfl, ite2 (fun _ => ?_) (fun _ => ?_)⟩
    · refine ⟨_, rfl, _, rfl, d, c, a, xs, rfl, hD1, ha1, hac, h0, by omega, fun H2 i x hD2 b2 hx => ?_⟩
      obtain ⟨e, he, hxe⟩ := ix1.at hx
      have heU := hU e (List.mem_of_getElem? he)
      exact q _ _ e hD2 (b1.trans b2) (Is.keep (hD1.keep b2) (famUD e heU).2.1 hxe) (Wd.leaf (.inr (.inr (.inr (.inr heU)))))
    · obtain ⟨k, rfl⟩ : ∃ k', k = k' + 1 := ⟨k - 1, by omega⟩
      refine ⟨_, rfl, d, c, 4, rfl, hD1, by decide, by decide, fun H2 r2 hD2 b2 e0 e1 => ⟨r2, rfl, by omega, by omega, fun Dl hDl => ?_⟩⟩
      have hoff := hD2.off hDl
      have ha2 := b2 _ _ ha1 had hac
      have ix2 := IsA.keep (hD1.keep b2) (famCln hU) ix1
      refine lc_it (walk_range (lo := 0) (n := r2.toNat)) (fun i H3 => Dr H3 d c ∧ Bu2 d c H2 H3 ∧ ∃ acc ws, H3 Dl = some (.lst acc) ∧ IsA C H3 acc ws ∧ ws.length = i ∧ ∀ e ∈ ws, Wd k e) ⟨hD2.same (same_new hDl), Bu2.of (same_new hDl), [], [], upd_same, .nil, rfl, fun e he => by cases he⟩ (fun _ _ _ _ => trivial) ?_ ?_
      · rintro i y H3 H4 hi ⟨hD3, b3, acc, ws, hz, ia, hl, hw⟩ ⟨rfl, rfl⟩
        have ha3 := b3 _ _ ha2 had hac
        have ix3 := IsA.keep (hD2.keep b3) (famCln hU) ix2
        refine ⟨rfl, yes ?_⟩
        refine ⟨_, rfl, _, rfl, _, rfl, _, _, rfl, rfl, d, c, a, k, xs, ps, (by simp), by omega, hD3, ha3, hac, ix3, hU, h0, h1, fun H5 v w' hD5 b5 iv hwd => ?_⟩
        have hz5 := b5 _ _ hz hoff.1 hoff.2
        have ia5 := IsA.keep (hD3.keep b5) (clnL_iff.mpr fun e he => (hw e he).ok.cl) ia
        have hal := ia.len
        refine ⟨acc, hz5, small1000 (by have : i < r2.toNat := hi; omega), ?_, fun b o e n1 n2 => ?_, acc ++ [v], ws ++ [w'], upd_same, app_step hz5 ia5 iv (clnL_iff.mpr fun e he => (hw e he).ok.cl) hwd.ok.cl, by simp [hl], fun e he => ?_⟩
        · obtain ⟨⟨r0, m0, f1⟩, ns, hn, f2⟩ := hD5
          exact ⟨⟨r0, m0, by rw [upd_ne hoff.1.symm]; exact f1⟩, ns, hn, by rw [upd_ne hoff.2.symm]; exact f2⟩
        · rw [upd_ne (ne_of_none e hDl)]
          exact b5 _ _ (b3 _ _ e n1 n2) n1 n2
        · rcases List.mem_append.mp he with he | he
          · exact hw e he
          · rw [List.mem_singleton.mp he]; exact hwd
      · rintro H3 ⟨hD3, b3, acc, ws, hz, ia, hl, hw⟩
        refine ⟨Dl, acc, rfl, .inl ⟨SqL.of hz, fun t ht => ?_⟩⟩
        have s4 := same_new (o := .tup acc) ht
        exact q _ _ (.tup ws) (hD3.same s4) (((b1.trans b2).trans b3).trans (Bu2.of s4)) (new_tup ht ia) (.inr ⟨ws, rfl, by omega, hw⟩)
abbrev s__law_right : Stmt := top 32
theorem sc__law_right : FnScope ["knowledge", "had", "word", "odd", "due", "atom", "told"] ["knowledge", "had", "word", "odd"] (C8.fnScope s__law_right) := C8.fnScope_by (by decide +kernel)
theorem n_cm1 {v : V} : List.lookup ("can_make" : Str) [(("_atoms" : Str), v)] = none := by
  have : (("can_make" : Str) == "_atoms") = false := by decide +kernel
  simp [List.lookup, this]
theorem n_at1 {v : V} : List.lookup ("atoms" : Str) [(("_atoms" : Str), v)] = none := by
  have : (("atoms" : Str) == "_atoms") = false := by decide +kernel
  simp [List.lookup, this]
theorem n_cp1 {v : V} : List.lookup ("copy" : Str) [(("_atoms" : Str), v)] = none := by
  have : (("copy" : Str) == "_atoms") = false := by decide +kernel
  simp [List.lookup, this]
theorem n_tk1 {v : V} : List.lookup ("take" : Str) [(("_atoms" : Str), v)] = none := by
  have : (("take" : Str) == "_atoms") = false := by decide +kernel
  simp [List.lookup, this]
theorem mem_addAll : ∀ {ps ds : List D} {a : D}, (a ∈ ds ∨ a ∈ ps) → a ∈ addAll ds ps
  | [], ds, a, h => by
    rcases h with h | h
    · exact h
    · cases h
  | p :: ps, ds, a, h => by
    refine mem_addAll (ps := ps) (ds := add1 ds p) ?_
    rcases h with h | h
    · refine .inl ?_
      unfold add1
      split
      · exact h
      · exact List.mem_append_left _ h
    · rcases List.mem_cons.mp h with rfl | h
      · refine .inl ?_
        unfold add1
        split
        · rename_i hc
          obtain ⟨e, he, hea⟩ := List.any_eq_true.mp hc
          rw [← eqD_eq hea]; exact he
        · exact List.mem_append_right _ List.mem_cons_self
      · exact .inr h
theorem due_eq (ds ps : List D) : (ps.all fun a => ds.any fun e => eqD e a) = decide (V.int ((((addAll [] ps).filter (ni ds)).length : Nat) : Int) = V.int 0) := by
  by_cases h : (ps.all fun a => ds.any fun e => eqD e a) = true
  · rw [h]
    have : (addAll [] ps).filter (ni ds) = [] := List.filter_eq_nil_iff.mpr fun a ha => by
      rcases addAll_mem ha with ha | ha
      · cases ha
      · have := List.all_eq_true.mp h a ha
        unfold ni; rw [this]; decide
    rw [this]; rfl
  · rw [Bool.not_eq_true] at h
    rw [h]
    symm
    refine decide_eq_false fun z => ?_
    have hz : ((addAll [] ps).filter (ni ds)).length = 0 := by have := V.int.inj z; omega
    have hn := List.filter_eq_nil_iff.mp (List.eq_nil_of_length_eq_zero hz)
    have : (ps.all fun a => ds.any fun e => eqD e a) = true := List.all_eq_true.mpr fun a ha => by
      have := hn a (mem_addAll (.inr ha))
      unfold ni at this
      simpa using this
    rw [this] at h; cases h
def spRight (N C : Addr) : Sp := fun vs H Q _ => ∃ (p h l : Addr) (x o : V) (xs ys : List V) (ds : List D) (d e : D), vs = [.ref p, .ref h, x, o] ∧ Kn N H p l xs ∧ IsA C H xs ds ∧ H h = some (.lst ys) ∧ IsA C H ys ds ∧ (∀ a ∈ ds, a ∈ UD) ∧ ds.length ≤ 1000000 ∧ Is C H x d ∧ Ok 4 d ∧ Is C H o e ∧ Fit e ∧ okW 40 40 0 e = false ∧ ∀ H', Same H H' → Q (.bl true) H'
theorem ok__law_right (F : C8.Def K mg "_law_right" s__law_right f fd) (b : Binds K fd ["knowledge", "had", "word", "odd"] []) (T : Txt K mg w C) (O : OwnE P w K mg base 3 C) (c__law_inside : C8.Cal P w K mg base 13 "_law_inside" (spIns C 9) []) (m_atoms : C8.Met P w K mg base 1 N "atoms" (spAtoms N) []) (m_can_make : C8.Met P w K mg base 5 N "can_make" (spCan N C UD) []) : C8.Cal P w K mg base 14 "_law_right" (spRight N C) [] := by
  refine C8.cal0 F b .nil sc__law_right (fun vs H Q E h => ?_) (fun cdv A outer s H vs Q E hr h => ?_)
  · obtain ⟨p, h, l, x, o, xs, ys, ds, d, e, rfl, _⟩ := h; rfl
  obtain ⟨p, h, l, x, o, xs, ys, ds, d, e, rfl, kn, ix, hh, iy, hU, hlen, hx, ok, ho, hz, hoe, q⟩ := h
  have hdp : dep d < 9 := by have := ok.dp; omega
  have hok := ok.ok 0 (by decide)
  refine ⟨_, (pss_cons (ps_if (pt_cmpR (op_neL O (hr.mono (by decide))) (C8.pe_mt0 m_atoms hr (by first | decide | omega) (pv 0)) (pv 1) (nomark _)) (pss_one (ps_ret pe_bl)) pss_nil)
      (pss_cons (ps_set (i := 4) sc__law_right.nd rfl (Or.inl rfl) (pe_cmpR op_eq (pe_callB call_lenS rfl T.z_len bt_len (pa_cons (pe_lc (own := [("atom", 5)]) (g := gName 5) rfl sc__law_right.nd (pi_list (C8.pe_c c__law_inside hr (by first | decide | omega) rfl (pa_cons (pv 2) pa_nil))) (blkOk_by (own := [("atom", 5)]) (N := ["knowledge", "had", "word", "odd", "due", "atom", "told"]) (sc := C8.fnScope s__law_right) (by decide +kernel)) (fun _ _ _ _ _ => (pg_name (i := 5) sc__law_right.nd rfl (Or.inl rfl))) (fun _ _ _ _ _ => (pts_one (pt_cmpR (op_notInA O (hr.mono (by decide))) (pv 5) (pv 1) (by with_unfolding_all rfl)))) (fun _ _ _ _ _ => (pv 5))) pa_nil)) pe_int (nomark _)))
      (pss_cons (ps_set (i := 6) sc__law_right.nd rfl (Or.inl rfl) (C8.pe_mt m_can_make hr (by first | decide | omega) (pv 0) (pa_cons (pv 2) pa_nil)))
      (pss_one (ps_ret (pe_and (pe_callB (call_isiA T.cl) rfl T.z_isinstance bt_isinstance (pa_cons (pv 6) (pa_cons (pe_bltn (v := .ty "bool") rfl T.z_bool bt_bool rfl) pa_nil))) (pe_and (pe_cmpR op_eq (pv 6) (pv 4) (nomark _)) (pe_one (pe_cmpR op_is_bl (C8.pe_mt m_can_make hr (by first | decide | omega) (pv 0) (pa_cons (pv 3) pa_nil)) pe_bl (nomark _)))))))))), ?_⟩
  obtain ⟨⟨dx, hp⟩, hl⟩ := id kn
  refine ⟨_, rfl, p, dx, _, rfl, hp, n_at1, p, l, xs, rfl, kn, fun m hm => ?_⟩
  have s1 := same_new (o := .lst xs) hm
  refine ⟨_, rfl, m, h, xs, ys, ds, rfl, rfl, upd_same, s1 _ _ hh, ix.same s1, iy.same s1, fun a ha => ⟨(famUD a (hU a ha)).1, (famUD a (hU a ha)).2.2 a (hU a ha)⟩, fun H2 s2 => ⟨_, rfl, iteF ?_⟩⟩
  have s12 := s1.trans s2
  clear s1 s2 hm
  refine ⟨x, rfl, x, d, rfl, hx.same s12, ok.cl, hdp, Nat.le_trans ok.sz (by decide), ok.pl, fun H3 p3 ps s3 hpn hp3 ip => ?_⟩
  have s13 := s12.trans s3
  refine ⟨p3, rfl, ⟨ps, SqL.of hp3⟩, fun Dl hD => ?_⟩
  have hpl := ip.len
  have hpU : ∀ a ∈ addAll [] (places d), a ∈ UD := fun a ha => by
    rcases addAll_mem ha with ha | ha
    · cases ha
    · exact ok.pl a ha
  have hpb : ps.length ≤ 500000 := by
    rw [hpl]
    have h1 := addAll_len (places d) []
    have h2 := places_len d
    have h3 := ok.sz
    have h4 : 100 * 4 ^ 4 = 25600 := by decide
    simp at h1
    omega
  refine lc_it (walk_list (xs := ps)) (fun j H4 => Same H3 H4 ∧ ∃ acc, H4 Dl = some (.lst acc) ∧ IsA C H4 acc (((addAll [] (places d)).take j).filter (ni ds))) ⟨same_new hD, [], upd_same, .nil⟩ (fun j H4 _ h => SqL.of (h.1 _ _ hp3)) ?_ ?_
  · rintro j z H4 H5 hj ⟨s4, acc, hz4, ia⟩ ⟨rfl, hz'⟩
    obtain ⟨a, ha, hza⟩ := ip.at hz'
    have haU := hpU a (List.mem_of_getElem? ha)
    have s14 := s13.trans s4
    refine ⟨rfl, ?_⟩
    refine ⟨_, rfl, _, rfl, h, ys, ds, a, rfl, s14 _ _ hh, iy.same s14, hza.same s4, (famUD a haU).1, fun f hf => ⟨(famUD f (hU f hf)).1, (famUD f (hU f hf)).2.2 a haU⟩, fun H6 s6 => ⟨_, rfl, ?_⟩⟩
    have hfilt : ((addAll [] (places d)).take (j + 1)).filter (ni ds) = ((addAll [] (places d)).take j).filter (ni ds) ++ [a].filter (ni ds) := by
      rw [List.take_add_one, ha, List.filter_append]; rfl
    rw [hfilt]
    show (if ni ds a = true then _ else _)
    have hal : acc.length ≤ 500000 := by
      rw [ia.len]
      refine Nat.le_trans (List.length_filter_le _ _) ?_
      rw [List.length_take]; omega
    cases hni : ni ds a with
    | false =>
      refine iteF ⟨s4.trans s6, acc, s6 _ _ hz4, ?_⟩
      rw [List.filter_cons_of_neg (by rw [hni]; exact Bool.false_ne_true), List.filter_nil, List.append_nil]
      exact ia.same s6
    | true =>
      refine iteT ⟨_, rfl, acc, s6 _ _ hz4, Nat.lt_of_lt_of_le (show acc.length < 1000001 by omega) (by decide), same_put (s4.trans s6) hD, _, upd_same, ?_⟩
      rw [List.filter_cons_of_pos hni, List.filter_nil]
      exact app_step (s6 _ _ hz4) (ia.same s6) ((hza.same s4).same s6) (famCln fun e he => hpU e (List.mem_of_mem_take (List.mem_filter.mp he).1)) (famUD a haU).2.1
  · rintro H4 ⟨s4, acc, hz4, ia⟩
    rw [List.take_of_length_le (l := addAll [] (places d)) (i := ps.length) (by omega)] at ia
    have hla := ia.len
    have s14 := s13.trans s4
    refine ⟨Dl, acc, rfl, .inl (SqL.of hz4), rfl, ?_⟩
    refine ⟨_, rfl, p, dx, _, rfl, s14 _ _ hp, n_cm1, _, rfl, p, l, x, xs, ds, d, rfl, kn.same s14, ix.same s14, hx.same s14, ok.fit (by decide), famUD, hU, fun _ => ok.pl, fun H5 s5 => ?_⟩
    have s15 := s14.trans s5
    refine ⟨_, rfl, _, .bl _, _, _, _, rfl, .bl _, .ty _, kitB T _, _, rfl, iteT ?_⟩
    have hEq : (okW 40 40 0 d && (places d).all fun a => ds.any fun e => eqD e a) = decide (V.int ((acc.length : Nat) : Int) = V.int 0) := by
      rw [hok, Bool.true_and, hla]
      exact due_eq ds (places d)
    refine ⟨_, rfl, _, rfl, rfl, _, rfl, ifT (congrArg V.bl hEq) ?_⟩
    refine ⟨_, rfl, p, dx, _, rfl, s15 _ _ hp, n_cm1, _, rfl, p, l, o, xs, ds, e, rfl, kn.same s15, ix.same s15, ho.same s15, hz, famUD, hU, fun z => (by rw [hoe] at z; cases z), fun H6 s6 => ?_⟩
    rw [hoe, Bool.false_and]
    exact ⟨_, _, rfl, rfl, q H6 (s15.trans s6)⟩
end
end Hc

namespace Hc
open PySem PySem.Spec PyProof.Rows L2 Hr
structure Rec where
  p : Addr
  l : Addr
  q : Addr
  ds : List D
def RecOk (N C : Addr) (H : Hp) (B : Nat) (r : Rec) : Prop := (∃ xs, Kn N H r.p r.l xs ∧ IsA C H xs r.ds) ∧ (∃ ys, H r.q = some (.lst ys) ∧ IsA C H ys r.ds) ∧ (∀ a ∈ r.ds, a ∈ UD) ∧ r.ds.length ≤ B
structure Sta (N C : Addr) (d c pl hs hd : Addr) (B : Nat) (R : List Rec) (H : Hp) : Prop where
  dr : Dr H d c
  pool : ∃ xs r, H pl = some (.lst xs) ∧ IsA C H xs (poolD r) ∧ 0 ≤ r ∧ r < 3
  hosts : H hs = some (.lst (R.map fun r => .ref r.p))
  had : H hd = some (.lst (R.map fun r => .ref r.q))
  recs : ∀ r ∈ R, RecOk N C H B r
  len : 1 ≤ R.length ∧ R.length ≤ 3
  n1 : hs ≠ hd
  n2 : hs ≠ c
  n3 : hd ≠ c
  n4 : pl ≠ c
  n5 : pl ≠ hs
  n6 : pl ≠ hd
  off : ∀ r ∈ R, r.l ≠ c ∧ r.l ≠ hs ∧ r.l ≠ hd ∧ r.l ≠ pl ∧ r.q ≠ c ∧ r.q ≠ hs ∧ r.q ≠ hd
  sep : (R.map (·.l)).Nodup
  lq : ∀ r ∈ R, ∀ s ∈ R, r.l ≠ s.q
section
variable {N C d c pl hs hd : Addr} {B : Nat} {R : List Rec} {H H' : Hp}
theorem RecOk.keep {r : Rec} (h : RecOk N C H B r) (k : Keep C H H') (e1 : ∀ o, H r.p = some o → H' r.p = some o) (e2 : ∀ o, H r.l = some o → H' r.l = some o) (e3 : ∀ o, H r.q = some o → H' r.q = some o) : RecOk N C H' B r := by
  obtain ⟨⟨xs, ⟨⟨dx, h1⟩, h2⟩, ix⟩, ⟨ys, h3, iy⟩, hU, hB⟩ := h
  exact ⟨⟨xs, ⟨⟨dx, e1 _ h1⟩, e2 _ h2⟩, IsA.keep k (famCln hU) ix⟩, ⟨ys, e3 _ h3, IsA.keep k (famCln hU) iy⟩, hU, hB⟩
theorem RecOk.up {r : Rec} {B' : Nat} (h : RecOk N C H B r) (hb : B ≤ B') : RecOk N C H B' r := ⟨h.1, h.2.1, h.2.2.1, Nat.le_trans h.2.2.2 hb⟩
theorem pool_mem {r : Int} (h0 : 0 ≤ r) (h1 : r < 3) : ∀ a ∈ poolD r, a ∈ UD := by
  have hb : ((poolD 0).all fun a => UD.any fun e => eqD e a) = true := by decide +kernel
  have hb1 : ((poolD 1).all fun a => UD.any fun e => eqD e a) = true := by decide +kernel
  have hb2 : ((poolD 2).all fun a => UD.any fun e => eqD e a) = true := by decide +kernel
  have go : ∀ l : List D, (l.all fun a => UD.any fun e => eqD e a) = true → ∀ a ∈ l, a ∈ UD := fun l hl a ha => by
    obtain ⟨e, he, hea⟩ := List.any_eq_true.mp (List.all_eq_true.mp hl a ha)
    rw [← eqD_eq hea]; exact he
  rcases (show r = 0 ∨ r = 1 ∨ r = 2 by omega) with rfl | rfl | rfl
  · exact go _ hb
  · exact go _ hb1
  · exact go _ hb2
/-- all of it stands where nothing of it changed -/
theorem Sta.of (s : Sta N C d c pl hs hd B R H) (k : Keep C H H') (hdr : Dr H' d c) (e : ∀ b o, H b = some o → b = pl ∨ b = hs ∨ b = hd ∨ (∃ r ∈ R, b = r.p ∨ b = r.l ∨ b = r.q) → H' b = some o) : Sta N C d c pl hs hd B R H' := by
  obtain ⟨xs, r, hp, ip, h0, h1⟩ := s.pool
  exact ⟨hdr, ⟨xs, r, e _ _ hp (.inl rfl), IsA.keep k (famCln (pool_mem h0 h1)) ip, h0, h1⟩, e _ _ s.hosts (.inr (.inl rfl)), e _ _ s.had (.inr (.inr (.inl rfl))),
    fun r hr => (s.recs r hr).keep k (fun o h => e _ _ h (.inr (.inr (.inr ⟨r, hr, .inl rfl⟩)))) (fun o h => e _ _ h (.inr (.inr (.inr ⟨r, hr, .inr (.inl rfl)⟩)))) (fun o h => e _ _ h (.inr (.inr (.inr ⟨r, hr, .inr (.inr rfl)⟩)))), s.len, s.n1, s.n2, s.n3, s.n4, s.n5, s.n6, s.off, s.sep, s.lq⟩
theorem Sta.same (s : Sta N C d c pl hs hd B R H) (e : Same H H') : Sta N C d c pl hs hd B R H' := s.of (Keep.of e) (s.dr.same e) fun b o h _ => e b o h
theorem Sta.pne (s : Sta N C d c pl hs hd B R H) {r : Rec} (hr : r ∈ R) : r.p ≠ d ∧ r.p ≠ c ∧ r.p ≠ hs ∧ r.p ≠ hd ∧ ∀ s' ∈ R, r.p ≠ s'.l := by
  obtain ⟨⟨xs, ⟨⟨dx, h1⟩, h2⟩, _⟩, _⟩ := s.recs r hr
  obtain ⟨⟨r0, m, hd1⟩, ns, _, hc1⟩ := s.dr
  refine ⟨fun z => ?_, fun z => ?_, fun z => ?_, fun z => ?_, fun s' hs' z => ?_⟩
  · rw [z, hd1] at h1; cases h1
  · rw [z, hc1] at h1; cases h1
  · rw [z, s.hosts] at h1; cases h1
  · rw [z, s.had] at h1; cases h1
  · obtain ⟨⟨xs', ⟨_, h2'⟩, _⟩, _⟩ := s.recs s' hs'
    rw [z, h2'] at h1; cases h1
theorem Sta.dne (s : Sta N C d c pl hs hd B R H) {b : Addr} {xs : List V} (h : H b = some (.lst xs)) : b ≠ d := fun z => by
  obtain ⟨⟨r0, m, hd1⟩, _⟩ := s.dr
  rw [z, hd1] at h; cases h
theorem Sta.bu2 (s : Sta N C d c pl hs hd B R H) (hdr : Dr H' d c) (e : Bu2 d c H H') : Sta N C d c pl hs hd B R H' := by
  refine s.of (s.dr.keep e) hdr fun b o h hb => e b o h ?_ ?_
  · rcases hb with rfl | rfl | rfl | ⟨r, hr, rfl | rfl | rfl⟩
    · obtain ⟨xs, _, hp, _⟩ := s.pool
      exact s.dne hp
    · exact s.dne s.hosts
    · exact s.dne s.had
    · exact (s.pne hr).1
    · obtain ⟨⟨xs, ⟨_, h2⟩, _⟩, _⟩ := s.recs r hr
      exact s.dne h2
    · obtain ⟨_, ⟨ys, h2, _⟩, _⟩ := s.recs r hr
      exact s.dne h2
  · rcases hb with rfl | rfl | rfl | ⟨r, hr, rfl | rfl | rfl⟩
    · exact s.n4
    · exact s.n2
    · exact s.n3
    · exact (s.pne hr).2.1
    · exact (s.off r hr).1
    · exact (s.off r hr).2.2.2.2.1
theorem Sta.up {B' : Nat} (s : Sta N C d c pl hs hd B R H) (hb : B ≤ B') : Sta N C d c pl hs hd B' R H :=
  ⟨s.dr, s.pool, s.hosts, s.had, fun r hr => (s.recs r hr).up hb, s.len, s.n1, s.n2, s.n3, s.n4, s.n5, s.n6, s.off, s.sep, s.lq⟩
/-- a host more -/
theorem Sta.more (s : Sta N C d c pl hs hd B R H) (hlt : R.length < 3) (n : Rec) (fl : H n.l = none) (fq : H n.q = none) (nlq : n.l ≠ n.q) (e : ∀ b o, H b = some o → b ≠ hs → b ≠ hd → H' b = some o)
    (eh : H' hs = some (.lst ((R ++ [n]).map fun r => .ref r.p))) (ed : H' hd = some (.lst ((R ++ [n]).map fun r => .ref r.q))) (ok : RecOk N C H' B n) : Sta N C d c pl hs hd B (R ++ [n]) H' := by
  have k : Keep C H H' := ⟨fun b xs h => e b _ h (fun z => by rw [z, s.hosts] at h; cases h) (fun z => by rw [z, s.had] at h; cases h), fun b dx fs h => e b _ h (fun z => by rw [z, s.hosts] at h; cases h) (fun z => by rw [z, s.had] at h; cases h)⟩
  obtain ⟨xs, r, hp, ip, h0, h1⟩ := s.pool
  obtain ⟨⟨r0, m, hd1⟩, ns, hn, hc1⟩ := id s.dr
  have fr : ∀ {b : Addr} {o : HO}, H b = some o → n.l ≠ b ∧ n.q ≠ b := fun h => ⟨(ne_of_none h fl).symm, (ne_of_none h fq).symm⟩
  refine ⟨⟨⟨r0, m, e _ _ hd1 (fun z => by rw [z, s.hosts] at hd1; cases hd1) (fun z => by rw [z, s.had] at hd1; cases hd1)⟩, ns, hn, e _ _ hc1 s.n2.symm s.n3.symm⟩, ⟨xs, r, e _ _ hp s.n5 s.n6, IsA.keep k (famCln (pool_mem h0 h1)) ip, h0, h1⟩, eh, ed, fun r hr => ?_, ⟨by simp, by simp; omega⟩, s.n1, s.n2, s.n3, s.n4, s.n5, s.n6, fun r hr => ?_, ?_, fun r hr r' hr' => ?_⟩
  · rcases List.mem_append.mp hr with hr | hr
    · have o := s.off r hr
      have o2 := s.pne hr
      exact (s.recs r hr).keep k (fun _ h => e _ _ h o2.2.2.1 o2.2.2.2.1) (fun _ h => e _ _ h o.2.1 o.2.2.1) (fun _ h => e _ _ h o.2.2.2.2.2.1 o.2.2.2.2.2.2)
    · rw [List.mem_singleton.mp hr]; exact ok
  · rcases List.mem_append.mp hr with hr | hr
    · exact s.off r hr
    · rw [List.mem_singleton.mp hr]
      exact ⟨(fr hc1).1, (fr s.hosts).1, (fr s.had).1, (fr hp).1, (fr hc1).2, (fr s.hosts).2, (fr s.had).2⟩
  · rw [List.map_append, List.nodup_append]
    refine ⟨s.sep, by simp, fun a ha b hb => ?_⟩
    obtain ⟨r, hr, rfl⟩ := List.mem_map.mp ha
    obtain ⟨⟨xs', ⟨_, h2⟩, _⟩, _⟩ := s.recs r hr
    have : b = n.l := by simpa using hb
    rw [this]
    exact (fr h2).1.symm
  · rcases List.mem_append.mp hr with hr | hr <;> rcases List.mem_append.mp hr' with hr' | hr'
    · exact s.lq r hr r' hr'
    · rw [List.mem_singleton.mp hr']
      obtain ⟨⟨xs', ⟨_, h2⟩, _⟩, _⟩ := s.recs r hr
      exact (fr h2).2.symm
    · rw [List.mem_singleton.mp hr]
      obtain ⟨_, ⟨ys, h2, _⟩, _⟩ := s.recs r' hr'
      exact (fr h2).1
    · rw [List.mem_singleton.mp hr, List.mem_singleton.mp hr']; exact nlq
/-- a host has more -/
theorem Sta.taken (s : Sta N C d c pl hs hd B R H) {B' k : Nat} (hB : B ≤ B') {r : Rec} (hk : R[k]? = some r) (q' : Addr) (ds' : List D) (fq : H q' = none) (e : ∀ b o, H b = some o → b ≠ r.l → b ≠ hd → H' b = some o)
    (ed : H' hd = some (.lst ((R.map fun r => V.ref r.q).set k (.ref q')))) (ok : RecOk N C H' B' ⟨r.p, r.l, q', ds'⟩) : Sta N C d c pl hs hd B' (R.set k ⟨r.p, r.l, q', ds'⟩) H' := by
  have hrm : r ∈ R := List.mem_of_getElem? hk
  have hkl : k < R.length := (List.getElem?_eq_some_iff.mp hk).1
  have hkr : R[k] = r := (List.getElem?_eq_some_iff.mp hk).2
  obtain ⟨⟨xr, ⟨⟨dxr, hpr⟩, hlr⟩, _⟩, ⟨yr, hqr, _⟩, _⟩ := s.recs r hrm
  have kp : Keep C H H' := ⟨fun b xs h => e b _ h (fun z => by rw [z, hlr] at h; cases h) (fun z => by rw [z, s.had] at h; cases h), fun b dx fs h => e b _ h (fun z => by rw [z, hlr] at h; cases h) (fun z => by rw [z, s.had] at h; cases h)⟩
  obtain ⟨xs, rr, hp, ip, h0, h1⟩ := s.pool
  obtain ⟨⟨r0, m, hd1⟩, ns, hn, hc1⟩ := id s.dr
  have fr : ∀ {b : Addr} {o : HO}, H b = some o → q' ≠ b := fun h => (ne_of_none h fq).symm
  have ol := s.off r hrm
  -- the others
  have oth : ∀ x ∈ R.set k ⟨r.p, r.l, q', ds'⟩, x = ⟨r.p, r.l, q', ds'⟩ ∨ (x ∈ R ∧ ∃ j, j ≠ k ∧ R[j]? = some x) := fun x hx => by
    obtain ⟨j, hj, rfl⟩ := List.mem_iff_getElem.mp hx
    rw [List.length_set] at hj
    by_cases hjk : j = k
    · subst hjk
      left; simp
    · right
      rw [List.getElem_set_ne (fun z => hjk z.symm)]
      exact ⟨List.getElem_mem hj, j, hjk, List.getElem?_eq_getElem hj⟩
  have lne : ∀ x j, j ≠ k → R[j]? = some x → x.l ≠ r.l := fun x j hjk hj z => by
    have hjl : j < R.length := (List.getElem?_eq_some_iff.mp hj).1
    have hjx : R[j] = x := (List.getElem?_eq_some_iff.mp hj).2
    have hnd := s.sep
    have hp := List.pairwise_iff_getElem.mp hnd
    rcases Nat.lt_or_gt_of_ne hjk with h | h
    · exact hp j k (by simpa using hjl) (by simpa using hkl) h (by simp [hjx, hkr, z])
    · exact hp k j (by simpa using hkl) (by simpa using hjl) h (by simp [hjx, hkr, z])
  have hmapl : (R.set k ⟨r.p, r.l, q', ds'⟩).map (·.l) = R.map (·.l) := by
    rw [List.map_set]
    show (R.map (·.l)).set k r.l = _
    have : r.l = (R.map (·.l))[k]'(by simpa using hkl) := by simp [hkr]
    rw [this, List.set_getElem_self]
  have hmapp : (R.set k ⟨r.p, r.l, q', ds'⟩).map (fun r => V.ref r.p) = R.map (fun r => V.ref r.p) := by
    rw [List.map_set]
    show (R.map (fun r => V.ref r.p)).set k (V.ref r.p) = _
    have : V.ref r.p = (R.map (fun r => V.ref r.p))[k]'(by simpa using hkl) := by simp [hkr]
    rw [this, List.set_getElem_self]
  refine ⟨⟨⟨r0, m, e _ _ hd1 (fun z => by rw [z, hlr] at hd1; cases hd1) (fun z => by rw [z, s.had] at hd1; cases hd1)⟩, ns, hn, e _ _ hc1 ol.1.symm s.n3.symm⟩, ⟨xs, rr, e _ _ hp ol.2.2.2.1.symm s.n6, IsA.keep kp (famCln (pool_mem h0 h1)) ip, h0, h1⟩, ?_, ?_, fun x hx => ?_, by rw [List.length_set]; exact s.len, s.n1, s.n2, s.n3, s.n4, s.n5, s.n6, fun x hx => ?_, ?_, fun x hx y hy => ?_⟩
  · rw [hmapp]; exact e _ _ s.hosts ol.2.1.symm s.n1
  · rw [List.map_set]; exact ed
  · rcases oth x hx with rfl | ⟨hx, j, hj, hjx⟩
    · exact ok
    · have o := s.off x hx
      have o2 := s.pne hx
      exact ((s.recs x hx).keep kp (fun _ h => e _ _ h (o2.2.2.2.2 r hrm) o2.2.2.2.1) (fun _ h => e _ _ h (lne x j hj hjx) o.2.2.1) (fun _ h => e _ _ h (s.lq r hrm x hx).symm o.2.2.2.2.2.2)).up hB
  · rcases oth x hx with rfl | ⟨hx, _⟩
    · exact ⟨ol.1, ol.2.1, ol.2.2.1, ol.2.2.2.1, fr hc1, fr s.hosts, fr s.had⟩
    · exact s.off x hx
  · rw [hmapl]; exact s.sep
  · rcases oth x hx with rfl | ⟨hx, _⟩ <;> rcases oth y hy with rfl | ⟨hy, _⟩
    · exact (fr hlr).symm
    · exact s.lq r hrm y hy
    · obtain ⟨⟨xs', ⟨_, h2⟩, _⟩, _⟩ := s.recs x hx
      exact (fr h2).symm
    · exact s.lq x hx y hy
end
end Hc

namespace Hc
open PySem PySem.Spec PyProof.Rows L2 Hr
/-- both tests of an and, neither changes the heap -/
theorem and2 {t u : TT} {σ : L2.St} {H : Hp} {Q : Bool → Hp → Prop} {b1 b2 : Bool} (h1 : ∀ k : Bool → Hp → Prop, k b1 H → t σ H k) (h2 : ∀ k : Bool → Hp → Prop, k b2 H → u σ H k) (q : Q (b1 && b2) H) : tAnd t u σ H Q := by
  refine h1 _ ?_
  cases b1 with
  | true => exact iteT (h2 _ q)
  | false => exact iteF q
theorem ixN_of {n k : Nat} (h : k < n) : ixN n (k : Int) = some k := by
  unfold ixN
  simp; omega
section
variable {P : Program} {w : World} {K : PySem.W.Frag} {mg : Str → Option Value} {base : Heap} {f : Addr} {fd : FuncData} {C N : Addr}
def spLaw (K : PySem.W.Frag) : Sp := fun vs H Q _ => ∃ (a : Addr) (ns : List Int), vs = [.ref a] ∧ SqL K H a (ns.map V.int) ∧ ns.length ≤ 1000 ∧ ∀ H', Q (.bl true) H'
def okB (n : Nat) (d : D) : Bool := cln d && txb d && decide (dep d ≤ n + 1) && decide (sz d ≤ 100 * 4 ^ n) && (places d).all (fun a => UD.any fun e => eqD e a) && okW 40 40 0 d
mutual
theorem okW_lift : ∀ {d : D} {i j : Nat}, okW 40 40 i d = true → j + dep d ≤ 40 → okW 40 40 j d = true
  | .tup ds, i, j, h, hj => by
    simp only [okW, Bool.and_eq_true, decide_eq_true_eq] at h ⊢
    simp only [dep] at hj
    exact ⟨by omega, okA_lift h.2 (by omega)⟩
  | .atom k ds, i, j, h, _ => by simp only [okW] at h ⊢; exact h
  | .non, _, _, h, _ => rfl
  | .int i, _, _, h, _ => by simp only [okW] at h ⊢; exact h
  | .str s, _, _, h, _ => by simp only [okW] at h ⊢; exact h
  | .bl _, _, _, h, _ => by simp [okW] at h
  | .lst _, _, _, h, _ => by simp [okW] at h
  | .dct, _, _, h, _ => by simp [okW] at h
theorem okA_lift : ∀ {ds : List D} {i j : Nat}, okA 40 40 i ds = true → j + depL ds ≤ 40 → okA 40 40 j ds = true
  | [], _, _, _, _ => rfl
  | d :: ds, i, j, h, hj => by
    simp only [okA, Bool.and_eq_true] at h ⊢
    simp only [depL] at hj
    exact ⟨okW_lift h.1 (by omega), okA_lift h.2 (by omega)⟩
end
theorem ok_of_B {n : Nat} {d : D} (h : okB n d = true) : Ok n d := by
  unfold okB at h
  simp only [Bool.and_eq_true, decide_eq_true_eq] at h
  refine ⟨h.1.1.1.1.1, h.1.1.1.1.2, h.1.1.1.2, h.1.1.2, fun a ha => ?_, fun j hj => okW_lift h.2 (by have := h.1.1.1.2; omega)⟩
  obtain ⟨e, he, hea⟩ := List.any_eq_true.mp (List.all_eq_true.mp h.1.2 a ha)
  rw [← eqD_eq hea]; exact he
def trT : D → D
  | .atom _ ds => .tup ds
  | d => d
theorem ok_trT {a : D} (h : a ∈ UD) : Ok 3 (trT a) := by
  have hb : (UD.all fun a => okB 3 (trT a)) = true := by decide +kernel
  exact ok_of_B (List.all_eq_true.mp hb a h)
abbrev s_law : Stmt := top 33
theorem sc_law : FnScope ["script", "draws", "pool", "hosts", "had", "turn", "k", "kind", "word", "atom", "told", "pieces", "made", "odd", "at"] ["script"] (C8.fnScope s_law) := C8.fnScope_by (by decide +kernel)
theorem fn_law (F : C8.Fun K "law" "law" s_law f fd) (b : Binds K fd ["script"] []) (T : Txt K mg w C) (G : Kno K mg N) (O : OwnE P w K mg base 3 C) (k_Knowledge : C8.Mak P w K mg base 1 "Knowledge" N (spKI N) [])
    (m_take : C8.Met P w K mg base 5 N "take" (spTake N C UD) []) (m_atoms : C8.Met P w K mg base 1 N "atoms" (spAtoms N) []) (m_copy : C8.Met P w K mg base 3 N "copy" (spCopy N) [])
    (c__law_begin : C8.Cal P w K mg base 1 "_law_begin" (fun vs H Q _ => ∃ (a : Addr) (ns : List Int), vs = [.ref a] ∧ SqL K H a (ns.map V.int) ∧ ns.length ≤ 1000 ∧ ∀ H' d c, Same H H' → H d = none → H c = none → Dr H' d c → Q (.ref d) H') [])
    (c__law_draw : C8.Cal P w K mg base 1 "_law_draw" spDraw []) (c__law_pick : C8.Cal P w K mg base 2 "_law_pick" spPick []) (c__law_pool : C8.Cal P w K mg base 7 "_law_pool" (spPool C) []) (c__law_word : C8.Cal P w K mg base 7 "_law_word" (spW C 4) [])
    (c__law_inside : C8.Cal P w K mg base 13 "_law_inside" (spIns C 9) []) (c__law_right : C8.Cal P w K mg base 14 "_law_right" (spRight N C) []) : FnOk P w K mg base C8.CX0 15 f fd ["script"] (spLaw K) := by
  refine C8.fn0 F sc_law (fun vs H Q E h => ?_) (fun cdv A outer s H vs Q E hr h => ?_)
  · obtain ⟨a, ns, rfl, _⟩ := h; rfl
  obtain ⟨a, ns, rfl, ha, hns, q⟩ := h
  refine ⟨_, (pss_cons (ps_set (i := 1) sc_law.nd rfl (Or.inl rfl) (C8.pe_c c__law_begin hr (by first | decide | omega) rfl (pa_cons (pv 0) pa_nil)))
      (pss_cons (ps_set (i := 2) sc_law.nd rfl (Or.inl rfl) (C8.pe_c c__law_pool hr (by first | decide | omega) rfl (pa_cons (pv 1) pa_nil)))
      (pss_cons (ps_set (i := 3) sc_law.nd rfl (Or.inl rfl) (pe_lst (pa_cons (pe_mk0 k_Knowledge hr (by first | decide | omega) rfl) pa_nil)))
      (pss_cons (ps_set (i := 4) sc_law.nd rfl (Or.inr rfl) (pe_lst (pa_cons (pe_lst pa_nil) pa_nil)))
      (pss_cons (ps_for PassesOwn.never rfl (pi_range1 rfl T.z_range (pa_cons (pe_op op_add pe_int (C8.pe_c c__law_draw hr (by first | decide | omega) rfl (pa_cons (pv 1) (pa_cons pe_int pa_nil)))) pa_nil)) (pg_name (i := 5) sc_law.nd rfl (Or.inl rfl))
      (pss_cons (ps_set (i := 6) sc_law.nd rfl (Or.inr rfl) (C8.pe_c c__law_draw hr (by first | decide | omega) rfl (pa_cons (pv 1) (pa_cons (pe_callB call_lenS rfl T.z_len bt_len (pa_cons (pv 3) pa_nil)) pa_nil))))
      (pss_cons (ps_set (i := 7) sc_law.nd rfl (Or.inl rfl) (C8.pe_c c__law_draw hr (by first | decide | omega) rfl (pa_cons (pv 1) (pa_cons pe_int pa_nil))))
      (C8.pss_cut (ps_if (PW.pt (pw_and (pt_cmpR op_eq (pv 7) pe_int (nomark _)) (pw_and1 (pt_cmpR op_lt (pe_callB call_lenS rfl T.z_len bt_len (pa_cons (pv 3) pa_nil)) pe_int (nomark _))))) (pss_cons (ps_expr (pe_bm PySem.F.plainAttrs_list PySem.F.slot_list_append PySem.F.type_list_append mt_append (pv 3) (pa_cons (C8.pe_mt0 m_copy hr (by first | decide | omega) (pe_ix ix_list (pv 3) (pv 6) (fun _ _ => rfl))) pa_nil)))
      (pss_one (ps_expr (pe_bm PySem.F.plainAttrs_list PySem.F.slot_list_append PySem.F.type_list_append mt_append (pv 4) (pa_cons (pe_callTy call_list_of rfl T.z_list bt_list (pa_cons (pe_ix ix_list (pv 4) (pv 6) (fun _ _ => rfl)) pa_nil)) pa_nil))))) (pss_one (ps_if (pt_cmpR op_lt (pv 7) pe_int (nomark _)) (pss_cons (ps_set (i := 8) sc_law.nd rfl (Or.inl rfl) (C8.pe_c c__law_word hr (by first | decide | omega) rfl (pa_cons (pv 1) (pa_cons (pv 2) (pa_cons pe_int pa_nil)))))
      (pss_cons (ps_if (pt_cmpR op_notN (C8.pe_mt m_take hr (by first | decide | omega) (pe_ix ix_list (pv 3) (pv 6) (fun _ _ => rfl)) (pa_cons (pv 8) pa_nil)) pe_non (nomark _)) (pss_one (ps_ret pe_bl)) pss_nil)
      (pss_one (ps_asg (pe_op op_cat (pe_ix ix_list (pv 4) (pv 6) (fun _ _ => rfl)) (pe_lc (own := [("atom", 9)]) (te := tVar 9) (tt := tTest (tOp (rInA C not) (tVar 9) (tOp (rIxL K) (tVar 4) (tVar 6)))) (g := gName 9) rfl sc_law.nd (pi_list (C8.pe_c c__law_inside hr (by first | decide | omega) rfl (pa_cons (pv 8) pa_nil))) (blkOk_by (own := [("atom", 9)]) (N := ["script", "draws", "pool", "hosts", "had", "turn", "k", "kind", "word", "atom", "told", "pieces", "made", "odd", "at"]) (sc := C8.fnScope s_law) (by decide +kernel)) (fun _ _ _ _ _ => (pg_name (i := 9) sc_law.nd rfl (Or.inl rfl))) (fun _ _ _ _ _ => (pts_one (pt_cmpR (op_notInA O (hr.mono (by decide))) (pv 9) (pe_ix ix_list (pv 4) (pv 6) (fun _ _ => rfl)) (by with_unfolding_all rfl)))) (fun _ _ _ _ _ => (pv 9)))) (pg_sub (pv 4) (pv 6) set_list))))) pss_nil)))
      (pss_cons (ps_set (i := 10) sc_law.nd rfl (Or.inl rfl) (C8.pe_mt0 m_atoms hr (by first | decide | omega) (pe_ix ix_list (pv 3) (pv 6) (fun _ _ => rfl))))
      (pss_cons (ps_expr (pe_bm PySem.F.plainAttrs_list PySem.F.slot_list_append PySem.F.type_list_append mt_append (pv 10) (pa_cons pe_int pa_nil)))
      (pss_cons (ps_set (i := 11) sc_law.nd rfl (Or.inl rfl) (pe_op op_cat (pe_op op_cat (pe_ix ix_list (pv 4) (pv 6) (fun _ _ => rfl)) (pe_lc (own := [("atom", 9)]) (te := tFld K (tVar 9) "term") (g := gName 9) rfl sc_law.nd (pi_list (pe_ix ix_list (pv 4) (pv 6) (fun _ _ => rfl))) (blkOk_by (own := [("atom", 9)]) (N := ["script", "draws", "pool", "hosts", "had", "turn", "k", "kind", "word", "atom", "told", "pieces", "made", "odd", "at"]) (sc := C8.fnScope s_law) (by decide +kernel)) (fun _ _ _ _ _ => (pg_name (i := 9) sc_law.nd rfl (Or.inl rfl))) (fun _ _ _ _ _ => pts_nil) (fun _ _ _ _ _ => (pe_fld (pv 9) rfl)))) (pe_lst (pa_cons pe_int (pa_cons pe_str pa_nil)))))
      (C8.pss_cut (ps_set (i := 12) sc_law.nd rfl (Or.inl rfl) (C8.pe_c c__law_pick hr (by first | decide | omega) rfl (pa_cons (pv 1) (pa_cons (pe_lst (pa_cons (C8.pe_c c__law_word hr (by first | decide | omega) rfl (pa_cons (pv 1) (pa_cons (pv 2) (pa_cons pe_int pa_nil)))) (pa_cons (C8.pe_c c__law_pick hr (by first | decide | omega) rfl (pa_cons (pv 1) (pa_cons (pv 11) pa_nil))) (pa_cons (pe_tup (pa_cons (C8.pe_c c__law_pick hr (by first | decide | omega) rfl (pa_cons (pv 1) (pa_cons (pv 11) pa_nil))) (pa_cons (C8.pe_c c__law_pick hr (by first | decide | omega) rfl (pa_cons (pv 1) (pa_cons (pv 11) pa_nil))) pa_nil))) pa_nil)))) pa_nil))))
      (C8.pss_cut (ps_set (i := 13) sc_law.nd rfl (Or.inl rfl) (C8.pe_c c__law_pick hr (by first | decide | omega) rfl (pa_cons (pv 1) (pa_cons (pe_lst (pa_cons (pe_lst (pa_cons pe_int pa_nil)) (pa_cons pe_bl (pa_cons pe_int (pa_cons (pe_tup (pa_cons pe_int (pa_cons pe_str pa_nil))) (pa_cons (pe_tup (pa_cons pe_non (pa_cons (pe_lst pa_nil) pa_nil))) (pa_cons pe_dnewK pa_nil))))))) pa_nil))))
      (pss_one (ps_for PassesOwn.never rfl (pi_range1 rfl T.z_range (pa_cons (pe_callB call_lenS rfl T.z_len bt_len (pa_cons (pv 3) pa_nil)) pa_nil)) (pg_name (i := 14) sc_law.nd rfl (Or.inl rfl))
      (pss_one (ps_if (pt_not (pt_val (C8.pe_c c__law_right hr (by first | decide | omega) rfl (pa_cons (pe_ix ix_list (pv 3) (pv 14) (fun _ _ => rfl)) (pa_cons (pe_ix ix_list (pv 4) (pv 14) (fun _ _ => rfl)) (pa_cons (pv 12) (pa_cons (pv 13) pa_nil))))))) (pss_one (ps_ret pe_bl)) pss_nil)))))))))))))
      (pss_one (ps_ret pe_bl))))))), ?_⟩
  refine ⟨_, rfl, a, ns, rfl, ha, hns, fun H1 d c s1 hd0 hc0 hD => ?_⟩
  refine ⟨_, rfl, d, c, rfl, hD, fun H2 pl pxs r hD2 b2 hpl hpl2 ip g0 g1 => ?_⟩
  intro p0 dx0 hp0 hdx0 hne0
  refine ⟨p0, dx0, rfl, upd_same, fun l0 hl0 => ⟨rfl, (by show 1 ≤ sizeLine; decide), fun hs hhs => ⟨(by show 0 ≤ sizeLine; decide), fun q0 hq0 => ⟨(by show 1 ≤ sizeLine; decide), fun hd hhd => ?_⟩⟩⟩⟩
  obtain ⟨H6, eH6⟩ : ∃ H6, H6 = upd (upd (upd (upd (upd (upd (upd H2 dx0 (.own p0)) p0 (.ins N dx0 [])) l0 (.lst [])) p0 (.ins N dx0 [("_atoms", .ref l0)])) hs (.lst [.ref p0])) q0 (.lst [])) hd (.lst [.ref q0]) := ⟨_, rfl⟩
  have st0 : Sta N C d c pl hs hd 0 [⟨p0, l0, q0, []⟩] H6 := by
    have sA : Same H2 (upd (upd H2 dx0 (.own p0)) p0 (.ins N dx0 [])) := same_put (same_new hdx0) hp0
    have hl2 := sA.free hl0
    have nlp : l0 ≠ p0 := fun z => by rw [z, upd_same] at hl0; cases hl0
    have sB : Same H2 (upd (upd (upd (upd H2 dx0 (.own p0)) p0 (.ins N dx0 [])) l0 (.lst [])) p0 (.ins N dx0 [("_atoms", .ref l0)])) := same_put (same_put sA hl2) hp0
    have eB1 : (upd (upd (upd (upd H2 dx0 (.own p0)) p0 (.ins N dx0 [])) l0 (.lst [])) p0 (.ins N dx0 [("_atoms", .ref l0)])) p0 = some (.ins N dx0 [("_atoms", .ref l0)]) := upd_same
    have eB2 : (upd (upd (upd (upd H2 dx0 (.own p0)) p0 (.ins N dx0 [])) l0 (.lst [])) p0 (.ins N dx0 [("_atoms", .ref l0)])) l0 = some (.lst []) := by rw [upd_ne nlp]; exact upd_same
    generalize (upd (upd (upd (upd H2 dx0 (.own p0)) p0 (.ins N dx0 [])) l0 (.lst [])) p0 (.ins N dx0 [("_atoms", .ref l0)])) = HB at hhs hq0 hhd sB eB1 eB2 eH6
    have sC := same_new (o := .lst [.ref p0]) hhs
    have eC : (upd HB hs (.lst [.ref p0])) hs = some (.lst [.ref p0]) := upd_same
    have sD := same_new (o := .lst []) hq0
    have eD : (upd (upd HB hs (.lst [.ref p0])) q0 (.lst [])) q0 = some (.lst []) := upd_same
    have sE := same_new (o := .lst [.ref q0]) hhd
    have eE : (upd (upd (upd HB hs (.lst [.ref p0])) q0 (.lst [])) hd (.lst [.ref q0])) hd = some (.lst [.ref q0]) := upd_same
    rw [← eH6] at sE eE
    have sBE := (sC.trans sD).trans sE
    have s2E := sB.trans sBE
    have hoffh := hD2.off (sB.free hhs)
    have hoffq := hD2.off ((sB.trans sC).free hq0)
    have hoffd := hD2.off (((sB.trans sC).trans sD).free hhd)
    have hoffl := hD2.off hl2
    have nhl : l0 ≠ hs := ne_of_none eB2 hhs
    have nql : l0 ≠ q0 := ne_of_none (sC _ _ eB2) hq0
    have ndl : l0 ≠ hd := ne_of_none (sD _ _ (sC _ _ eB2)) hhd
    have nqh : hs ≠ q0 := ne_of_none eC hq0
    have ndh : hs ≠ hd := ne_of_none (sD _ _ eC) hhd
    have ndq : q0 ≠ hd := ne_of_none eD hhd
    have npl : pl ≠ l0 := ne_of_none hpl2 hl2
    have nph : pl ≠ hs := ne_of_none hpl2 (sB.free hhs)
    have npd : pl ≠ hd := ne_of_none hpl2 (((sB.trans sC).trans sD).free hhd)
    have npc : pl ≠ c := (hD.off hpl).2
    refine ⟨hD2.same s2E, ⟨pxs, r, s2E _ _ hpl2, ip.same s2E, g0, g1⟩, sE _ _ (sD _ _ eC), eE, fun x hx => ?_, ⟨(by show 1 ≤ 1; decide), (by show 1 ≤ 3; decide)⟩, ndh, hoffh.2, hoffd.2, npc, nph, npd, fun x hx => ?_, by simp, fun x hx y hy => ?_⟩
    · rw [List.mem_singleton.mp hx]
      exact ⟨⟨[], ⟨⟨dx0, sBE _ _ eB1⟩, sBE _ _ eB2⟩, .nil⟩, ⟨[], sE _ _ eD, .nil⟩, fun a ha => (by cases ha), (by show 0 ≤ 0; decide)⟩
    · rw [List.mem_singleton.mp hx]
      exact ⟨hoffl.2, nhl, ndl, npl.symm, hoffq.2, nqh.symm, ndq⟩
    · rw [List.mem_singleton.mp hx, List.mem_singleton.mp hy]; exact nql
  show _
  rw [← eH6]
  clear eH6 hq0 hhs hhd hl0 hp0 hdx0 ip hpl hpl2 b2 hD2
  refine ⟨_, rfl, d, c, 13, rfl, st0.dr, by decide, by decide, fun H7 rr hD7 b7 e0 e1 => ⟨_, _, rfl, rfl, _, rfl, by omega, by omega, ?_⟩⟩
  refine for_it walk_range (fun i σ H' => ∃ v5 v6 v7 v8 v10 v11 v12 v13 v14, σ = [some (.ref a), some (.ref d), some (.ref pl), some (.ref hs), some (.ref hd), v5, v6, v7, v8, none, v10, v11, v12, v13, v14] ∧ ∃ R, Sta N C d c pl hs hd (7000 * i) R H') ⟨none, none, none, none, none, none, none, none, none, rfl, _, st0.bu2 hD7 b7⟩ (fun _ _ _ _ _ => trivial) ?_ ?_
  · rintro i x σ Ha Hb hi ⟨v5, v6, v7, v8, v10, v11, v12, v13, v14, rfl, R, st⟩ ⟨rfl, rfl⟩
    clear st0 hD7 b7
    have hi15 : i < 15 := by omega
    refine ⟨_, rfl, _, rfl, hs, _, rfl, .inl (SqL.of st.hosts), d, c, _, rfl, st.dr, by have := st.len; simp; omega, by have := st.len; simp; omega, fun H8 kk hD8 b8 k0 k1 => ?_⟩
    have st8 := st.bu2 hD8 b8
    clear st
    refine ⟨_, rfl, d, c, 4, rfl, st8.dr, by decide, by decide, fun H9 kd hD9 b9 kd0 kd1 => ?_⟩
    have st9 := st8.bu2 hD9 b9
    clear st8 hD8 b8 hD9 b9
    obtain ⟨kn, hkn⟩ : ∃ kn : Nat, kk = (kn : Int) := ⟨kk.toNat, by omega⟩
    subst hkn
    have hkR : kn < R.length := by simp at k1; omega
    obtain ⟨rc, hrc⟩ : ∃ rc, R[kn]? = some rc := ⟨_, List.getElem?_eq_getElem hkR⟩
    have atp : ∀ {R' : List Rec} {j : Nat} {x : Rec}, R'[j]? = some x → atI (R'.map fun r => V.ref r.p) (j : Int) = some (.ref x.p) := fun h => atI_nat (by rw [List.getElem?_map, h]; rfl)
    have atq : ∀ {R' : List Rec} {j : Nat} {x : Rec}, R'[j]? = some x → atI (R'.map fun r => V.ref r.q) (j : Int) = some (.ref x.q) := fun h => atI_nat (by rw [List.getElem?_map, h]; rfl)
    refine ⟨fun σ H' => ∃ v5 v7 v8 v10 v11 v12 v13 v14, σ = [some (.ref a), some (.ref d), some (.ref pl), some (.ref hs), some (.ref hd), v5, some (.int (kn : Int)), v7, v8, none, v10, v11, v12, v13, v14] ∧ ∃ R, kn < R.length ∧ Sta N C d c pl hs hd (7000 * (i + 1)) R H', ?_, ?_⟩
    · obtain ⟨⟨xs, kn9, ix9⟩, ⟨ys, hq9, iy9⟩, hU9, hB9⟩ := st9.recs rc (List.mem_of_getElem? hrc)
      obtain ⟨⟨dxp, hp9⟩, hl9⟩ := id kn9
      have hrm := List.mem_of_getElem? hrc
      have hoff9 := st9.off rc hrm
      refine and2 (b1 := decide (V.int kd = V.int 0)) (b2 := decide (((R.map fun r => V.ref r.p).length : Int) < 3)) (fun k h => ⟨_, rfl, rfl, _, rfl, h⟩) (fun k h => ⟨_, rfl, hs, _, rfl, .inl (SqL.of st9.hosts), _, _, rfl, rfl, _, rfl, h⟩) (bcase (fun hb => ?_) (fun hb => ?_))
      · rw [Bool.and_eq_true, decide_eq_true_eq, decide_eq_true_eq] at hb
        have hR3 : R.length < 3 := by have := hb.2; simp at this; omega
        refine ⟨_, rfl, .inl ⟨rfl, _, SqL.of st9.hosts⟩, ?_⟩
        refine ⟨_, rfl, _, rfl, hs, _, _, _, rfl, rfl, SqL.of st9.hosts, atp hrc, rc.p, dxp, _, rfl, hp9, n_cp1, rc.p, rc.l, xs, rfl, kn9, fun Ha p' l' sa hp' hl' kn' => ?_⟩
        have hlen9 := st9.len
        refine ⟨hs, _, _, rfl, rfl, sa _ _ st9.hosts, small1000 (by simp; omega), ?_⟩
        have ehb : (upd Ha hs (.lst (R.map (fun r => V.ref r.p) ++ [.ref p']))) hs = some (.lst (R.map (fun r => V.ref r.p) ++ [.ref p'])) := upd_same
        have eb : ∀ b o, H9 b = some o → b ≠ hs → (upd Ha hs (.lst (R.map (fun r => V.ref r.p) ++ [.ref p']))) b = some o := fun b o h n => by rw [upd_ne n]; exact sa b o h
        obtain ⟨⟨dxn, hpn⟩, hln⟩ := kn'
        have np' : p' ≠ hs := (ne_of_none st9.hosts hp').symm
        have nl' : l' ≠ hs := (ne_of_none st9.hosts hl').symm
        have hpn2 : (upd Ha hs (.lst (R.map (fun r => V.ref r.p) ++ [.ref p']))) p' = some (.ins N dxn [("_atoms", .ref l')]) := by rw [upd_ne np']; exact hpn
        have hln2 : (upd Ha hs (.lst (R.map (fun r => V.ref r.p) ++ [.ref p']))) l' = some (.lst xs) := by rw [upd_ne nl']; exact hln
        generalize upd Ha hs (.lst (R.map (fun r => V.ref r.p) ++ [.ref p'])) = Hb at ehb eb hpn2 hln2 ⊢
        have hdb := eb _ _ st9.had st9.n1.symm
        refine ⟨_, rfl, .inl ⟨rfl, _, SqL.of hdb⟩, ?_⟩
        refine ⟨_, rfl, _, rfl, hd, _, _, _, rfl, rfl, SqL.of hdb, atq hrc, rc.q, ys, rfl, .inl (SqL.of (eb _ _ hq9 hoff9.2.2.2.2.2.1)), fun q' hq' => ?_⟩
        have nqd : q' ≠ hd := (ne_of_none hdb hq').symm
        refine ⟨hd, _, _, rfl, rfl, same_new hq' _ _ hdb, small1000 (by simp; omega), ?_⟩
        have e : ∀ b o, H9 b = some o → b ≠ hs → b ≠ hd → (upd (upd Hb q' (.lst ys)) hd (.lst (R.map (fun r => V.ref r.q) ++ [.ref q']))) b = some o := fun b o h n1 n2 => by
          have h2 := eb b o h n1
          rw [upd_ne n2, upd_ne (ne_of_none h2 hq')]; exact h2
        have kp : Keep C H9 (upd (upd Hb q' (.lst ys)) hd (.lst (R.map (fun r => V.ref r.q) ++ [.ref q']))) := ⟨fun b xs h => e b _ h (fun z => by rw [z, st9.hosts] at h; cases h) (fun z => by rw [z, st9.had] at h; cases h), fun b dx fs h => e b _ h (fun z => by rw [z, st9.hosts] at h; cases h) (fun z => by rw [z, st9.had] at h; cases h)⟩
        have hq0 : H9 q' = none := by
          cases hh : H9 q' with
          | none => rfl
          | some o =>
            by_cases z : q' = hs
            · rw [z, ehb] at hq'; cases hq'
            · rw [eb _ _ hh z] at hq'; cases hq'
        have npq : p' ≠ q' := ne_of_none hpn2 hq'
        have nlq : l' ≠ q' := ne_of_none hln2 hq'
        have npd : p' ≠ hd := (ne_of_none st9.had hp').symm
        have nld : l' ≠ hd := (ne_of_none st9.had hl').symm
        refine ⟨_, _, v8, v10, v11, v12, v13, v14, rfl, R ++ [⟨p', l', q', rc.ds⟩], by simp; omega, ?_⟩
        refine (st9.more hR3 ⟨p', l', q', rc.ds⟩ hl' hq0 nlq e ?_ ?_ ⟨⟨xs, ⟨⟨dxn, ?_⟩, ?_⟩, IsA.keep kp (famCln hU9) ix9⟩, ⟨ys, ?_, IsA.keep kp (famCln hU9) iy9⟩, hU9, hB9⟩).up (by omega)
        · rw [upd_ne st9.n1, upd_ne (ne_of_none ehb hq'), ehb]; simp
        · rw [upd_same]; simp
        · show _ = _
          rw [upd_ne npd, upd_ne npq]; exact hpn2
        · show _ = _
          rw [upd_ne nld, upd_ne nlq]; exact hln2
        · show _ = _
          rw [upd_ne nqd]; exact upd_same
      · refine ⟨_, rfl, _, _, rfl, rfl, _, rfl, ite2 (fun hk3 => ?_) (fun hk3 => ?_)⟩
        · obtain ⟨pxs, r0, hpl9, ip9, r00, r01⟩ := st9.pool
          have hpxl := ip9.len
          have hpl13 : (poolD r0).length = 13 := rfl
          refine ⟨_, rfl, _, rfl, d, c, pl, 3, pxs, poolD r0, rfl, by decide, st9.dr, hpl9, st9.n4, ip9, pool_mem r00 r01, by omega, by omega, fun Ha v wd hDa ba iv hw => ?_⟩
          have sta := st9.bu2 hDa ba
          have okw := hw.ok
          have iv' := iv
          clear st9 kn9 ix9 hq9 iy9 hp9 hl9 xs ys hpl9 ip9 hpxl pxs
          obtain ⟨⟨xs, kn9, ix9⟩, ⟨ys, hq9, iy9⟩, _, _⟩ := sta.recs rc hrm
          obtain ⟨⟨dxp, hp9⟩, hl9⟩ := id kn9
          refine ⟨_, rfl, _, rfl, hs, _, _, _, rfl, rfl, SqL.of sta.hosts, atp hrc, rc.p, dxp, _, rfl, hp9, n_tk1, _, rfl, rc.p, rc.l, v, xs, rc.ds, wd, rfl, kn9, ix9, iv, okw.fit (by decide), famUD, hU9, okw.pl, by omega, fun Hb ys' but hlb ixb => ?_⟩
          refine ⟨rfl, _, rfl, iteF ?_⟩
          have hoff := sta.off rc hrm
          have kab : Keep C Ha Hb := But.keep hl9 but
          have hdb := but _ _ sta.had hoff.2.2.1.symm
          have hqb := but _ _ hq9 (sta.lq rc hrm rc hrm).symm
          have iyb := IsA.keep kab (famCln hU9) iy9
          have ivb := Is.keep kab okw.cl iv
          refine ⟨_, rfl, _, rfl, hd, _, _, _, rfl, rfl, SqL.of hdb, atq hrc, ?_⟩
          refine ⟨_, rfl, v, wd, rfl, ivb, okw.cl, by have := okw.dp; omega, Nat.le_trans okw.sz (by decide), okw.pl, fun Hc p3 ps s3 hpn hp3 ip => ?_⟩
          refine ⟨p3, rfl, ⟨ps, SqL.of hp3⟩, fun Dl hDl => ?_⟩
          have hpl := ip.len
          have hpU : ∀ a ∈ addAll [] (places wd), a ∈ UD := fun a ha => by
            rcases addAll_mem ha with ha | ha
            · cases ha
            · exact okw.pl a ha
          have hplb : (addAll [] (places wd)).length ≤ 6400 := by
            have h1 := addAll_len (places wd) []
            have h2 := places_len wd
            have h3 := okw.sz
            have h4 : 100 * 4 ^ 3 = 6400 := by decide
            simp at h1
            omega
          have hdc := s3 _ _ hdb
          have hqc := s3 _ _ hqb
          have iyc := iyb.same s3
          refine lc_it (walk_list (xs := ps)) (fun j H4 => Same Hc H4 ∧ ∃ acc, H4 Dl = some (.lst acc) ∧ IsA C H4 acc (((addAll [] (places wd)).take j).filter (ni rc.ds))) ⟨same_new hDl, [], upd_same, .nil⟩ (fun j H4 _ h => SqL.of (h.1 _ _ hp3)) ?_ ?_
          · rintro j z H4 H5 hj ⟨s4, acc, hz4, ia⟩ ⟨rfl, hz'⟩
            obtain ⟨e, he, hze⟩ := ip.at hz'
            have heU := hpU e (List.mem_of_getElem? he)
            refine ⟨rfl, ?_⟩
            refine ⟨_, rfl, _, rfl, _, rfl, hd, _, _, _, rfl, rfl, SqL.of (s4 _ _ hdc), atq hrc, rc.q, ys, _, e, rfl, s4 _ _ hqc, iyc.same s4, hze.same s4, (famUD e heU).1, fun f hf => ⟨(famUD f (hU9 f hf)).1, (famUD f (hU9 f hf)).2.2 e heU⟩, fun H6 s6 => ⟨_, rfl, ?_⟩⟩
            have hfilt : ((addAll [] (places wd)).take (j + 1)).filter (ni rc.ds) = ((addAll [] (places wd)).take j).filter (ni rc.ds) ++ [e].filter (ni rc.ds) := by
              rw [List.take_add_one, he, List.filter_append]; rfl
            rw [hfilt]
            show (if ni rc.ds e = true then _ else _)
            have hal : acc.length ≤ 6400 := by
              rw [ia.len]
              refine Nat.le_trans (List.length_filter_le _ _) ?_
              rw [List.length_take]; omega
            cases hni : ni rc.ds e with
            | false =>
              refine iteF ⟨s4.trans s6, acc, s6 _ _ hz4, ?_⟩
              rw [List.filter_cons_of_neg (by rw [hni]; exact Bool.false_ne_true), List.filter_nil, List.append_nil]
              exact ia.same s6
            | true =>
              refine iteT ⟨_, rfl, acc, s6 _ _ hz4, Nat.lt_of_lt_of_le (show acc.length < 1000001 by omega) (by decide), same_put (s4.trans s6) hDl, _, upd_same, ?_⟩
              rw [List.filter_cons_of_pos hni, List.filter_nil]
              exact app_step (s6 _ _ hz4) (ia.same s6) ((hze.same s4).same s6) (famCln fun e he => hpU e (List.mem_of_mem_take (List.mem_filter.mp he).1)) (famUD e heU).2.1
          · rintro H4 ⟨s4, acc, hz4, ia⟩
            rw [List.take_of_length_le (l := addAll [] (places wd)) (i := ps.length) (by omega)] at ia
            have hal : acc.length ≤ 6400 := by
              rw [ia.len]
              exact Nat.le_trans (List.length_filter_le _ _) hplb
            have hyl := iyc.len
            refine ⟨rc.q, Dl, ys, acc, rfl, rfl, s4 _ _ hqc, hz4, Nat.le_trans (show _ ≤ 1000000 by omega) (by decide), fun q' hq' => ?_⟩
            have sq := same_new (o := .lst (ys ++ acc)) hq'
            have hd4 := s4 _ _ hdc
            have nqd : q' ≠ hd := (ne_of_none hd4 hq').symm
            refine ⟨_, rfl, _, rfl, hd, _, _, kn, rfl, rfl, sq _ _ hd4, ixN_of (by simpa using hkR), ?_⟩
            have s34 := s3.trans s4
            have e : ∀ b o, Ha b = some o → b ≠ rc.l → b ≠ hd → (upd (upd H4 q' (.lst (ys ++ acc))) hd (.lst ((R.map fun r => V.ref r.q).set kn (.ref q')))) b = some o := fun b o h n1 n2 => by
              rw [upd_ne n2]; exact sq _ _ (s34 _ _ (but b o h n1))
            have hl4 : H4 rc.l = some (.lst ys') := s34 _ _ hlb
            have hq0 : Ha q' = none := by
              cases hh : Ha q' with
              | none => rfl
              | some o =>
                by_cases z : q' = rc.l
                · rw [z, hl4] at hq'; cases hq'
                · rw [s34 _ _ (but _ _ hh z)] at hq'; cases hq'
            have kh : Keep C H4 (upd (upd H4 q' (.lst (ys ++ acc))) hd (.lst ((R.map fun r => V.ref r.q).set kn (.ref q')))) := (Keep.of sq).trans (Keep.lst (sq _ _ hd4))
            have hnU : ∀ a ∈ addAll rc.ds (places wd), a ∈ UD := fun a ha => by
              rcases addAll_mem ha with ha | ha
              · exact hU9 a ha
              · exact okw.pl a ha
            have hpne := sta.pne hrm
            refine ⟨_, _, _, v10, v11, v12, v13, v14, rfl, R.set kn ⟨rc.p, rc.l, q', addAll rc.ds (places wd)⟩, by rw [List.length_set]; exact hkR, ?_⟩
            refine sta.taken (by omega) hrc q' (addAll rc.ds (places wd)) hq0 e upd_same ⟨⟨ys', ⟨⟨dxp, ?_⟩, ?_⟩, ?_⟩, ⟨ys ++ acc, ?_, ?_⟩, hnU, ?_⟩
            · exact e _ _ hp9 (hpne.2.2.2.2 rc hrm) hpne.2.2.2.1
            · show _ = _
              rw [upd_ne hoff.2.2.1]; exact sq _ _ hl4
            · exact IsA.keep kh (famCln hnU) ((ixb.same s34))
            · show _ = _
              rw [upd_ne nqd]; exact upd_same
            · show IsA C _ _ (addAll rc.ds (places wd))
              rw [addAll_eq rc.ds (places wd)]
              refine IsA.keep kh ?_ ((iyc.same s4).app ia)
              rw [← addAll_eq]; exact famCln hnU
            · show (addAll rc.ds (places wd)).length ≤ _
              have h1 := addAll_len (places wd) rc.ds
              have h2 := places_len wd
              have h3 := okw.sz
              have h4 : 100 * 4 ^ 3 = 6400 := by decide
              omega
        · exact ⟨_, _, v8, v10, v11, v12, v13, v14, rfl, R, hkR, st9.up (by omega)⟩
    · clear atp atq hrc rc hkR k1 k0 st9 kd0 kd1 kd
      rintro σ Hm ⟨v5, v7, v8, v10, v11, v12, v13, v14, rfl, R, hkR, st⟩
      obtain ⟨rc, hrc⟩ : ∃ rc, R[kn]? = some rc := ⟨_, List.getElem?_eq_getElem hkR⟩
      have atp : ∀ {R' : List Rec} {j : Nat} {x : Rec}, R'[j]? = some x → atI (R'.map fun r => V.ref r.p) (j : Int) = some (.ref x.p) := fun h => atI_nat (by rw [List.getElem?_map, h]; rfl)
      have atq : ∀ {R' : List Rec} {j : Nat} {x : Rec}, R'[j]? = some x → atI (R'.map fun r => V.ref r.q) (j : Int) = some (.ref x.q) := fun h => atI_nat (by rw [List.getElem?_map, h]; rfl)
      have hrm := List.mem_of_getElem? hrc
      obtain ⟨⟨xs, kn9, ix9⟩, ⟨ys, hq9, iy9⟩, hU9, hB9⟩ := st.recs rc hrm
      obtain ⟨⟨dxp, hp9⟩, hl9⟩ := id kn9
      have hxl := ix9.len
      have hyl := iy9.len
      refine ⟨_, rfl, _, rfl, hs, _, _, _, rfl, rfl, SqL.of st.hosts, atp hrc, rc.p, dxp, _, rfl, hp9, n_at1, rc.p, rc.l, xs, rfl, kn9, fun m hm => ?_⟩
      refine ⟨_, rfl, .inl ⟨rfl, _, SqL.of upd_same⟩, m, xs, .int 5, rfl, rfl, upd_same, Nat.lt_of_lt_of_le (show xs.length < 1000001 by omega) (by decide), ?_⟩
      have sm : Same Hm (upd (upd Hm m (.lst xs)) m (.lst (xs ++ [.int 5]))) := same_put (same_new hm) hm
      generalize upd (upd Hm m (.lst xs)) m (.lst (xs ++ [.int 5])) = Hn at sm ⊢
      have stn := st.same sm
      have hqn := sm _ _ hq9
      have iyn := iy9.same sm
      clear st kn9 ix9 hq9 iy9 hp9 hl9
      -- pieces
      refine ⟨_, rfl, _, rfl, hd, _, _, _, rfl, rfl, SqL.of stn.had, atq hrc, ?_⟩
      refine ⟨_, rfl, _, rfl, hd, _, _, _, rfl, rfl, SqL.of stn.had, atq hrc, rc.q, rfl, ⟨ys, SqL.of hqn⟩, fun Dl hDl => ?_⟩
      refine lc_it (walk_list (xs := ys)) (fun j H4 => Same Hn H4 ∧ ∃ acc, H4 Dl = some (.lst acc) ∧ IsA C H4 acc ((rc.ds.take j).map trT)) ⟨same_new hDl, [], upd_same, .nil⟩ (fun j H4 _ h => SqL.of (h.1 _ _ hqn)) ?_ ?_
      · rintro j z H4 H5 hj ⟨s4, acc, hz4, ia⟩ ⟨rfl, hz'⟩
        obtain ⟨e, he, hze⟩ := iyn.at hz'
        have heU := hU9 e (List.mem_of_getElem? he)
        obtain ⟨k, gs, rfl⟩ := (famUD e heU).1.1
        have hal := ia.len
        have hcl : clnL ((rc.ds.take j).map trT) = true := clnL_iff.mpr fun x hx => by
          obtain ⟨y, hy, rfl⟩ := List.mem_map.mp hx
          exact (ok_trT (hU9 y (List.mem_of_mem_take hy))).cl
        cases hze with
        | @atom a1 dx1 t1 _ ts _ u1 w1 i1 =>
          refine ⟨rfl, yes ?_⟩
          refine ⟨_, rfl, a1, C, dx1, _, _, rfl, s4 _ _ u1, T.cl.cl, T.cl.nT, rfl, acc, hz4, Nat.lt_of_lt_of_le (show acc.length < 1000001 by rw [hal, List.length_map, List.length_take]; omega) (by decide), same_put s4 hDl, _, upd_same, ?_⟩
          rw [List.take_add_one, he, List.map_append]
          exact app_step hz4 ia (.tup (s4 _ _ w1) (i1.same s4)) hcl (ok_trT heU).cl
      · rintro H4 ⟨s4, acc, hz4, ia⟩
        rw [List.take_of_length_le (l := rc.ds) (i := ys.length) (by omega)] at ia
        have hal := ia.len
        rw [List.length_map] at hal
        refine ⟨rc.q, Dl, ys, acc, rfl, rfl, s4 _ _ hqn, hz4, Nat.le_trans (show _ ≤ 1000000 by omega) (by decide), fun r1 hr1 => ⟨(by show 2 ≤ sizeLine; decide), fun u hu => ?_⟩⟩
        have sr := same_new (o := .lst (ys ++ acc)) hr1
        have su := same_new (o := .lst [.int 3, .str "x"]) hu
        refine ⟨r1, u, _, _, rfl, rfl, su _ _ upd_same, upd_same, Nat.le_trans (show _ ≤ 1000000 by simp; omega) (by decide), fun pc hpc => ?_⟩
        have sp := same_new (o := .lst (ys ++ acc ++ [.int 3, .str "x"])) hpc
        have s5 := (((s4.trans sr).trans su).trans sp)
        have ipc := ((iyn.same s5).app (ia.same ((sr.trans su).trans sp))).app (.cons (.int 3) (.cons (.str "x") .nil))
        have hpcs : (upd (upd (upd H4 r1 (.lst (ys ++ acc))) u (.lst [.int 3, .str "x"])) pc (.lst (ys ++ acc ++ [.int 3, .str "x"]))) pc = some (.lst (ys ++ acc ++ [.int 3, .str "x"])) := upd_same
        have stp := stn.same s5
        have hpco := (stn.same ((s4.trans sr).trans su)).dr.off hpc
        show _
        generalize (upd (upd (upd H4 r1 (.lst (ys ++ acc))) u (.lst [.int 3, .str "x"])) pc (.lst (ys ++ acc ++ [.int 3, .str "x"]))) = Hv at ipc hpcs stp ⊢
        have hpl : (ys ++ acc ++ [V.int 3, V.str "x"]).length ≤ 300000 := by simp; omega
        have hpl0 : 0 < (ys ++ acc ++ [V.int 3, V.str "x"]).length := by simp; omega
        have okp : ∀ e ∈ rc.ds ++ rc.ds.map trT ++ [.int 3, .str "x"], Ok 3 e := fun e he => by
          rcases List.mem_append.mp he with he | he
          · rcases List.mem_append.mp he with he | he
            · exact (ok_leaf (.inr (.inr (.inr (.inr (hU9 e he)))))).up (by decide)
            · obtain ⟨y, hy, rfl⟩ := List.mem_map.mp he
              exact ok_trT (hU9 y hy)
          · rcases List.mem_cons.mp he with rfl | he
            · exact ok_of_B (by decide +kernel)
            · rw [List.mem_singleton.mp he]; exact ok_of_B (by decide +kernel)
        generalize (ys ++ acc ++ [V.int 3, V.str "x"]) = pcs at ipc hpcs hpl hpl0
        generalize rc.ds ++ rc.ds.map trT ++ [D.int 3, D.str "x"] = pds at ipc okp
        clear hyl hxl hU9 hB9 iyn hqn hm sm hal ia hz4 acc s4 stn hr1 sr hu su hpc sp s5 hDl
        refine ⟨fun σ H' => ∃ v v5 v7 v8 v10 v11 v13 v14, σ = [some (.ref a), some (.ref d), some (.ref pl), some (.ref hs), some (.ref hd), v5, some (.int (kn : Int)), v7, v8, none, v10, v11, some v, v13, v14] ∧ Sta N C d c pl hs hd (7000 * (i + 1)) R H' ∧ ∃ w, Is C H' v w ∧ Ok 4 w, ?_, ?_⟩
        · obtain ⟨pxs, r0, hplv, ipv, r00, r01⟩ := stp.pool
          have hpxl := ipv.len
          have hpl13 : (poolD r0).length = 13 := rfl
          have hclp : clnL pds = true := clnL_iff.mpr fun e he => (okp e he).cl
          refine ⟨_, rfl, ?_⟩
          refine ⟨_, rfl, _, rfl, d, c, pl, 3, pxs, poolD r0, rfl, by decide, stp.dr, hplv, stp.n4, ipv, pool_mem r00 r01, by omega, by omega, fun Ha v w1 hDa ba iv hw => ?_⟩
          have sta := stp.bu2 hDa ba
          have hpa := ba _ _ hpcs hpco.1 hpco.2
          have ipa := IsA.keep (stp.dr.keep ba) hclp ipc
          have ok1 := hw.ok
          refine ⟨_, rfl, _, rfl, d, c, pc, pcs, rfl, hDa, hpa, hpco.2, hpl0, by omega, fun Hb i2 x2 hDb bb hx2 => ?_⟩
          have stb := sta.bu2 hDb bb
          have hpb := bb _ _ hpa hpco.1 hpco.2
          have kab := sta.dr.keep (C := C) bb
          have ipb := IsA.keep kab hclp ipa
          have iv1b := Is.keep kab ok1.cl iv
          obtain ⟨w2, hw2, iw2⟩ := ipb.at hx2
          have ok2 := okp w2 (List.mem_of_getElem? hw2)
          refine ⟨_, rfl, _, rfl, d, c, pc, pcs, rfl, hDb, hpb, hpco.2, hpl0, by omega, fun Hc i3 x3 hDc bc hx3 => ?_⟩
          have stc := stb.bu2 hDc bc
          have hpc' := bc _ _ hpb hpco.1 hpco.2
          have kbc := stb.dr.keep (C := C) bc
          have ipc' := IsA.keep kbc hclp ipb
          have iv1c := Is.keep kbc ok1.cl iv1b
          have iv2c := Is.keep kbc ok2.cl iw2
          obtain ⟨w3, hw3, iw3⟩ := ipc'.at hx3
          have ok3 := okp w3 (List.mem_of_getElem? hw3)
          refine ⟨_, rfl, _, rfl, d, c, pc, pcs, rfl, hDc, hpc', hpco.2, hpl0, by omega, fun Hd i4 x4 hDd bd hx4 => ?_⟩
          have std := stc.bu2 hDd bd
          have kcd := stc.dr.keep (C := C) bd
          have ipd := IsA.keep kcd hclp ipc'
          have iv1d := Is.keep kcd ok1.cl iv1c
          have iv2d := Is.keep kcd ok2.cl iv2c
          have iv3d := Is.keep kcd ok3.cl iw3
          obtain ⟨w4, hw4, iw4⟩ := ipd.at hx4
          have ok4 := okp w4 (List.mem_of_getElem? hw4)
          refine ⟨(by show 2 ≤ sizeLine; decide), fun u hu => ⟨(by show 3 ≤ sizeLine; decide), fun l hl => ?_⟩⟩
          have su := same_new (o := .tup [x3, x4]) hu
          have sl := same_new (o := .lst [v, x2, .ref u]) hl
          have it := (new_tup hu (.cons iv3d (.cons iw4 .nil))).same sl
          have s6 := su.trans sl
          have stl := std.same s6
          have hlo := (std.same su).dr.off hl
          refine ⟨d, c, l, _, rfl, stl.dr, upd_same, hlo.2, (by show 0 < 3; decide), (by show 3 < 1000000; decide), fun He i5 x5 hDe be hx5 => ?_⟩
          have ste := stl.bu2 hDe be
          have ke := stl.dr.keep (C := C) be
          have okt : Ok 4 (.tup [w3, w4]) := ok_tup (by simp) fun e he => by
            rcases List.mem_cons.mp he with rfl | he
            · exact ok3
            · rw [List.mem_singleton.mp he]; exact ok4
          refine ⟨x5, _, _, _, _, _, _, _, rfl, ste, ?_⟩
          rcases (show i5 = 0 ∨ i5 = 1 ∨ i5 = 2 ∨ 3 ≤ i5 by omega) with rfl | rfl | rfl | h3
          · cases hx5; exact ⟨w1, Is.keep ke ok1.cl (iv1d.same s6), ok1.up (by decide)⟩
          · cases hx5; exact ⟨w2, Is.keep ke ok2.cl (iv2d.same s6), ok2.up (by decide)⟩
          · cases hx5; exact ⟨_, Is.keep ke okt.cl it, okt⟩
          · rw [List.getElem?_eq_none (by simpa using h3)] at hx5; cases hx5
        · clear okp ipc hpcs stp hpl hpl0 hpco pcs pds atp atq hrm rc hrc
          rintro σ Hw ⟨v, v5, v7, v8, v10, v11, v13, v14, rfl, st, w1, iv, okw⟩
          refine ⟨fun σ H' => ∃ v o v5 v7 v8 v10 v11 v14, σ = [some (.ref a), some (.ref d), some (.ref pl), some (.ref hs), some (.ref hd), v5, some (.int (kn : Int)), v7, v8, none, v10, v11, some v, some o, v14] ∧ Sta N C d c pl hs hd (7000 * (i + 1)) R H' ∧ (∃ w, Is C H' v w ∧ Ok 4 w) ∧ ∃ e, Is C H' o e ∧ Fit e ∧ okW 40 40 0 e = false, ?_, ?_⟩
          · refine ⟨_, rfl, (by show 1 ≤ sizeLine; decide), fun u1 h1 => ⟨(by show 2 ≤ sizeLine; decide), fun u2 h2 => ⟨(by show 0 ≤ sizeLine; decide), fun u3 h3 => ⟨(by show 2 ≤ sizeLine; decide), fun u4 h4 u5 h5 => ⟨(by show 6 ≤ sizeLine; decide), fun l hl => ?_⟩⟩⟩⟩⟩
            have q1 := same_new (o := .lst [.int 1]) h1
            have q2 := same_new (o := .tup [.int 1, .str "\n"]) h2
            have q3 := same_new (o := .lst []) h3
            have q4 := same_new (o := .tup [.non, .ref u3]) h4
            have q5 := same_new (o := .dK []) h5
            have q6 := same_new (o := .lst [.ref u1, .bl true, .int 2147483648, .ref u2, .ref u4, .ref u5]) hl
            have t1 : (upd Hw u1 (.lst [.int 1])) u1 = some (.lst [.int 1]) := upd_same
            have o1 := st.dr.off h1
            have t2 : (upd (upd Hw u1 (.lst [.int 1])) u2 (.tup [.int 1, .str "\n"])) u2 = some (.tup [.int 1, .str "\n"]) := upd_same
            have o2 := (st.same q1).dr.off h2
            have t3 : (upd (upd (upd Hw u1 (.lst [.int 1])) u2 (.tup [.int 1, .str "\n"])) u3 (.lst [])) u3 = some (.lst []) := upd_same
            have o3 := ((st.same q1).same q2).dr.off h3
            have t4 : (upd (upd (upd (upd Hw u1 (.lst [.int 1])) u2 (.tup [.int 1, .str "\n"])) u3 (.lst [])) u4 (.tup [.non, .ref u3])) u4 = some (.tup [.non, .ref u3]) := upd_same
            have o4 := (((st.same q1).same q2).same q3).dr.off h4
            have t5 : (upd (upd (upd (upd (upd Hw u1 (.lst [.int 1])) u2 (.tup [.int 1, .str "\n"])) u3 (.lst [])) u4 (.tup [.non, .ref u3])) u5 (.dK [])) u5 = some (.dK []) := upd_same
            have o5 := ((((st.same q1).same q2).same q3).same q4).dr.off h5
            have o6 := (((((st.same q1).same q2).same q3).same q4).same q5).dr.off hl
            have q := ((((q1.trans q2).trans q3).trans q4).trans q5).trans q6
            have t1 := ((((q2.trans q3).trans q4).trans q5).trans q6) _ _ t1
            have t2 := (((q3.trans q4).trans q5).trans q6) _ _ t2
            have t3 := ((q4.trans q5).trans q6) _ _ t3
            have t4 := (q5.trans q6) _ _ t4
            have t5 := q6 _ _ t5
            have stl := st.same q
            have ivl := iv.same q
            refine ⟨d, c, l, _, rfl, stl.dr, upd_same, o6.2, (by show 0 < 6; decide), (by show 6 < 1000000; decide), fun He i5 x5 hDe be hx5 => ?_⟩
            have ste := stl.bu2 hDe be
            have ke := stl.dr.keep (C := C) be
            have t1 := be _ _ t1 o1.1 o1.2
            have t2 := be _ _ t2 o2.1 o2.2
            have t3 := be _ _ t3 o3.1 o3.2
            have t4 := be _ _ t4 o4.1 o4.2
            have t5 := be _ _ t5 o5.1 o5.2
            have fitB : ∀ e : D, (decide (Hr.sz e ≤ 100) && txb e) = true → Fit e := fun e he => by
              simp only [Bool.and_eq_true, decide_eq_true_eq] at he
              exact ⟨by omega, txl_of he.2⟩
            refine ⟨v, x5, _, _, _, _, _, _, rfl, ste, ⟨w1, Is.keep ke okw.cl ivl, okw⟩, ?_⟩
            rcases (show i5 = 0 ∨ i5 = 1 ∨ i5 = 2 ∨ i5 = 3 ∨ i5 = 4 ∨ i5 = 5 ∨ 6 ≤ i5 by omega) with rfl | rfl | rfl | rfl | rfl | rfl | h6
            · cases hx5; exact ⟨.lst [.int 1], .lst t1 (.cons (.int 1) .nil), fitB _ (by decide +kernel), rfl⟩
            · cases hx5; exact ⟨.bl true, .bl true, fitB _ (by decide +kernel), rfl⟩
            · cases hx5; exact ⟨.int 2147483648, .int _, fitB _ (by decide +kernel), by decide +kernel⟩
            · cases hx5; exact ⟨.tup [.int 1, .str "\n"], .tup t2 (.cons (.int 1) (.cons (.str _) .nil)), fitB _ (by decide +kernel), by decide +kernel⟩
            · cases hx5; exact ⟨.tup [.non, .lst []], .tup t4 (.cons .non (.cons (.lst t3 .nil) .nil)), fitB _ (by decide +kernel), by decide +kernel⟩
            · cases hx5; exact ⟨.dct, .dct t5, fitB _ (by decide +kernel), rfl⟩
            · rw [List.getElem?_eq_none (by simpa using h6)] at hx5; cases hx5
          · clear iv okw st
            rintro σ Hz ⟨v, o, v5, v7, v8, v10, v11, v14, rfl, st, ⟨w1, iv, okw⟩, e, ie, fe, he⟩
            have hlR := st.len
            refine ⟨_, rfl, hs, _, rfl, .inl (SqL.of st.hosts), _, rfl, by omega, by simp; omega, ?_⟩
            refine for_it walk_range (fun j σ H' => ∃ v14, σ = [some (.ref a), some (.ref d), some (.ref pl), some (.ref hs), some (.ref hd), v5, some (.int (kn : Int)), v7, v8, none, v10, v11, some v, some o, v14] ∧ Same Hz H') ⟨v14, rfl, Same.refl Hz⟩ (fun _ _ _ _ _ => trivial) ?_ ?_
            · rintro j x σ Hx Hy hj ⟨v14, rfl, sx⟩ ⟨rfl, rfl⟩
              have stx := st.same sx
              have hj' : j < R.length := by simp at hj; omega
              obtain ⟨rc, hrc⟩ : ∃ rc, R[j]? = some rc := ⟨_, List.getElem?_eq_getElem hj'⟩
              have atp : atI (R.map fun r => V.ref r.p) (0 + (j : Int)) = some (.ref rc.p) := by rw [Int.zero_add]; exact atI_nat (by rw [List.getElem?_map, hrc]; rfl)
              have atq : atI (R.map fun r => V.ref r.q) (0 + (j : Int)) = some (.ref rc.q) := by rw [Int.zero_add]; exact atI_nat (by rw [List.getElem?_map, hrc]; rfl)
              obtain ⟨⟨xs, kn9, ix9⟩, ⟨ys, hq9, iy9⟩, hU9, hB9⟩ := stx.recs rc (List.mem_of_getElem? hrc)
              refine ⟨_, rfl, _, rfl, hs, _, _, _, rfl, rfl, SqL.of stx.hosts, atp, ?_⟩
              refine ⟨_, rfl, _, rfl, hd, _, _, _, rfl, rfl, SqL.of stx.had, atq, ?_⟩
              refine ⟨_, rfl, _, rfl, rc.p, rc.q, rc.l, v, o, xs, ys, rc.ds, w1, e, rfl, kn9, ix9, hq9, iy9, hU9, by omega, iv.same sx, okw, ie.same sx, fe, he, fun H' s' => ?_⟩
              exact ⟨_, rfl, iteF ⟨_, rfl, sx.trans s'⟩⟩
            · rintro σ Hx ⟨v14, rfl, sx⟩
              exact ⟨_, _, _, _, _, _, _, _, _, rfl, R, st.same sx⟩
  · rintro σ H8 ⟨v5, v6, v7, v8, v10, v11, v12, v13, v14, rfl, _⟩
    exact q H8
end
end Hc

namespace Hc
open PySem PySem.Spec PyProof.Rows L2 Hr
theorem all_mk {l : PySem.W.OpenLaw} {w : World} {K : PySem.W.Frag} {h : Heap} {mg : Str → Option Value} {fa C N Fo tt1 tt2 tt3 tt4 tt5 f1 f2 f3 f4 f5 f6 f7 f8 f9 f10 f11 f12 f13 f14 f15 f16 f17 f18 f19 f20 f21 f22 f23 f24 f25 f26 f27 : Addr} (X : K.In h) (G : h.Ns mainGlobals mg) (hfa : mg "law" = some (.ref fa))
    {od1 od2 od3 od4 od5 od6 od7 od8 od9 od10 od11 od12 od13 od14 od15 od16 od17 od18 od19 od20 od21 od22 od23 od24 od25 od26 od27 an1 an2 an3 an4 an5 an6 an7 an8 an9 an10 an11 an12 an13 an14 an15 an16 an17 an18 an19 an20 an21 an22 an23 an24 an25 an26 an27 : Option Addr} {sl1 sl2 sl3 sl4 sl5 sl6 sl7 sl8 sl9 sl10 sl11 sl12 sl13 sl14 sl15 sl16 sl17 sl18 sl19 sl20 sl21 sl22 sl23 sl24 sl25 sl26 sl27 : Array (Option Value)} {oc1 oc2 oc3 oc4 oc5 oc6 oc7 oc8 oc9 oc10 oc11 oc12 oc13 oc14 oc15 oc16 oc17 oc18 oc19 oc20 oc21 oc22 oc23 oc24 oc25 oc26 oc27 kV1 kV2 kV3 kV4 kV5 kV6 kV7 kV8 kV9 kV10 kV11 kV12 kV13 kV14 kV15 kV16 kV17 kV18 kV19 kV20 kV21 kV22 kV23 kV24 kV25 kV26 kV27 dc1 dc2 dc3 dc4 dc5 dc6 dc7 dc8 dc9 dc10 dc11 dc12 dc13 dc14 dc15 dc16 dc17 dc18 dc19 dc20 dc21 dc22 dc23 dc24 dc25 dc26 dc27 pm1 pm2 pm3 pm4 pm5 pm6 pm7 pm8 pm9 pm10 pm11 pm12 pm13 pm14 pm15 pm16 pm17 pm18 pm19 pm20 pm21 pm22 pm23 pm24 pm25 pm26 pm27 cd1 cd2 cd3 cd4 cd5 cd6 cd7 cd8 cd9 cd10 cd11 cd12 cd13 cd14 cd15 cd16 cd17 cd18 cd19 cd20 cd21 cd22 cd23 cd24 cd25 cd26 cd27 ct1 ct2 ct3 ct4 ct5 ct6 ct7 ct8 ct9 ct10 ct11 ct12 ct13 ct14 ct15 ct16 ct17 ct18 ct19 ct20 ct21 ct22 ct23 ct24 ct25 ct26 ct27 : Value}
    {tLEAST tGREATEST tMOST_CHARACTERS tMOST_DEEP tMOST_RANK tMOST_RANK_HOST : Tok} {esF : Array DictEntry} {nF : Nat}
    {utt1_0 utt1_1 utt1_2 utt2_0 utt2_1 utt3_0 utt3_1 utt3_2 utt3_3 utt4_0 utt4_1 utt4_2 utt4_3 utt5_0 utt5_1 utt5_2 utt5_3 utt5_4 utt5_5 : Tok} {ntt1 ntt2 ntt3 ntt4 ntt5 : Nat} {dtt1 dtt2 dtt3 dtt4 dtt5 : Option Addr} {stt1 stt2 stt3 stt4 stt5 : Array (Option Value)}
    (a1 : PySem.W.nsIn K mainGlobals "is_number" = some (some (.ref f1)))
    (l1 : K.lookup f1 = some ⟨oc1, od1, .func (PySem.W.fnOf "is_number" "is_number" (C8.fnArgs s_is_number) (C8.fnBody s_is_number) (C8.fnScope s_is_number) .none kV1 dc1 pm1 an1 cd1 ct1), sl1⟩)
    (c1 : PySem.W.codeIn K cd1 "is_number" = true)
    (k1 : PySem.W.keepIn K (.ref f1) = true)
    (a2 : PySem.W.nsIn K mainGlobals "is_text" = some (some (.ref f2)))
    (l2 : K.lookup f2 = some ⟨oc2, od2, .func (PySem.W.fnOf "is_text" "is_text" (C8.fnArgs s_is_text) (C8.fnBody s_is_text) (C8.fnScope s_is_text) .none kV2 dc2 pm2 an2 cd2 ct2), sl2⟩)
    (c2 : PySem.W.codeIn K cd2 "is_text" = true)
    (k2 : PySem.W.keepIn K (.ref f2) = true)
    (a3 : PySem.W.nsIn K mainGlobals "_is_within" = some (some (.ref f3)))
    (l3 : K.lookup f3 = some ⟨oc3, od3, .func (PySem.W.fnOf "_is_within" "_is_within" (C8.fnArgs s__is_within) (C8.fnBody s__is_within) (C8.fnScope s__is_within) .none kV3 dc3 pm3 an3 cd3 ct3), sl3⟩)
    (c3 : PySem.W.codeIn K cd3 "_is_within" = true)
    (k3 : PySem.W.keepIn K (.ref f3) = true)
    (a4 : PySem.W.nsIn K mainGlobals "is_word" = some (some (.ref f4)))
    (l4 : K.lookup f4 = some ⟨oc4, od4, .func (PySem.W.fnOf "is_word" "is_word" (C8.fnArgs s_is_word) (C8.fnBody s_is_word) (C8.fnScope s_is_word) .none kV4 dc4 pm4 an4 cd4 ct4), sl4⟩)
    (c4 : PySem.W.codeIn K cd4 "is_word" = true)
    (k4 : PySem.W.keepIn K (.ref f4) = true)
    (a5 : PySem.W.nsIn K mainGlobals "_places_of_atoms" = some (some (.ref f5)))
    (l5 : K.lookup f5 = some ⟨oc5, od5, .func (PySem.W.fnOf "_places_of_atoms" "_places_of_atoms" (C8.fnArgs s__places_of_atoms) (C8.fnBody s__places_of_atoms) (C8.fnScope s__places_of_atoms) .none kV5 dc5 pm5 an5 cd5 ct5), sl5⟩)
    (c5 : PySem.W.codeIn K cd5 "_places_of_atoms" = true)
    (k5 : PySem.W.keepIn K (.ref f5) = true)
    (a6 : PySem.W.nsIn K mainGlobals "rank_of" = some (some (.ref f6)))
    (l6 : K.lookup f6 = some ⟨oc6, od6, .func (PySem.W.fnOf "rank_of" "rank_of" (C8.fnArgs s_rank_of) (C8.fnBody s_rank_of) (C8.fnScope s_rank_of) .none kV6 dc6 pm6 an6 cd6 ct6), sl6⟩)
    (c6 : PySem.W.codeIn K cd6 "rank_of" = true)
    (k6 : PySem.W.keepIn K (.ref f6) = true)
    (a7 : PySem.W.nsIn K mainGlobals "_rank_of_atom" = some (some (.ref f7)))
    (l7 : K.lookup f7 = some ⟨oc7, od7, .func (PySem.W.fnOf "_rank_of_atom" "_rank_of_atom" (C8.fnArgs s__rank_of_atom) (C8.fnBody s__rank_of_atom) (C8.fnScope s__rank_of_atom) .none kV7 dc7 pm7 an7 cd7 ct7), sl7⟩)
    (c7 : PySem.W.codeIn K cd7 "_rank_of_atom" = true)
    (k7 : PySem.W.keepIn K (.ref f7) = true)
    (a8 : PySem.W.nsIn K mainGlobals "_most_rank" = some (some (.ref f8)))
    (l8 : K.lookup f8 = some ⟨oc8, od8, .func (PySem.W.fnOf "_most_rank" "_most_rank" (C8.fnArgs s__most_rank) (C8.fnBody s__most_rank) (C8.fnScope s__most_rank) .none kV8 dc8 pm8 an8 cd8 ct8), sl8⟩)
    (c8 : PySem.W.codeIn K cd8 "_most_rank" = true)
    (k8 : PySem.W.keepIn K (.ref f8) = true)
    (a9 : PySem.W.nsIn K mainGlobals "_has_form" = some (some (.ref f9)))
    (l9 : K.lookup f9 = some ⟨oc9, od9, .func (PySem.W.fnOf "_has_form" "_has_form" (C8.fnArgs s__has_form) (C8.fnBody s__has_form) (C8.fnScope s__has_form) .none kV9 dc9 pm9 an9 cd9 ct9), sl9⟩)
    (c9 : PySem.W.codeIn K cd9 "_has_form" = true)
    (k9 : PySem.W.keepIn K (.ref f9) = true)
    (a10 : PySem.W.nsIn K mainGlobals "_is_term" = some (some (.ref f10)))
    (l10 : K.lookup f10 = some ⟨oc10, od10, .func (PySem.W.fnOf "_is_term" "_is_term" (C8.fnArgs s__is_term) (C8.fnBody s__is_term) (C8.fnScope s__is_term) .none kV10 dc10 pm10 an10 cd10 ct10), sl10⟩)
    (c10 : PySem.W.codeIn K cd10 "_is_term" = true)
    (k10 : PySem.W.keepIn K (.ref f10) = true)
    (a11 : PySem.W.nsIn K mainGlobals "_are_equal" = some (some (.ref f11)))
    (l11 : K.lookup f11 = some ⟨oc11, od11, .func (PySem.W.fnOf "_are_equal" "_are_equal" (C8.fnArgs s__are_equal) (C8.fnBody s__are_equal) (C8.fnScope s__are_equal) .none kV11 dc11 pm11 an11 cd11 ct11), sl11⟩)
    (c11 : PySem.W.codeIn K cd11 "_are_equal" = true)
    (k11 : PySem.W.keepIn K (.ref f11) = true)
    (a12 : PySem.W.nsIn K mainGlobals "_law_begin" = some (some (.ref f12)))
    (l12 : K.lookup f12 = some ⟨oc12, od12, .func (PySem.W.fnOf "_law_begin" "_law_begin" (C8.fnArgs s__law_begin) (C8.fnBody s__law_begin) (C8.fnScope s__law_begin) .none kV12 dc12 pm12 an12 cd12 ct12), sl12⟩)
    (c12 : PySem.W.codeIn K cd12 "_law_begin" = true)
    (k12 : PySem.W.keepIn K (.ref f12) = true)
    (a13 : PySem.W.nsIn K mainGlobals "_law_draw" = some (some (.ref f13)))
    (l13 : K.lookup f13 = some ⟨oc13, od13, .func (PySem.W.fnOf "_law_draw" "_law_draw" (C8.fnArgs s__law_draw) (C8.fnBody s__law_draw) (C8.fnScope s__law_draw) .none kV13 dc13 pm13 an13 cd13 ct13), sl13⟩)
    (c13 : PySem.W.codeIn K cd13 "_law_draw" = true)
    (k13 : PySem.W.keepIn K (.ref f13) = true)
    (a14 : PySem.W.nsIn K mainGlobals "_law_pick" = some (some (.ref f14)))
    (l14 : K.lookup f14 = some ⟨oc14, od14, .func (PySem.W.fnOf "_law_pick" "_law_pick" (C8.fnArgs s__law_pick) (C8.fnBody s__law_pick) (C8.fnScope s__law_pick) .none kV14 dc14 pm14 an14 cd14 ct14), sl14⟩)
    (c14 : PySem.W.codeIn K cd14 "_law_pick" = true)
    (k14 : PySem.W.keepIn K (.ref f14) = true)
    (a15 : PySem.W.nsIn K mainGlobals "_law_pool" = some (some (.ref f15)))
    (l15 : K.lookup f15 = some ⟨oc15, od15, .func (PySem.W.fnOf "_law_pool" "_law_pool" (C8.fnArgs s__law_pool) (C8.fnBody s__law_pool) (C8.fnScope s__law_pool) .none kV15 dc15 pm15 an15 cd15 ct15), sl15⟩)
    (c15 : PySem.W.codeIn K cd15 "_law_pool" = true)
    (k15 : PySem.W.keepIn K (.ref f15) = true)
    (a16 : PySem.W.nsIn K mainGlobals "_law_word" = some (some (.ref f16)))
    (l16 : K.lookup f16 = some ⟨oc16, od16, .func (PySem.W.fnOf "_law_word" "_law_word" (C8.fnArgs s__law_word) (C8.fnBody s__law_word) (C8.fnScope s__law_word) .none kV16 dc16 pm16 an16 cd16 ct16), sl16⟩)
    (c16 : PySem.W.codeIn K cd16 "_law_word" = true)
    (k16 : PySem.W.keepIn K (.ref f16) = true)
    (a17 : PySem.W.nsIn K mainGlobals "_law_inside" = some (some (.ref f17)))
    (l17 : K.lookup f17 = some ⟨oc17, od17, .func (PySem.W.fnOf "_law_inside" "_law_inside" (C8.fnArgs s__law_inside) (C8.fnBody s__law_inside) (C8.fnScope s__law_inside) .none kV17 dc17 pm17 an17 cd17 ct17), sl17⟩)
    (c17 : PySem.W.codeIn K cd17 "_law_inside" = true)
    (k17 : PySem.W.keepIn K (.ref f17) = true)
    (a18 : PySem.W.nsIn K mainGlobals "_law_right" = some (some (.ref f18)))
    (l18 : K.lookup f18 = some ⟨oc18, od18, .func (PySem.W.fnOf "_law_right" "_law_right" (C8.fnArgs s__law_right) (C8.fnBody s__law_right) (C8.fnScope s__law_right) .none kV18 dc18 pm18 an18 cd18 ct18), sl18⟩)
    (c18 : PySem.W.codeIn K cd18 "_law_right" = true)
    (k18 : PySem.W.keepIn K (.ref f18) = true)
    (a19 : PySem.W.nsIn K mainGlobals "law" = some (some (.ref f19)))
    (l19 : K.lookup f19 = some ⟨oc19, od19, .func (PySem.W.fnOf "law" "law" (C8.fnArgs s_law) (C8.fnBody s_law) (C8.fnScope s_law) .none kV19 dc19 pm19 an19 cd19 ct19), sl19⟩)
    (c19 : PySem.W.codeIn K cd19 "law" = true)
    (k19 : PySem.W.keepIn K (.ref f19) = true)
    (aC : PySem.W.nsIn K mainGlobals "Atom" = some (some (.ref C)))
    (aN : PySem.W.nsIn K mainGlobals "Knowledge" = some (some (.ref N)))
    (a20 : PySem.W.findIn K (.ref C) "__init__" = some (some (.ref f20)))
    (i20 : PySem.W.isFn K (.ref f20) = true)
    (l20 : K.lookup f20 = some ⟨oc20, od20, .func (PySem.W.fnOf "__init__" "Atom.__init__" (C8.fnArgs s_Atom___init__) (C8.fnBody s_Atom___init__) (C8.fnScope s_Atom___init__) .none kV20 dc20 pm20 an20 cd20 ct20), sl20⟩)
    (c20 : PySem.W.codeIn K cd20 "Atom.__init__" = true)
    (k20 : PySem.W.keepIn K (.ref f20) = true)
    (a21 : PySem.W.findIn K (.ref C) "__eq__" = some (some (.ref f21)))
    (i21 : PySem.W.isFn K (.ref f21) = true)
    (l21 : K.lookup f21 = some ⟨oc21, od21, .func (PySem.W.fnOf "__eq__" "Atom.__eq__" (C8.fnArgs s_Atom___eq__) (C8.fnBody s_Atom___eq__) (C8.fnScope s_Atom___eq__) .none kV21 dc21 pm21 an21 cd21 ct21), sl21⟩)
    (c21 : PySem.W.codeIn K cd21 "Atom.__eq__" = true)
    (k21 : PySem.W.keepIn K (.ref f21) = true)
    (a22 : PySem.W.findIn K (.ref C) "is_same" = some (some (.ref f22)))
    (i22 : PySem.W.isFn K (.ref f22) = true)
    (l22 : K.lookup f22 = some ⟨oc22, od22, .func (PySem.W.fnOf "is_same" "Atom.is_same" (C8.fnArgs s_Atom_is_same) (C8.fnBody s_Atom_is_same) (C8.fnScope s_Atom_is_same) .none kV22 dc22 pm22 an22 cd22 ct22), sl22⟩)
    (c22 : PySem.W.codeIn K cd22 "Atom.is_same" = true)
    (k22 : PySem.W.keepIn K (.ref f22) = true)
    (a23 : PySem.W.findIn K (.ref N) "__init__" = some (some (.ref f23)))
    (i23 : PySem.W.isFn K (.ref f23) = true)
    (l23 : K.lookup f23 = some ⟨oc23, od23, .func (PySem.W.fnOf "__init__" "Knowledge.__init__" (C8.fnArgs s_Knowledge___init__) (C8.fnBody s_Knowledge___init__) (C8.fnScope s_Knowledge___init__) .none kV23 dc23 pm23 an23 cd23 ct23), sl23⟩)
    (c23 : PySem.W.codeIn K cd23 "Knowledge.__init__" = true)
    (k23 : PySem.W.keepIn K (.ref f23) = true)
    (a24 : PySem.W.findIn K (.ref N) "atoms" = some (some (.ref f24)))
    (i24 : PySem.W.isFn K (.ref f24) = true)
    (l24 : K.lookup f24 = some ⟨oc24, od24, .func (PySem.W.fnOf "atoms" "Knowledge.atoms" (C8.fnArgs s_Knowledge_atoms) (C8.fnBody s_Knowledge_atoms) (C8.fnScope s_Knowledge_atoms) .none kV24 dc24 pm24 an24 cd24 ct24), sl24⟩)
    (c24 : PySem.W.codeIn K cd24 "Knowledge.atoms" = true)
    (k24 : PySem.W.keepIn K (.ref f24) = true)
    (a25 : PySem.W.findIn K (.ref N) "copy" = some (some (.ref f25)))
    (i25 : PySem.W.isFn K (.ref f25) = true)
    (l25 : K.lookup f25 = some ⟨oc25, od25, .func (PySem.W.fnOf "copy" "Knowledge.copy" (C8.fnArgs s_Knowledge_copy) (C8.fnBody s_Knowledge_copy) (C8.fnScope s_Knowledge_copy) .none kV25 dc25 pm25 an25 cd25 ct25), sl25⟩)
    (c25 : PySem.W.codeIn K cd25 "Knowledge.copy" = true)
    (k25 : PySem.W.keepIn K (.ref f25) = true)
    (a26 : PySem.W.findIn K (.ref N) "take" = some (some (.ref f26)))
    (i26 : PySem.W.isFn K (.ref f26) = true)
    (l26 : K.lookup f26 = some ⟨oc26, od26, .func (PySem.W.fnOf "take" "Knowledge.take" (C8.fnArgs s_Knowledge_take) (C8.fnBody s_Knowledge_take) (C8.fnScope s_Knowledge_take) .none kV26 dc26 pm26 an26 cd26 ct26), sl26⟩)
    (c26 : PySem.W.codeIn K cd26 "Knowledge.take" = true)
    (k26 : PySem.W.keepIn K (.ref f26) = true)
    (a27 : PySem.W.findIn K (.ref N) "can_make" = some (some (.ref f27)))
    (i27 : PySem.W.isFn K (.ref f27) = true)
    (l27 : K.lookup f27 = some ⟨oc27, od27, .func (PySem.W.fnOf "can_make" "Knowledge.can_make" (C8.fnArgs s_Knowledge_can_make) (C8.fnBody s_Knowledge_can_make) (C8.fnScope s_Knowledge_can_make) .none kV27 dc27 pm27 an27 cd27 ct27), sl27⟩)
    (c27 : PySem.W.codeIn K cd27 "Knowledge.can_make" = true)
    (k27 : PySem.W.keepIn K (.ref f27) = true)
    (pgC : PySem.W.plainGet K C Str.empty = true)
    (hdC : PySem.W.hasDictIn K C = true)
    (poC : PySem.W.plainOver K C = true)
    (saC : PySem.W.findIn K (.ref C) "__setattr__" = some (some (.builtin "object.__setattr__")))
    (mkC : PySem.W.makesIn K C = true)
    (kcC : PySem.W.keepIn K (.ref C) = true)
    (pgN : PySem.W.plainGet K N Str.empty = true)
    (hdN : PySem.W.hasDictIn K N = true)
    (poN : PySem.W.plainOver K N = true)
    (saN : PySem.W.findIn K (.ref N) "__setattr__" = some (some (.builtin "object.__setattr__")))
    (mkN : PySem.W.makesIn K N = true)
    (kcN : PySem.W.keepIn K (.ref N) = true)
    (ha : PySem.W.findIn K (.ref C) "__class__" = some (some (.builtin "object.__class__")))
    (hn : PySem.W.specialIn K (.builtin "object.__class__") "__get__" = some (some (.builtin "getset_descriptor.__get__")))
    (htk : PySem.W.takesIn K (.builtin "object.__class__") = some true)
    (hm : PySem.W.mroIn K C (.type "object") = some true)
    (me : PySem.W.kitOne K (.ref C) (.ref C) = some true)
    (nakind : PySem.W.findIn K (.ref C) "kind" = some none)
    (naterm : PySem.W.findIn K (.ref C) "term" = some none)
    (narank : PySem.W.findIn K (.ref C) "rank" = some none)
    (na_stripped : PySem.W.findIn K (.ref C) "_stripped" = some none)
    (naA : PySem.W.findIn K (.ref N) "_atoms" = some none)
    (qint : PySem.W.kitOne K (.ref C) (.type "int") = some false)
    (qstr : PySem.W.kitOne K (.ref C) (.type "str") = some false)
    (qtuple : PySem.W.kitOne K (.ref C) (.type "tuple") = some false)
    (qbool : PySem.W.kitOne K (.ref C) (.type "bool") = some false)
    (qlist : PySem.W.kitOne K (.ref C) (.type "list") = some false)
    (qdict : PySem.W.kitOne K (.ref C) (.type "dict") = some false)
    (rNoneType : PySem.W.kitOne K (.type "NoneType") (.ref C) = some false)
    (rbool : PySem.W.kitOne K (.type "bool") (.ref C) = some false)
    (rint : PySem.W.kitOne K (.type "int") (.ref C) = some false)
    (rstr : PySem.W.kitOne K (.type "str") (.ref C) = some false)
    (rtuple : PySem.W.kitOne K (.type "tuple") (.ref C) = some false)
    (rlist : PySem.W.kitOne K (.type "list") (.ref C) = some false)
    (rdict : PySem.W.kitOne K (.type "dict") (.ref C) = some false)
    (nLEAST : PySem.W.nsIn K mainGlobals "LEAST" = some (some (.int (-2147483648) tLEAST)))
    (nGREATEST : PySem.W.nsIn K mainGlobals "GREATEST" = some (some (.int (2147483647) tGREATEST)))
    (nMOST_CHARACTERS : PySem.W.nsIn K mainGlobals "MOST_CHARACTERS" = some (some (.int (24) tMOST_CHARACTERS)))
    (nMOST_DEEP : PySem.W.nsIn K mainGlobals "MOST_DEEP" = some (some (.int (40) tMOST_DEEP)))
    (nMOST_RANK : PySem.W.nsIn K mainGlobals "MOST_RANK" = some (some (.int (40) tMOST_RANK)))
    (nMOST_RANK_HOST : PySem.W.nsIn K mainGlobals "MOST_RANK_HOST" = some (some (.int (36) tMOST_RANK_HOST)))
    (ztype : PySem.W.nsIn K mainGlobals "type" = some none)
    (zint : PySem.W.nsIn K mainGlobals "int" = some none)
    (zstr : PySem.W.nsIn K mainGlobals "str" = some none)
    (zbool : PySem.W.nsIn K mainGlobals "bool" = some none)
    (ztuple : PySem.W.nsIn K mainGlobals "tuple" = some none)
    (zlist : PySem.W.nsIn K mainGlobals "list" = some none)
    (zrange : PySem.W.nsIn K mainGlobals "range" = some none)
    (zzip : PySem.W.nsIn K mainGlobals "zip" = some none)
    (zdict : PySem.W.nsIn K mainGlobals "dict" = some none)
    (zlen : PySem.W.nsIn K mainGlobals "len" = some none)
    (zall : PySem.W.nsIn K mainGlobals "all" = some none)
    (zmax : PySem.W.nsIn K mainGlobals "max" = some none)
    (zisinstance : PySem.W.nsIn K mainGlobals "isinstance" = some none)
    (zabs : PySem.W.nsIn K mainGlobals "abs" = some none)
    (aF : PySem.W.nsIn K mainGlobals "_FORMS" = some (some (.ref Fo)))
    (lF : K.lookup Fo = some ⟨.type "dict", none, .dict esF nF, #[]⟩)
    (kF : PySem.W.KeysLit w.params esF.toList)
    (oF : (Fo == sysModules) = false)
    (vtt1 : PySem.W.nsIn K Fo "token" = some (some (.ref tt1)))
    (wtt1 : K.lookup tt1 = some ⟨.type "tuple", dtt1, .seq #[.str "text" utt1_0, .str "tuple" utt1_1, .str "word" utt1_2] ntt1, stt1⟩)
    (vtt2 : PySem.W.nsIn K Fo "challenge" = some (some (.ref tt2)))
    (wtt2 : K.lookup tt2 = some ⟨.type "tuple", dtt2, .seq #[.str "text" utt2_0, .str "number" utt2_1] ntt2, stt2⟩)
    (vtt3 : PySem.W.nsIn K Fo "seal" = some (some (.ref tt3)))
    (wtt3 : K.lookup tt3 = some ⟨.type "tuple", dtt3, .seq #[.str "text" utt3_0, .str "number" utt3_1, .str "number" utt3_2, .str "hidden" utt3_3] ntt3, stt3⟩)
    (vtt4 : PySem.W.nsIn K Fo "page" = some (some (.ref tt4)))
    (wtt4 : K.lookup tt4 = some ⟨.type "tuple", dtt4, .seq #[.str "text" utt4_0, .str "number" utt4_1, .str "number" utt4_2, .str "hidden" utt4_3] ntt4, stt4⟩)
    (vtt5 : PySem.W.nsIn K Fo "ticket" = some (some (.ref tt5)))
    (wtt5 : K.lookup tt5 = some ⟨.type "tuple", dtt5, .seq #[.str "text" utt5_0, .str "number" utt5_1, .str "text" utt5_2, .str "tuple" utt5_3, .str "pages" utt5_4, .str "tuple" utt5_5] ntt5, stt5⟩)
    (vkey : PySem.W.nsIn K Fo "key" = some none)
    : ∃ fd : FuncData, (∀ (s : Shared) (v : Value), BindsTo s fd ⟨[v], []⟩ [("script", v)]) ∧ ∀ base : Heap, K.In base → base.Ns mainGlobals mg → FnOk l.prog w K mg base C8.CX0 15 fa fd ["script"] (spLaw K) := by
  have e := hfa.symm.trans (PySem.W.mg_of X G a19)
  cases e
  have clsC : Cls K C := ⟨pgC, hdC, poC, saC⟩
  have clsN : Cls K N := ⟨pgN, hdN, poN, saN⟩
  have cl : Cl K C := ⟨clsC, ha, hn, htk, hm, me, mkC, nakind, naterm, narank, na_stripped⟩
  have kttt1 : KTup K tt1 ["text", "tuple", "word"] := fun H => .inr ⟨_, _, _, wtt1, rfl, rfl, (by show 3 ≤ sizeLine; decide), (.cons ⟨_, rfl⟩ (.cons ⟨_, rfl⟩ (.cons ⟨_, rfl⟩ .nil)))⟩
  have kttt2 : KTup K tt2 ["text", "number"] := fun H => .inr ⟨_, _, _, wtt2, rfl, rfl, (by show 2 ≤ sizeLine; decide), (.cons ⟨_, rfl⟩ (.cons ⟨_, rfl⟩ .nil))⟩
  have kttt3 : KTup K tt3 ["text", "number", "number", "hidden"] := fun H => .inr ⟨_, _, _, wtt3, rfl, rfl, (by show 4 ≤ sizeLine; decide), (.cons ⟨_, rfl⟩ (.cons ⟨_, rfl⟩ (.cons ⟨_, rfl⟩ (.cons ⟨_, rfl⟩ .nil))))⟩
  have kttt4 : KTup K tt4 ["text", "number", "number", "hidden"] := fun H => .inr ⟨_, _, _, wtt4, rfl, rfl, (by show 4 ≤ sizeLine; decide), (.cons ⟨_, rfl⟩ (.cons ⟨_, rfl⟩ (.cons ⟨_, rfl⟩ (.cons ⟨_, rfl⟩ .nil))))⟩
  have kttt5 : KTup K tt5 ["text", "number", "text", "tuple", "pages", "tuple"] := fun H => .inr ⟨_, _, _, wtt5, rfl, rfl, (by show 6 ≤ sizeLine; decide), (.cons ⟨_, rfl⟩ (.cons ⟨_, rfl⟩ (.cons ⟨_, rfl⟩ (.cons ⟨_, rfl⟩ (.cons ⟨_, rfl⟩ (.cons ⟨_, rfl⟩ .nil))))))⟩
  have kit : ∀ (d : D) (n : String), n ∈ ["int", "str", "tuple", "bool", "list", "dict"] → PySem.W.kitOne K (kyU C d) (.type n) = some (match d with | .int _ => n == "int" | .bl _ => n == "int" || n == "bool" | .str _ => n == "str" | .tup _ => n == "tuple" | .lst _ => n == "list" | .dct => n == "dict" | _ => false) := fun d n hn => by
    simp only [List.mem_cons, List.not_mem_nil, or_false] at hn
    rcases hn with rfl | rfl | rfl | rfl | rfl | rfl <;> cases d <;> dsimp only [kyU] <;> first
      | exact kit_ty (by decide +kernel)
      | exact qint
      | exact qstr
      | exact qtuple
      | exact qbool
      | exact qlist
      | exact qdict
  have kitC : ∀ d : D, PySem.W.kitOne K (kyU C d) (.ref C) = some (match d with | .atom _ _ => true | _ => false) := fun d => by
    cases d <;> first
      | exact me
      | exact rNoneType
      | exact rbool
      | exact rint
      | exact rstr
      | exact rtuple
      | exact rlist
      | exact rdict
  have KD : KDict K w Fo esF nF := ⟨lF, kF, oF⟩
  have T : Txt K mg w C := ⟨cl, PySem.W.mg_of X G aC, PySem.W.mg_none_of X G ztype, PySem.W.mg_none_of X G zint, PySem.W.mg_none_of X G zstr, PySem.W.mg_none_of X G zbool, PySem.W.mg_none_of X G ztuple, PySem.W.mg_none_of X G zlist, PySem.W.mg_none_of X G zrange, PySem.W.mg_none_of X G zzip, PySem.W.mg_none_of X G zdict, PySem.W.mg_none_of X G zlen, PySem.W.mg_none_of X G zall, PySem.W.mg_none_of X G zmax, PySem.W.mg_none_of X G zisinstance, PySem.W.mg_none_of X G zabs, ⟨_, PySem.W.mg_of X G nLEAST, ⟨_, rfl⟩⟩, ⟨_, PySem.W.mg_of X G nGREATEST, ⟨_, rfl⟩⟩, ⟨_, PySem.W.mg_of X G nMOST_CHARACTERS, ⟨_, rfl⟩⟩, ⟨_, PySem.W.mg_of X G nMOST_DEEP, ⟨_, rfl⟩⟩, ⟨_, PySem.W.mg_of X G nMOST_RANK, ⟨_, rfl⟩⟩, ⟨_, PySem.W.mg_of X G nMOST_RANK_HOST, ⟨_, rfl⟩⟩, ⟨Fo, tt1, tt2, tt3, tt4, tt5, ⟨_, PySem.W.mg_of X G aF, rfl⟩, ⟨esF, nF, KD⟩, ⟨esF, nF, _, lF, kF, vtt1, rfl⟩, ⟨esF, nF, _, lF, kF, vtt2, rfl⟩, ⟨esF, nF, _, lF, kF, vtt3, rfl⟩, ⟨esF, nF, _, lF, kF, vtt4, rfl⟩, ⟨esF, nF, _, lF, kF, vtt5, rfl⟩, vkey, kttt1, kttt2, kttt3, kttt4, kttt5⟩, kit, kitC⟩
  have Gk : Kno K mg N := ⟨clsN, PySem.W.mg_of X G aN, naA⟩
  have F1 : C8.Def K mg "is_number" s_is_number f1 _ := ⟨⟨⟨oc1, od1, .none, kV1, dc1, pm1, an1, cd1, ct1, sl1, rfl, l1, c1⟩⟩, PySem.W.mg_of X G a1, k1⟩
  have b1 : Binds K _ ["value"] [] := F1.fn.binds rfl (ps := ["value"]) fun _ _ _ _ _ _ us hl => match us, hl with | [_], _ => rfl
  have F2 : C8.Def K mg "is_text" s_is_text f2 _ := ⟨⟨⟨oc2, od2, .none, kV2, dc2, pm2, an2, cd2, ct2, sl2, rfl, l2, c2⟩⟩, PySem.W.mg_of X G a2, k2⟩
  have b2 : Binds K _ ["value"] [] := F2.fn.binds rfl (ps := ["value"]) fun _ _ _ _ _ _ us hl => match us, hl with | [_], _ => rfl
  have F3 : C8.Def K mg "_is_within" s__is_within f3 _ := ⟨⟨⟨oc3, od3, .none, kV3, dc3, pm3, an3, cd3, ct3, sl3, rfl, l3, c3⟩⟩, PySem.W.mg_of X G a3, k3⟩
  have b3 : Binds K _ ["value", "most_deep", "most_rank"] [] := F3.fn.binds rfl (ps := ["value", "most_deep", "most_rank"]) fun _ _ _ _ _ _ us hl => match us, hl with | [_, _, _], _ => rfl
  have F4 : C8.Def K mg "is_word" s_is_word f4 _ := ⟨⟨⟨oc4, od4, .none, kV4, dc4, pm4, an4, cd4, ct4, sl4, rfl, l4, c4⟩⟩, PySem.W.mg_of X G a4, k4⟩
  have b4 : Binds K _ ["value"] [] := F4.fn.binds rfl (ps := ["value"]) fun _ _ _ _ _ _ us hl => match us, hl with | [_], _ => rfl
  have F5 : C8.Def K mg "_places_of_atoms" s__places_of_atoms f5 _ := ⟨⟨⟨oc5, od5, .none, kV5, dc5, pm5, an5, cd5, ct5, sl5, rfl, l5, c5⟩⟩, PySem.W.mg_of X G a5, k5⟩
  have b5 : Binds K _ ["value"] [] := F5.fn.binds rfl (ps := ["value"]) fun _ _ _ _ _ _ us hl => match us, hl with | [_], _ => rfl
  have F6 : C8.Def K mg "rank_of" s_rank_of f6 _ := ⟨⟨⟨oc6, od6, .none, kV6, dc6, pm6, an6, cd6, ct6, sl6, rfl, l6, c6⟩⟩, PySem.W.mg_of X G a6, k6⟩
  have b6 : Binds K _ ["word"] [] := F6.fn.binds rfl (ps := ["word"]) fun _ _ _ _ _ _ us hl => match us, hl with | [_], _ => rfl
  have F7 : C8.Def K mg "_rank_of_atom" s__rank_of_atom f7 _ := ⟨⟨⟨oc7, od7, .none, kV7, dc7, pm7, an7, cd7, ct7, sl7, rfl, l7, c7⟩⟩, PySem.W.mg_of X G a7, k7⟩
  have b7 : Binds K _ ["kind", "term"] [] := F7.fn.binds rfl (ps := ["kind", "term"]) fun _ _ _ _ _ _ us hl => match us, hl with | [_, _], _ => rfl
  have F8 : C8.Def K mg "_most_rank" s__most_rank f8 _ := ⟨⟨⟨oc8, od8, .none, kV8, dc8, pm8, an8, cd8, ct8, sl8, rfl, l8, c8⟩⟩, PySem.W.mg_of X G a8, k8⟩
  have b8 : Binds K _ ["kind"] [] := F8.fn.binds rfl (ps := ["kind"]) fun _ _ _ _ _ _ us hl => match us, hl with | [_], _ => rfl
  have F9 : C8.Def K mg "_has_form" s__has_form f9 _ := ⟨⟨⟨oc9, od9, .none, kV9, dc9, pm9, an9, cd9, ct9, sl9, rfl, l9, c9⟩⟩, PySem.W.mg_of X G a9, k9⟩
  have b9 : Binds K _ ["part", "form"] [] := F9.fn.binds rfl (ps := ["part", "form"]) fun _ _ _ _ _ _ us hl => match us, hl with | [_, _], _ => rfl
  have F10 : C8.Def K mg "_is_term" s__is_term f10 _ := ⟨⟨⟨oc10, od10, .none, kV10, dc10, pm10, an10, cd10, ct10, sl10, rfl, l10, c10⟩⟩, PySem.W.mg_of X G a10, k10⟩
  have b10 : Binds K _ ["kind", "term"] [] := F10.fn.binds rfl (ps := ["kind", "term"]) fun _ _ _ _ _ _ us hl => match us, hl with | [_, _], _ => rfl
  have F11 : C8.Def K mg "_are_equal" s__are_equal f11 _ := ⟨⟨⟨oc11, od11, .none, kV11, dc11, pm11, an11, cd11, ct11, sl11, rfl, l11, c11⟩⟩, PySem.W.mg_of X G a11, k11⟩
  have b11 : Binds K _ ["ones", "others"] [] := F11.fn.binds rfl (ps := ["ones", "others"]) fun _ _ _ _ _ _ us hl => match us, hl with | [_, _], _ => rfl
  have F12 : C8.Def K mg "_law_begin" s__law_begin f12 _ := ⟨⟨⟨oc12, od12, .none, kV12, dc12, pm12, an12, cd12, ct12, sl12, rfl, l12, c12⟩⟩, PySem.W.mg_of X G a12, k12⟩
  have b12 : Binds K _ ["script"] [] := F12.fn.binds rfl (ps := ["script"]) fun _ _ _ _ _ _ us hl => match us, hl with | [_], _ => rfl
  have F13 : C8.Def K mg "_law_draw" s__law_draw f13 _ := ⟨⟨⟨oc13, od13, .none, kV13, dc13, pm13, an13, cd13, ct13, sl13, rfl, l13, c13⟩⟩, PySem.W.mg_of X G a13, k13⟩
  have b13 : Binds K _ ["draws", "many"] [] := F13.fn.binds rfl (ps := ["draws", "many"]) fun _ _ _ _ _ _ us hl => match us, hl with | [_, _], _ => rfl
  have F14 : C8.Def K mg "_law_pick" s__law_pick f14 _ := ⟨⟨⟨oc14, od14, .none, kV14, dc14, pm14, an14, cd14, ct14, sl14, rfl, l14, c14⟩⟩, PySem.W.mg_of X G a14, k14⟩
  have b14 : Binds K _ ["draws", "row"] [] := F14.fn.binds rfl (ps := ["draws", "row"]) fun _ _ _ _ _ _ us hl => match us, hl with | [_, _], _ => rfl
  have F15 : C8.Def K mg "_law_pool" s__law_pool f15 _ := ⟨⟨⟨oc15, od15, .none, kV15, dc15, pm15, an15, cd15, ct15, sl15, rfl, l15, c15⟩⟩, PySem.W.mg_of X G a15, k15⟩
  have b15 : Binds K _ ["draws"] [] := F15.fn.binds rfl (ps := ["draws"]) fun _ _ _ _ _ _ us hl => match us, hl with | [_], _ => rfl
  have F16 : C8.Def K mg "_law_word" s__law_word f16 _ := ⟨⟨⟨oc16, od16, .none, kV16, dc16, pm16, an16, cd16, ct16, sl16, rfl, l16, c16⟩⟩, PySem.W.mg_of X G a16, k16⟩
  have b16 : Binds K _ ["draws", "atoms", "deep"] [] := F16.fn.binds rfl (ps := ["draws", "atoms", "deep"]) fun _ _ _ _ _ _ us hl => match us, hl with | [_, _, _], _ => rfl
  have F17 : C8.Def K mg "_law_inside" s__law_inside f17 _ := ⟨⟨⟨oc17, od17, .none, kV17, dc17, pm17, an17, cd17, ct17, sl17, rfl, l17, c17⟩⟩, PySem.W.mg_of X G a17, k17⟩
  have b17 : Binds K _ ["word"] [] := F17.fn.binds rfl (ps := ["word"]) fun _ _ _ _ _ _ us hl => match us, hl with | [_], _ => rfl
  have F18 : C8.Def K mg "_law_right" s__law_right f18 _ := ⟨⟨⟨oc18, od18, .none, kV18, dc18, pm18, an18, cd18, ct18, sl18, rfl, l18, c18⟩⟩, PySem.W.mg_of X G a18, k18⟩
  have b18 : Binds K _ ["knowledge", "had", "word", "odd"] [] := F18.fn.binds rfl (ps := ["knowledge", "had", "word", "odd"]) fun _ _ _ _ _ _ us hl => match us, hl with | [_, _, _, _], _ => rfl
  have F19 : C8.Fun K "law" "law" s_law fa _ := ⟨⟨oc19, od19, .none, kV19, dc19, pm19, an19, cd19, ct19, sl19, rfl, l19, c19⟩⟩
  have b19 : Binds K _ ["script"] [] := F19.binds rfl (ps := ["script"]) fun _ _ _ _ _ _ us hl => match us, hl with | [_], _ => rfl
  have F20 : C8.Fun K "__init__" "Atom.__init__" s_Atom___init__ f20 _ := ⟨⟨oc20, od20, .none, kV20, dc20, pm20, an20, cd20, ct20, sl20, rfl, l20, c20⟩⟩
  have b20 : Binds K _ ["self", "kind", "term"] [] := F20.binds rfl (ps := ["self", "kind", "term"]) fun _ _ _ _ _ _ us hl => match us, hl with | [_, _, _], _ => rfl
  have mk20 : Mk K C f20 := ⟨mkC, a20, i20, kcC⟩
  have F21 : C8.Fun K "__eq__" "Atom.__eq__" s_Atom___eq__ f21 _ := ⟨⟨oc21, od21, .none, kV21, dc21, pm21, an21, cd21, ct21, sl21, rfl, l21, c21⟩⟩
  have b21 : Binds K _ ["self", "other"] [] := F21.binds rfl (ps := ["self", "other"]) fun _ _ _ _ _ _ us hl => match us, hl with | [_, _], _ => rfl
  have F22 : C8.Fun K "is_same" "Atom.is_same" s_Atom_is_same f22 _ := ⟨⟨oc22, od22, .none, kV22, dc22, pm22, an22, cd22, ct22, sl22, rfl, l22, c22⟩⟩
  have b22 : Binds K _ ["self", "other"] [] := F22.binds rfl (ps := ["self", "other"]) fun _ _ _ _ _ _ us hl => match us, hl with | [_, _], _ => rfl
  have me22 : Meth K C "is_same" f22 := ⟨a22, i22, k22⟩
  have F23 : C8.Fun K "__init__" "Knowledge.__init__" s_Knowledge___init__ f23 _ := ⟨⟨oc23, od23, .none, kV23, dc23, pm23, an23, cd23, ct23, sl23, rfl, l23, c23⟩⟩
  have b23 : Binds K _ ["self"] [] := F23.binds rfl (ps := ["self"]) fun _ _ _ _ _ _ us hl => match us, hl with | [_], _ => rfl
  have mk23 : Mk K N f23 := ⟨mkN, a23, i23, kcN⟩
  have F24 : C8.Fun K "atoms" "Knowledge.atoms" s_Knowledge_atoms f24 _ := ⟨⟨oc24, od24, .none, kV24, dc24, pm24, an24, cd24, ct24, sl24, rfl, l24, c24⟩⟩
  have b24 : Binds K _ ["self"] [] := F24.binds rfl (ps := ["self"]) fun _ _ _ _ _ _ us hl => match us, hl with | [_], _ => rfl
  have me24 : Meth K N "atoms" f24 := ⟨a24, i24, k24⟩
  have F25 : C8.Fun K "copy" "Knowledge.copy" s_Knowledge_copy f25 _ := ⟨⟨oc25, od25, .none, kV25, dc25, pm25, an25, cd25, ct25, sl25, rfl, l25, c25⟩⟩
  have b25 : Binds K _ ["self"] [] := F25.binds rfl (ps := ["self"]) fun _ _ _ _ _ _ us hl => match us, hl with | [_], _ => rfl
  have me25 : Meth K N "copy" f25 := ⟨a25, i25, k25⟩
  have F26 : C8.Fun K "take" "Knowledge.take" s_Knowledge_take f26 _ := ⟨⟨oc26, od26, .none, kV26, dc26, pm26, an26, cd26, ct26, sl26, rfl, l26, c26⟩⟩
  have b26 : Binds K _ ["self", "word"] [] := F26.binds rfl (ps := ["self", "word"]) fun _ _ _ _ _ _ us hl => match us, hl with | [_, _], _ => rfl
  have me26 : Meth K N "take" f26 := ⟨a26, i26, k26⟩
  have F27 : C8.Fun K "can_make" "Knowledge.can_make" s_Knowledge_can_make f27 _ := ⟨⟨oc27, od27, .none, kV27, dc27, pm27, an27, cd27, ct27, sl27, rfl, l27, c27⟩⟩
  have b27 : Binds K _ ["self", "value"] [] := F27.binds rfl (ps := ["self", "value"]) fun _ _ _ _ _ _ us hl => match us, hl with | [_, _], _ => rfl
  have me27 : Meth K N "can_make" f27 := ⟨a27, i27, k27⟩
  refine ⟨PySem.W.fnOf "law" "law" (C8.fnArgs s_law) (C8.fnBody s_law) (C8.fnScope s_law) .none kV19 dc19 pm19 an19 cd19 ct19, fun s v => .of_eq rfl, fun base _ _ => ?_⟩
  have C1 := ok_is_number (P := l.prog) (w := w) (base := base) F1 b1 T 
  have C2 := ok_is_text (P := l.prog) (w := w) (base := base) F2 b2 T 
  have C3 := ok__is_within (P := l.prog) (w := w) (base := base) F3 b3 T C1 C2
  have C4 := ok_is_word (P := l.prog) (w := w) (base := base) F4 b4 T C3
  have C5 := ok__places_of_atoms (P := l.prog) (w := w) (base := base) F5 b5 T 
  have C6 := ok_rank_of (P := l.prog) (w := w) (base := base) F6 b6 T C5
  have C7 := ok__rank_of_atom (P := l.prog) (w := w) (base := base) F7 b7 T C6
  have C8 := ok__most_rank (P := l.prog) (w := w) (base := base) F8 b8 T 
  have C9 := ok__has_form (P := l.prog) (w := w) (base := base) F9 b9 T 
  have C10 := ok__is_term (P := l.prog) (w := w) (base := base) F10 b10 T C4 C9
  have mSm := ok_is_same (P := l.prog) (w := w) (base := base) me22 T F22 b22
  have C11 := ok__are_equal (P := l.prog) (w := w) (base := base) F11 b11 T mSm
  have C12 := ok__law_begin (P := l.prog) (w := w) (base := base) F12 b12 T 
  have C13 := ok__law_draw (P := l.prog) (w := w) (base := base) F13 b13 T 
  have C14 := ok__law_pick (P := l.prog) (w := w) (base := base) F14 b14 T C13
  have kA := ok_init (P := l.prog) (w := w) (base := base) mk20 (PySem.W.mg_of X G aC) F20 b20 T C10 C7 C8
  have fe := ok_eq (P := l.prog) (w := w) (base := base) F21 T C11
  have O : OwnE l.prog w K mg base 3 C := ⟨f21, _, _, fe, a21, i21, b21⟩
  have kK := ok_kinit (P := l.prog) (w := w) (base := base) mk23 Gk F23 b23
  have mA := ok_atoms (P := l.prog) (w := w) (base := base) me24 Gk T F24 b24
  have mC := ok_copy (P := l.prog) (w := w) (base := base) me25 Gk T kK F25 b25
  have mT := ok_take (U := UD) (P := l.prog) (w := w) (base := base) me26 Gk T O C5 F26 b26
  have mM := ok_can (U := UD) (P := l.prog) (w := w) (base := base) me27 Gk T O C4 C5 F27 b27
  have C15 := ok__law_pool (P := l.prog) (w := w) (base := base) F15 b15 T kA C13
  have C16 := ok__law_word (P := l.prog) (w := w) (base := base) F16 b16 T C13 C14 4
  have C17 := ok__law_inside (P := l.prog) (w := w) (base := base) F17 b17 T O 9
  have C18 := ok__law_right (P := l.prog) (w := w) (base := base) F18 b18 T O C17 mA mM
  exact fn_law F19 b19 T Gk O kK mT mA mC C12 C13 C14 C15 C16 C17 C18
end Hc
open PySem PySem.W PyProof.Rows
set_option maxRecDepth 100000 in
set_option maxHeartbeats 0 in
theorem PySem.Challenge.cw_hermitcell_k62_what_a_host_can_make_holds : PySem.Challenge.rw_hermitcell_k62_what_a_host_can_make.Holds := by
  w_on; o_law; k_head; (case hw => w_witness2)
  k_fill
  refine L2.walk_of (l := PySem.Challenge.rw_hermitcell_k62_what_a_host_can_make) (n := 63) (k := 15) (x := "script") (CX := fun _ => C8.CX0) (sp := fun w => Hc.spLaw _) rfl (by decide) rfl ⟨rfl, by decide, by decide⟩ (fun w h Y => PySem.W.kIn_of Y) ?F (fun _ _ a ns hl _ hS => ⟨a, ns, rfl, hS, Nat.le_trans hl (by decide), fun _ => rfl⟩) (fun _ _ _ _ _ h => h)
  case F =>
    intro w mg fa h KX G hmg
    refine' Hc.all_mk KX G hmg ?a1 ?l1 ?c1 ?k1 ?a2 ?l2 ?c2 ?k2 ?a3 ?l3 ?c3 ?k3 ?a4 ?l4 ?c4 ?k4 ?a5 ?l5 ?c5 ?k5 ?a6 ?l6 ?c6 ?k6 ?a7 ?l7 ?c7 ?k7 ?a8 ?l8 ?c8 ?k8 ?a9 ?l9 ?c9 ?k9 ?a10 ?l10 ?c10 ?k10 ?a11 ?l11 ?c11 ?k11 ?a12 ?l12 ?c12 ?k12 ?a13 ?l13 ?c13 ?k13 ?a14 ?l14 ?c14 ?k14 ?a15 ?l15 ?c15 ?k15 ?a16 ?l16 ?c16 ?k16 ?a17 ?l17 ?c17 ?k17 ?a18 ?l18 ?c18 ?k18 ?a19 ?l19 ?c19 ?k19 ?aC ?aN ?a20 ?i20 ?l20 ?c20 ?k20 ?a21 ?i21 ?l21 ?c21 ?k21 ?a22 ?i22 ?l22 ?c22 ?k22 ?a23 ?i23 ?l23 ?c23 ?k23 ?a24 ?i24 ?l24 ?c24 ?k24 ?a25 ?i25 ?l25 ?c25 ?k25 ?a26 ?i26 ?l26 ?c26 ?k26 ?a27 ?i27 ?l27 ?c27 ?k27 ?pgC ?hdC ?poC ?saC ?mkC ?kcC ?pgN ?hdN ?poN ?saN ?mkN ?kcN ?ha ?hn ?htk ?hm ?me ?nakind ?naterm ?narank ?na_stripped ?naA ?qint ?qstr ?qtuple ?qbool ?qlist ?qdict ?rNoneType ?rbool ?rint ?rstr ?rtuple ?rlist ?rdict ?nLEAST ?nGREATEST ?nMOST_CHARACTERS ?nMOST_DEEP ?nMOST_RANK ?nMOST_RANK_HOST ?ztype ?zint ?zstr ?zbool ?ztuple ?zlist ?zrange ?zzip ?zdict ?zlen ?zall ?zmax ?zisinstance ?zabs ?aF ?lF ?kF ?oF ?vtt1 ?wtt1 ?vtt2 ?wtt2 ?vtt3 ?wtt3 ?vtt4 ?wtt4 ?vtt5 ?wtt5 ?vkey
    (case a1 => k_is)
    (case l1 => k_is)
    (case c1 => k_is)
    (case k1 => k_is)
    (case a2 => k_is)
    (case l2 => k_is)
    (case c2 => k_is)
    (case k2 => k_is)
    (case a3 => k_is)
    (case l3 => k_is)
    (case c3 => k_is)
    (case k3 => k_is)
    (case a4 => k_is)
    (case l4 => k_is)
    (case c4 => k_is)
    (case k4 => k_is)
    (case a5 => k_is)
    (case l5 => k_is)
    (case c5 => k_is)
    (case k5 => k_is)
    (case a6 => k_is)
    (case l6 => k_is)
    (case c6 => k_is)
    (case k6 => k_is)
    (case a7 => k_is)
    (case l7 => k_is)
    (case c7 => k_is)
    (case k7 => k_is)
    (case a8 => k_is)
    (case l8 => k_is)
    (case c8 => k_is)
    (case k8 => k_is)
    (case a9 => k_is)
    (case l9 => k_is)
    (case c9 => k_is)
    (case k9 => k_is)
    (case a10 => k_is)
    (case l10 => k_is)
    (case c10 => k_is)
    (case k10 => k_is)
    (case a11 => k_is)
    (case l11 => k_is)
    (case c11 => k_is)
    (case k11 => k_is)
    (case a12 => k_is)
    (case l12 => k_is)
    (case c12 => k_is)
    (case k12 => k_is)
    (case a13 => k_is)
    (case l13 => k_is)
    (case c13 => k_is)
    (case k13 => k_is)
    (case a14 => k_is)
    (case l14 => k_is)
    (case c14 => k_is)
    (case k14 => k_is)
    (case a15 => k_is)
    (case l15 => k_is)
    (case c15 => k_is)
    (case k15 => k_is)
    (case a16 => k_is)
    (case l16 => k_is)
    (case c16 => k_is)
    (case k16 => k_is)
    (case a17 => k_is)
    (case l17 => k_is)
    (case c17 => k_is)
    (case k17 => k_is)
    (case a18 => k_is)
    (case l18 => k_is)
    (case c18 => k_is)
    (case k18 => k_is)
    (case a19 => k_is)
    (case l19 => k_is)
    (case c19 => k_is)
    (case k19 => k_is)
    (case aC => k_is)
    (case aN => k_is)
    (case a20 => k_is)
    (case i20 => k_is)
    (case l20 => k_is)
    (case c20 => k_is)
    (case k20 => k_is)
    (case a21 => k_is)
    (case i21 => k_is)
    (case l21 => k_is)
    (case c21 => k_is)
    (case k21 => k_is)
    (case a22 => k_is)
    (case i22 => k_is)
    (case l22 => k_is)
    (case c22 => k_is)
    (case k22 => k_is)
    (case a23 => k_is)
    (case i23 => k_is)
    (case l23 => k_is)
    (case c23 => k_is)
    (case k23 => k_is)
    (case a24 => k_is)
    (case i24 => k_is)
    (case l24 => k_is)
    (case c24 => k_is)
    (case k24 => k_is)
    (case a25 => k_is)
    (case i25 => k_is)
    (case l25 => k_is)
    (case c25 => k_is)
    (case k25 => k_is)
    (case a26 => k_is)
    (case i26 => k_is)
    (case l26 => k_is)
    (case c26 => k_is)
    (case k26 => k_is)
    (case a27 => k_is)
    (case i27 => k_is)
    (case l27 => k_is)
    (case c27 => k_is)
    (case k27 => k_is)
    (case pgC => k_is)
    (case hdC => k_is)
    (case poC => k_is)
    (case saC => k_is)
    (case mkC => k_is)
    (case kcC => k_is)
    (case pgN => k_is)
    (case hdN => k_is)
    (case poN => k_is)
    (case saN => k_is)
    (case mkN => k_is)
    (case kcN => k_is)
    (case ha => k_is)
    (case hn => k_is)
    (case htk => k_is)
    (case hm => k_is)
    (case me => kit_is)
    (case nakind => k_is)
    (case naterm => k_is)
    (case narank => k_is)
    (case na_stripped => k_is)
    (case naA => k_is)
    (case qint => kit_is)
    (case qstr => kit_is)
    (case qtuple => kit_is)
    (case qbool => kit_is)
    (case qlist => kit_is)
    (case qdict => kit_is)
    (case rNoneType => kit_is)
    (case rbool => kit_is)
    (case rint => kit_is)
    (case rstr => kit_is)
    (case rtuple => kit_is)
    (case rlist => kit_is)
    (case rdict => kit_is)
    (case nLEAST => k_is)
    (case nGREATEST => k_is)
    (case nMOST_CHARACTERS => k_is)
    (case nMOST_DEEP => k_is)
    (case nMOST_RANK => k_is)
    (case nMOST_RANK_HOST => k_is)
    (case ztype => k_is)
    (case zint => k_is)
    (case zstr => k_is)
    (case zbool => k_is)
    (case ztuple => k_is)
    (case zlist => k_is)
    (case zrange => k_is)
    (case zzip => k_is)
    (case zdict => k_is)
    (case zlen => k_is)
    (case zall => k_is)
    (case zmax => k_is)
    (case zisinstance => k_is)
    (case zabs => k_is)
    (case aF => k_is)
    (case lF => k_is)
    (case kF => k_keys)
    (case oF => decide)
    (case vtt1 => k_is)
    (case wtt1 => k_is)
    (case vtt2 => k_is)
    (case wtt2 => k_is)
    (case vtt3 => k_is)
    (case wtt3 => k_is)
    (case vtt4 => k_is)
    (case wtt4 => k_is)
    (case vtt5 => k_is)
    (case wtt5 => k_is)
    (case vkey => k_is)



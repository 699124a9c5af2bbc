import PyProof.Rows.All
import Wide.All
import OpenK.AllK
import Wide.FinOn
import HandS.ForMost
import HandS.Codes
import HandS.IsInst
import HandS.More
import HandS.OwnEq
import HandS.EndBits
import HandS.Style
import PyProof.Rows.CallKwBuiltin
import KE.KMinKey
import HandS.SortKw
import HandS.Walk
import HandS.Zip
import HandS.TupAny
import HandS.TupMul
import HandS.Exc
import HandS.ExcOwn
import HandS.Small
import HandS.WordsExc
import PyProof.StrBlock2
import HandS.ExcIs
import KE.RegKIsAll
import HandS.TupLe
import HandS.DictComp
import HandS.Lambda
import HandS.Nested
import HandS.DeepEq
import HandS.EndTab
import PySem.Challenge.RW_hermitcell_k61_what_words_are
set_option Elab.async false
set_option maxRecDepth 100000
set_option maxHeartbeats 4000000
set_option linter.all false
/-! Rules that the layer lacks. -/
namespace Hr
open PySem PySem.SeqAt PyProof.Rows
open AutoSeq1 (wpAny_loadPart')
open MeetsSeq MeetsSeq2 MeetsSeq3 SeqRoads2
/-! ### x in l: the items' == may run code -/
section
variable {prog : Program} {w : World} {A : Around} {E : Value → Shared → Prop}
/-- the list stands still, its items are asked one by one -/
structure Asks (prog : Program) (w : World) (A : Around) (E : Value → Shared → Prop) (l : Addr) (x : Value) (J : Shared → Prop) (bs : List Bool) : Prop where
  at_ : ∀ s, J s → ∃ (items : Array Value) (n : Nat), s.heap.get? l = some { cls := .type "list", data := .seq items n } ∧ items.size = bs.length ∧
    ∀ (i : Nat) (h : i < items.size) (h2 : i < bs.length), wpAny (model prog w) A.in1 (eqBool items[i] x) (fun r s' => r = bs[i] ∧ J s') E s
theorem in_loop {R : Result → Shared → Prop} {l : Addr} {x : Value} {J : Shared → Prop} {bs : List Bool} (hl : Asks prog w A (fun e s' => R (.error e) s') l x J bs) (k : Nat) :
    ∀ i : Nat, bs.length - i = k → ∀ s, J s → (∀ s', J s' → R (.ok (.ret (.bool ((bs.drop i).any id)))) s') →
      wpAny (model prog w) A.in1 (Builtin.«list.__contains__.loop» ⟨[.ref l, x, rawInt i], []⟩) (GQ.FinOf prog w A R) (fun e s' => R (.error e) s') s := by
  induction k with
  | zero =>
    intro i hk s h fin
    obtain ⟨items, n, hg, hz, _⟩ := hl.at_ _ h
    have f := fin s h
    rw [List.drop_eq_nil_of_le (by omega)] at f
    obtain ⟨hp, g, d, tk, os⟩ := s
    wp_walk using wpAny_loadPart' hg
    have hi : items[((i : Nat) : Int).toNat]? = none := by simp; omega
    rw [hi]
    wp_walk
    exact f
  | succ k ih =>
    intro i hk s h fin
    obtain ⟨items, n, hg, hz, turn⟩ := hl.at_ _ h
    have h1 : i < items.size := by omega
    have h2 : i < bs.length := by omega
    have ht := turn i h1 h2
    obtain ⟨hp, g, d, tk, os⟩ := s
    wp_walk using wpAny_loadPart' hg
    have hi : items[((i : Nat) : Int).toNat]? = some items[i] := by simp [h1]
    have hd : (bs.drop i).any id = (bs[i] || (bs.drop (i + 1)).any id) := by rw [List.drop_eq_getElem_cons h2, List.any_cons]; rfl
    rw [hd] at fin
    rw [hi]
    refine wpAny_bind (wpAny_mono ht (fun r s2 q2 => ?_) fun _ _ z => z)
    obtain ⟨hr, j2⟩ := q2
    subst hr
    cases hb : bs[i] with
    | true =>
      rw [hb] at fin
      have f := fin s2 j2
      obtain ⟨hp2, g2, d2, tk2, os2⟩ := s2
      wp_walk
      exact f
    | false =>
      rw [hb] at fin
      have rec_ := ih (i + 1) (by omega) s2 j2 fin
      have hc : ((i : Int) + 1) = ((i + 1 : Nat) : Int) := by omega
      obtain ⟨hp2, g2, d2, tk2, os2⟩ := s2
      wp_walk
      rw [hc]
      exact ⟨plainId_quiet plain_contains_loop _, codeAny_builtin entry_contains_loop (by
        rw [Around.under_plainId plain_contains_loop _]
        exact rec_)⟩
theorem in_list {R : Result → Shared → Prop} {l : Addr} {x : Value} {J : Shared → Prop} {bs : List Bool} (hl : Asks prog w A (fun e s' => R (.error e) s') l x J bs) {s : Shared} (h : J s)
    (fin : ∀ s', J s' → R (.ok (.ret (.bool (bs.any id)))) s') :
    wpAny (model prog w) A.in1 (Builtin.«list.__contains__» ⟨[.ref l, x], []⟩) (GQ.FinOf prog w A R) (fun e s' => R (.error e) s') s := by
  obtain ⟨items, n, hg, hz, _⟩ := hl.at_ _ h
  have rec_ := in_loop (A := A) hl _ 0 rfl s h (by simpa using fin)
  obtain ⟨hp, g, d, tk, os⟩ := s
  wp_walk using wpAny_loadPart' hg
  exact ⟨plainId_quiet plain_contains_loop _, codeAny_builtin entry_contains_loop (by
    rw [Around.under_plainId plain_contains_loop _]
    exact rec_)⟩
theorem call_in {l : Addr} {x : Value} {J : Shared → Prop} {bs : List Bool} {Q : Value → Shared → Prop} (hl : Asks prog w A E l x J bs) {s : Shared} (h : J s) (fin : ∀ s', J s' → Q (.bool (bs.any id)) s') :
    wpAny (model prog w) A (call (.builtin "list.__contains__") [.ref l, x]) Q E s := by
  obtain ⟨items, n, hg, _, _⟩ := hl.at_ _ h
  exact GQ.call_here F.slot_list_contains ⟨_, hg, rfl⟩ F.entry_list_contains (F.args_list_contains_2 _ _) (in_list (R := wants Q E) hl h fin)
theorem op_in_ {l : Addr} {x : Value} {J : Shared → Prop} {bs : List Bool} {Q : Value → Shared → Prop} (hl : Asks prog w A E l x J bs) {s : Shared} (h : J s) (fin : ∀ s', J s' → Q (.bool (bs.any id)) s') :
    wpAny (model prog w) A (compareOp .In x (.ref l)) Q E s := by
  obtain ⟨items, n, hg, _, _⟩ := hl.at_ _ h
  show wpAny _ _ (do return .bool (← contains (.ref l) x)) Q E s
  refine wpAny_bind (wpAny_contains_slot ⟨_, hg, rfl⟩ F.slot_list_contains ?_)
  exact call_in hl h fun s' j => wpAny_truthy_bool (wpAny_pure (fin s' j))
theorem op_notIn_ {l : Addr} {x : Value} {J : Shared → Prop} {bs : List Bool} {Q : Value → Shared → Prop} (hl : Asks prog w A E l x J bs) {s : Shared} (h : J s) (fin : ∀ s', J s' → Q (.bool (!bs.any id)) s') :
    wpAny (model prog w) A (compareOp .NotIn x (.ref l)) Q E s := by
  obtain ⟨items, n, hg, _, _⟩ := hl.at_ _ h
  show wpAny _ _ (do return .bool (!(← contains (.ref l) x))) Q E s
  refine wpAny_bind (wpAny_contains_slot ⟨_, hg, rfl⟩ F.slot_list_contains ?_)
  exact call_in hl h fun s' j => wpAny_truthy_bool (wpAny_pure (fin s' j))
end
end Hr

namespace Hr
open PySem PySem.Spec PyProof.Rows L2
/-! ### t[::-1] of a tuple -/
section
variable {prog : Program} {w : World} {A : Around} {E : Value → Shared → Prop} {s : Shared}
theorem rev_adj (n : Nat) : Builtin.Slice.sliceAdjust none none (-1) (n : Int) = ((n : Int) - 1, -1) := rfl
theorem rev_places (n : Nat) : Builtin.Slice.slicePlaces ((n : Int) - 1) (-1) (-1) = n := by
  unfold Builtin.Slice.slicePlaces
  rw [if_neg (by decide)]
  by_cases h : (n : Int) - 1 > -1
  · rw [if_pos h, show (-(-1) : Int) = 1 by decide, Int.ediv_one]; omega
  · rw [if_neg h]; omega
theorem rev_pick (xs : Array Value) : ((List.range xs.size).filterMap fun (m : Nat) => xs[((xs.size : Int) - 1 + (m : Int) * -1).toNat]?).toArray = xs.toList.reverse.toArray := by
  congr 1
  have key : ∀ m, m < xs.size → xs[((xs.size : Int) - 1 + (m : Int) * -1).toNat]? = xs.toList.reverse[m]? := fun m hm => by
    rw [List.getElem?_reverse (by simpa using hm), Array.length_toList, ← Array.getElem?_toList]
    congr 1
    omega
  have aux : ∀ (l : List Value), (List.range l.length).filterMap (fun m => l[m]?) = l := fun l => by
    induction l with
    | nil => rfl
    | cons x r ih =>
      rw [List.length_cons, List.range_succ_eq_map, List.filterMap_cons]
      show x :: _ = _
      rw [List.filterMap_map]
      exact congrArg (x :: ·) ih
  have e := aux xs.toList.reverse
  rw [List.length_reverse, Array.length_toList] at e
  have cong : ∀ (f g : Nat → Option Value) (l : List Nat), (∀ m ∈ l, f m = g m) → l.filterMap f = l.filterMap g := fun f g l => by
    induction l with
    | nil => exact fun _ => rfl
    | cons x r ih =>
      intro h
      rw [List.filterMap_cons, List.filterMap_cons, h x List.mem_cons_self, ih fun m hm => h m (List.mem_cons_of_mem _ hm)]
  exact (cong _ _ _ fun m hm => key m (List.mem_range.mp hm)).trans e
theorem getItem_tuple_rev {t sl : Addr} {items : Array Value} {vs : Value} {Q : Value → Shared → Prop} (ht : IsTup s.heap t items) (hs : s.heap.IsSliceOf sl .none .none vs) (ps : IsPart vs (some (-1)))
    (h : Q (.ref s.heap.objs.size) { s with heap := s.heap.push { cls := .type "tuple", data := .seq items.toList.reverse.toArray } }) (hz : items.size ≤ sizeLine) : wpAny (model prog w) A (getItem (.ref t) (.ref sl)) Q E s := by
  have hok : sizeOk (.seq items.toList.reverse.toArray) := by
    show items.toList.reverse.toArray.size ≤ sizeLine
    rw [List.size_toArray, List.length_reverse, Array.length_toList]; exact hz
  obtain ⟨os, hos, hcs, hds⟩ := id hs
  have hT : s.TypeIs (.ref sl) "slice" := ⟨os, hos, hcs⟩
  unfold getItem
  try with_reducible refine wpAny_holding ?_
  first | refine wpAny_bind (wpAny_pure ?_) | skip
  refine wpAny_bind (wpAny_sequenceKey ht.typeIs (by decide) ?_)
  refine wpAny_bind (wpAny_callSpecial?_slot (name := Str.ofString "__getitem__") ht.typeIs PyProof.Rows.slot_tuple_getitem
    (wpAny_call_entry PyProof.Rows.slot_tuple_getitem ht.typeIs entry_tuple_getitem ?_ (args_tuple_getitem _ _)))
  show wpAny _ _ (Builtin.Tuple.tupleItemsOf (.ref t) >>= _) _ _ s
  refine wpAny_bind (tupleItemsOf_ ht ?_)
  refine wpAny_bind (wpAny_typeOf hT ?_)
  rw [if_pos (by decide)]
  have happ : ∀ {Q' : Int × Int × Nat → Shared → Prop} {E' : Value → Shared → Prop} {A' : Around}, Q' ((items.size : Int) - 1, -1, items.size) s → wpAny (model prog w) A' (Builtin.Slice.sliceApplied (.ref sl) (pure (items.size : Int))) Q' E' s := fun {Q' E' A'} q => by
    unfold Builtin.Slice.sliceApplied Builtin.Slice.sliceFields
    refine wpAny_bind (wpAny_bind (wpAny_field hos hds (x := .none) rfl (wpAny_bind (wpAny_field hos hds (x := .none) rfl (wpAny_bind (wpAny_field hos hds (x := vs) rfl (wpAny_pure ?_)))))))
    cases ps with
    | int i u =>
      refine wpAny_bind (slicePart_int ?_)
      show wpAny _ _ (if ((-1 : Int) == 0) = true then _ else _) _ _ s
      rw [if_neg (by decide)]
      refine wpAny_bind (slicePart_none (wpAny_bind (slicePart_none (wpAny_bind (wpAny_pure ?_)))))
      show wpAny _ _ (match Builtin.Slice.sliceAdjust none none (-1) (items.size : Int) with | (lo, hi) => pure (lo, (-1 : Int), Builtin.Slice.slicePlaces lo hi (-1))) _ _ s
      rw [rev_adj]
      show wpAny _ _ (pure ((items.size : Int) - 1, (-1 : Int), Builtin.Slice.slicePlaces ((items.size : Int) - 1) (-1) (-1))) _ _ s
      rw [rev_places]
      exact wpAny_pure q
  refine wpAny_bind (happ ?_)
  show wpAny _ _ (if (((items.size : Int) - 1) == 0 && (-1 : Int) == 1 && items.size == items.size) = true then _ else _) _ _ s
  rw [if_neg (by simp), rev_pick]
  first
    | exact wpAny_bind (m := Builtin.Tuple.tupleExact _) (wpAny_newObj_type (wpAny_pure ⟨_, rfl, wpAny_pure h⟩) hok)
    | exact wpAny_bind (m := Builtin.Tuple.tupleExact _) (wpAny_newObj_type (wpAny_bind (wpAny_pure (wpAny_pure ⟨_, rfl, wpAny_pure h⟩))) hok)
    | exact wpAny_bind (wpAny_bind (m := Builtin.Tuple.tupleExact _) (wpAny_newObj_type (wpAny_pure (wpAny_pure ⟨_, rfl, wpAny_pure h⟩)) hok))
    | exact wpAny_bind (wpAny_bind (m := Builtin.Tuple.tupleExact _) (wpAny_newObj_type (wpAny_pure ⟨_, rfl, wpAny_pure h⟩) hok))
end
def tRevT (K : PySem.W.Frag) (te : TE) : TE := fun σ H Q => te σ H fun x H1 => ∃ a xs, x = .ref a ∧ SqT K H1 a xs ∧ ∀ p, H1 p = none → Q (.ref p) (upd H1 p (.tup xs.reverse))
theorem pe_revT {X : Cx} {e : Expr} {te : TE} {k : Nat} {p1 p2 p3 pos : Pos} (he : PE X e te) : PE X (.Subscript e (.Slice none none (some (.UnaryOp .USub (.Constant (.int 1) k p1) p2)) p3) pos) (tRevT X.K te) := by
  refine ⟨fun pins s σ H Q I h => ?_⟩
  refine Subscript_ (thn (he.run pins s σ H _ I h) fun v s1 ⟨x, H1, I1, r1, a, xs, ex, hx, q⟩ => ?_)
  subst ex
  cases r1
  have part : PO X (some (.UnaryOp .USub (.Constant (.int 1) k p1) p2)) (tPart (tUn (rU fun i => .int (-i)) (tC (.int 1)))) := po_some (pe_un un_neg pe_int)
  refine wpAny_Slice (thn (po_none.run pins s1 σ H1 (fun o H2 => o = none ∧ H2 = H1) I1 ⟨rfl, rfl⟩) fun vl s2 ⟨l, H2, I2, pl, el, e2⟩ => ?_)
  subst el e2
  refine thn (po_none.run pins s2 σ H2 (fun o H3 => o = none ∧ H3 = H2) I2 ⟨rfl, rfl⟩) fun vu s3 ⟨u, H3, I3, pu, eu, e3⟩ => ?_
  subst eu e3
  refine thn (part.run pins s3 σ H3 (fun o H4 => o = some (-1) ∧ H4 = H3) I3 ⟨1, rfl, -1, rfl, rfl, rfl⟩) fun vs s4 ⟨o, H4, I4, ps, eo, e4⟩ => ?_
  subst eo e4
  have I5 : Inv X pins σ H4 { s4 with heap := s4.heap.push { cls := .type "slice", data := .fields #[vl, vu, vs] } } := I4.kept (t' := s4.toks) fun b ob z => Heap.get?_push_of_some _ z
  obtain ⟨its, r, ht, hz⟩ := I5.tuple hx
  have hlen := r.length
  show wpAny (model X.prog X.w) X.A (subscriptTail e (.Slice none none (some (.UnaryOp .USub (.Constant (.int 1) k p1) p2)) p3) (.ref a) (.ref s4.heap.objs.size)) (EP X pins σ Q) X.xe { s4 with heap := s4.heap.push { cls := .type "slice", data := .fields #[vl, vu, vs] } }
  cases pl
  cases pu
  refine tail_any (ops := [.ref a, .ref s4.heap.objs.size]) ht.typeIs PyProof.Rows.slot_tuple_getitem.lookup ?_ (by with_unfolding_all rfl)
  refine getItem_tuple_rev ht (Heap.IsSliceOf.new _ .none .none vs) ps ?_ (by rw [List.size_toArray]; omega)
  refine ⟨.ref _, _, I5.laid (t' := s4.toks) (o := .tup xs.reverse) (fun b ob z => Heap.get?_push_of_some _ z) (Nat.le_refl _) ?_, rfl, q _ (I5.hok.fresh (Nat.le_refl _))⟩
  exact ⟨by rw [List.length_reverse]; exact hz, its.toArray.toList.reverse, by simpa using r.reverse, IsTup.new _ _⟩
end Hr

namespace Hr
open PySem PySem.Spec PyProof.Rows
/-! ### max(xs, default=d) -/
section
variable {prog : Program} {w : World} {A : Around} {R : Result → Shared → Prop} {I : Addr} {fp wr : List Addr} {n : Nat} {P : Nat → Value → Prop} {St : Nat → Heap → Prop} {kw : List (Str × Value)}
theorem max_loopK (W : Walks prog w A.in1 I fp wr n P St) (bt : Nat → Nat → Bool) (hcmp : CmpOf prog w A.in1 .Gt P bt) (S : Addr) (hSf : S ∉ fp) :
    ∀ (k j : Nat) (s : Shared) (vb : Value) (c : Nat), n - (j + 1) = k → j + 1 ≤ n → St (j + 1) s.heap → P (argBest bt j) vb →
    s.heap.get? S = some { cls := .type "list", dict := none, data := .seq #[vb, vb] c, slots := #[] } →
    (∀ v h' tk, P (argBest bt (n - 1)) v → (∀ b o, b ∉ wr → b ≠ S → s.heap.get? b = some o → h'.get? b = some o) → R (.ok (.ret v)) { s with heap := h', toks := tk }) →
    codeAny (model prog w) A (.builtin "max.loop" ⟨[.ref I, .none, .ref S], kw⟩) R s := by
  have hSw : S ∉ wr := fun h => hSf (W.sub _ h)
  have nm : (toString "max" ++ toString ".loop" : String) = "max.loop" := by decide
  intro k
  induction k with
  | zero =>
    intro j s vb c hk hj hst hPb hS hR
    have hin : j + 1 = n := by omega
    refine codeAny_builtin F.entry_max_loop ?_
    rw [Around.under_plainId F.plain_max_loop _]
    show wpAny _ A.in1 (seqItems? (.ref S) >>= _) _ _ s
    refine wpAny_bind (wpAny_seqItems hS rfl ?_)
    show wpAny _ A.in1 (tryCatch (pyNext (.ref I)) _ >>= _) _ _ s
    refine wpAny_bind (wpAny_tryCatch (W.done s _ _ (hin ▸ hst) fun h' tk hk' => ?_))
    have hS' := hk' S _ hSw hS
    show wpAny _ A.in1 (updateSeq S (fun _ => #[]) >>= _) _ _ _
    refine wpAny_bind ?_
    refine wpAny_updateSeq hS' rfl (wpAny_bind (wpAny_letGo (wpAny_pure ?_)))
    exact hR vb _ tk (by rw [← hin]; exact hPb) fun b o hbw hbS e => (Heap.get?_update_other _ _ (Ne.symm hbS)).trans (hk' b o hbw e)
  | succ k ih =>
    intro j s vb c hk hj hst hPb hS hR
    have hlt : j + 1 < n := by omega
    refine codeAny_builtin F.entry_max_loop ?_
    rw [Around.under_plainId F.plain_max_loop _]
    show wpAny _ A.in1 (seqItems? (.ref S) >>= _) _ _ s
    refine wpAny_bind (wpAny_seqItems hS rfl ?_)
    show wpAny _ A.in1 (tryCatch (pyNext (.ref I)) _ >>= _) _ _ s
    refine wpAny_bind (wpAny_tryCatch (W.item (j + 1) s _ _ hlt hst fun v h' tk hP hst' hk' => ?_))
    have hS' := hk' S _ hSw hS
    show wpAny _ A.in1 (tryCatch (holding [v, v] (richCompare .Gt v vb >>= _)) _ >>= _) _ _ _
    refine wpAny_bind (wpAny_tryCatch (wpAny_holding (wpAny_bind (hcmp (j + 1) (argBest bt j) v vb _ _ _ hP hPb ?_))))
    refine wpAny_bind (wpAny_holding (wpAny_truthy_bool ?_))
    refine wpAny_bind (wpAny_letGo (wpAny_pure ?_))
    cases hb : bt (j + 1) (argBest bt j) with
    | true =>
      simp only [if_true]
      refine wpAny_bind ?_
      refine wpAny_updateSeq hS' rfl (wpAny_bind (wpAny_letGo ?_))
      rw [nm]
      refine wpAny_pure ⟨plainId_quiet F.plain_max_loop _, ih (j + 1) _ v _ (by omega) hlt (W.frame _ _ _ hst' fun b hbf o e => ?_) (by simp only [argBest, hb, if_true]; exact hP) (Heap.get?_update_self _ hS' rfl)
        fun v' h'' tk'' hP' hk'' => ?_⟩
      · exact (Heap.get?_update_other _ _ (fun h : S = b => hSf (by rw [h]; exact hbf))).trans e
      · exact hR v' h'' tk'' hP' fun b o hbw hbS e => hk'' b o hbw hbS ((Heap.get?_update_other _ _ (Ne.symm hbS)).trans (hk' b o hbw e))
    | false =>
      simp only [Bool.false_eq_true, if_false]
      refine wpAny_bind (wpAny_letGo ?_)
      rw [nm]
      refine wpAny_pure ⟨plainId_quiet F.plain_max_loop _, ih (j + 1) _ vb c (by omega) hlt hst' (by simp only [argBest, hb, Bool.false_eq_true, if_false]; exact hPb) hS' fun v' h'' tk'' hP' hk'' => ?_⟩
      exact hR v' h'' tk'' hP' fun b o hbw hbS e => hk'' b o hbw hbS (hk' b o hbw e)
theorem max_firstK (W : Walks prog w A.in1 I fp wr n P St) (bt : Nat → Nat → Bool) (hcmp : CmpOf prog w A.in1 .Gt P bt) (S : Addr) (hSf : S ∉ fp) (hn : 0 < n) {s : Shared} {c : Nat} (hst : St 0 s.heap)
    (hS : s.heap.get? S = some { cls := .type "list", dict := none, data := .seq #[] c, slots := #[] })
    (hR : ∀ v h' tk, P (argBest bt (n - 1)) v → (∀ b o, b ∉ wr → b ≠ S → s.heap.get? b = some o → h'.get? b = some o) → R (.ok (.ret v)) { s with heap := h', toks := tk }) :
    codeAny (model prog w) A (.builtin "max.loop" ⟨[.ref I, .none, .ref S], kw⟩) R s := by
  have hSw : S ∉ wr := fun h => hSf (W.sub _ h)
  have nm : (toString "max" ++ toString ".loop" : String) = "max.loop" := by decide
  refine codeAny_builtin F.entry_max_loop ?_
  rw [Around.under_plainId F.plain_max_loop _]
  show wpAny _ A.in1 (seqItems? (.ref S) >>= _) _ _ s
  refine wpAny_bind (wpAny_seqItems hS rfl ?_)
  show wpAny _ A.in1 (tryCatch (pyNext (.ref I)) _ >>= _) _ _ s
  refine wpAny_bind (wpAny_tryCatch (W.item 0 s _ _ hn hst fun v h' tk hP hst' hk' => ?_))
  have hS' := hk' S _ hSw hS
  show wpAny _ A.in1 (updateSeq S (fun _ => #[v, v]) >>= _) _ _ _
  refine wpAny_bind ?_
  refine wpAny_updateSeq hS' rfl ?_
  rw [nm]
  refine wpAny_pure ⟨plainId_quiet F.plain_max_loop _, max_loopK W bt hcmp S hSf _ 0 _ v _ rfl hn (W.frame _ _ _ hst' fun b hbf o e => ?_) hP (Heap.get?_update_self _ hS' rfl) fun v' h'' tk'' hP' hk'' => ?_⟩
  · exact (Heap.get?_update_other _ _ (fun h : S = b => hSf (by rw [h]; exact hbf))).trans e
  · exact hR v' h'' tk'' hP' fun b o hbw hbS e => hk'' b o hbw hbS ((Heap.get?_update_other _ _ (Ne.symm hbS)).trans (hk' b o hbw e))
/-- nothing there: the default -/
theorem max_noneK {d : Value} (W : Walks prog w A.in1 I fp wr 0 P St) (S : Addr) (hSf : S ∉ fp) {s : Shared} {c : Nat} (hst : St 0 s.heap)
    (hS : s.heap.get? S = some { cls := .type "list", dict := none, data := .seq #[] c, slots := #[] })
    (hR : ∀ h' tk, (∀ b o, b ∉ wr → b ≠ S → s.heap.get? b = some o → h'.get? b = some o) → R (.ok (.ret d)) { s with heap := h', toks := tk }) :
    codeAny (model prog w) A (.builtin "max.loop" ⟨[.ref I, .none, .ref S], [(Str.ofString "default", d)]⟩) R s := by
  refine codeAny_builtin F.entry_max_loop ?_
  rw [Around.under_plainId F.plain_max_loop _]
  show wpAny _ A.in1 (seqItems? (.ref S) >>= _) _ _ s
  refine wpAny_bind (wpAny_seqItems hS rfl ?_)
  show wpAny _ A.in1 (tryCatch (pyNext (.ref I)) _ >>= _) _ _ s
  refine wpAny_bind (wpAny_tryCatch (W.done s _ _ hst fun h' tk hk' => ?_))
  exact wpAny_bind (wpAny_rule (wpAny_pure (hR h' tk fun b o hbw _ e => hk' b o hbw e)))
end
theorem max_default_args (a v : Value) : argsOk "max" ⟨[a], [(Str.ofString "default", v)]⟩ := by unfold argsOk; kernel_rfl
section
variable {prog : Program} {w : World} {A : Around} {E : Value → Shared → Prop} {s : Shared}
theorem call_maxD {l : Addr} {xs : Array (Int × Tok)} {d : Value} {Q : Value → Shared → Prop} (hh : A.handled = none) (hl : s.heap.IsList l (intItems xs))
    (h : ∀ v h' tk, (xs.size = 0 ∧ v = d ∨ 0 < xs.size ∧ (intItems xs)[argBest (fun i j => decide (numAt xs i > numAt xs j)) (xs.size - 1)]? = some v) → (∀ b o, s.heap.get? b = some o → h'.get? b = some o) → Q v { s with heap := h', toks := tk }) :
    wpAny (model prog w) A (call (.builtin "max") [.ref l] [(Str.ofString "default", d)]) Q E s := by
  have nm : (toString "max" ++ toString ".loop" : String) = "max.loop" := by decide
  refine PyProof.Rows.kmk_tree F.kind_max F.plain_max F.entry_max (max_default_args _ _) ?_
  show wpAny _ A.in1 (Builtin.Builtins.bindParams "max" ["key", "default"] 0 ⟨[], [(Str.ofString "default", d)]⟩ >>= _) _ _ s
  refine wpAny_bind (wpAny_of_eq (show Builtin.Builtins.bindParams "max" ["key", "default"] 0 ⟨[], [(Str.ofString "default", d)]⟩ = pure [none, some d] from rfl) ?_)
  refine wpAny_bind (wpAny_pure ?_)
  refine wpAny_bind (iter_intList hl fun s₂ e st hfp hlI => ?_)
  subst e
  refine wpAny_bind (wpAny_newObj_type ?_)
  have W := Walks.list (prog := prog) (w := w) (A := A.in1) hh s.heap.objs.size l hlI (intItems xs)
  have hSf : (s.heap.push { cls := .type "list_iterator", data := .fields #[.ref l, .int 0 0] }).objs.size ∉ [s.heap.objs.size, l] := fun hm => Nat.lt_irrefl _ (hfp _ hm)
  have hz : (intItems xs).size = xs.size := by simp [intItems]
  rw [nm]
  refine wpAny_pure ⟨plainId_quiet F.plain_max_loop _, ?_⟩
  have fin : ∀ v h' tk, (xs.size = 0 ∧ v = d ∨ 0 < xs.size ∧ (intItems xs)[argBest (fun i j => decide (numAt xs i > numAt xs j)) (xs.size - 1)]? = some v) →
      (∀ b o, b ∉ [s.heap.objs.size] → b ≠ (s.heap.push { cls := .type "list_iterator", data := .fields #[.ref l, .int 0 0] }).objs.size →
        ((s.heap.push { cls := .type "list_iterator", data := .fields #[.ref l, .int 0 0] }).push { cls := .type "list", data := .seq #[] }).get? b = some o → h'.get? b = some o) →
      wants Q E (.ok (.ret v)) { s with heap := h', toks := tk } := fun v h' tk hv hk => by
    refine h v h' tk hv (old_kept (l := l) fun b o hb e => ?_)
    exact hk b o hb (Nat.ne_of_lt (Heap.lt_size e)) (Heap.get?_push_of_some _ e)
  by_cases hn : 0 < xs.size
  · refine max_firstK W _ (CmpOf.ints_gt (numAt xs) (fun _ _ => intItems_at)) _ hSf (by rw [hz]; exact hn) (W.frame _ _ _ st fun b _ o e => Heap.get?_push_of_some _ e) (Heap.get?_push_size _ rfl) fun v h' tk hP hk => ?_
    exact fin v h' tk (.inr ⟨hn, by rw [hz] at hP; exact hP⟩) hk
  · have hn0 : xs.size = 0 := by omega
    have W0 : Walks prog w A.in1 s.heap.objs.size [s.heap.objs.size, l] [s.heap.objs.size] 0 (fun i v => (intItems xs)[i]? = some v) (fun i h => h.IsListIter s.heap.objs.size l i ∧ h.IsList l (intItems xs)) := by
      have W' := W
      rw [hz, hn0] at W'
      exact W'
    refine max_noneK W0 _ hSf (W.frame _ _ _ st fun b _ o e => Heap.get?_push_of_some _ e) (Heap.get?_push_size _ rfl) fun h' tk hk => ?_
    exact fin d h' tk (.inl ⟨hn0, rfl⟩) hk
end
end Hr

namespace Hr
open PySem PySem.Spec PyProof.Rows L2
def rMaxD (K : PySem.W.Frag) : List V → List V → Hp → VK → Prop := fun vs zs H Q => ∃ (a : Addr) (ns : List Int) (d : Int), vs = [.ref a] ∧ zs = [.int d] ∧ SqL K H a (ns.map V.int) ∧
  ∀ m, (ns = [] → m = d) → (ns ≠ [] → m ∈ ns ∧ ∀ k ∈ ns, k ≤ m) → Q (.int m) H
theorem call_maxDK {X : Cx} (hc : X.calm = true) : CallRK X (.builtin "max") [Str.ofString "default"] (rMaxD X.K) := by
  intro pins s σ H xs zs us ws Q I r1 r2 h
  obtain ⟨a, ns, d, rfl, rfl, hs, q⟩ := h
  obtain ⟨its, rv, pl, hz⟩ := I.list hs
  rw [Vals.ref1 r1]
  obtain ⟨wd, rfl, rd⟩ := vals1 r2
  obtain ⟨td, rfl⟩ := rd
  have hi : IntsAre its ns := intsAre_of rv
  obtain ⟨ps, e⟩ := hi.allInts.items
  have hns : ns = ps.toList.map (·.1) := by rw [← hi.numsOf, ← nums_intItems, ← e]
  have hl := pl.isList
  rw [e] at hl
  show wpAny (model X.prog X.w) X.A (call (.builtin "max") [.ref a] [(Str.ofString "default", .int d td)]) (EP X pins σ Q) X.xe s
  refine call_maxD (I.ok.hd hc) hl fun v h' tk hv hk => ?_
  have I2 : Inv X pins σ H { s with heap := h', toks := tk } := I.kept fun b o z => hk b o z
  rcases hv with ⟨h0, rfl⟩ | ⟨hp, hv⟩
  · have hn0 : ns = [] := by
      rw [hns, List.map_eq_nil_iff]
      exact List.eq_nil_of_length_eq_zero (by rw [Array.length_toList]; exact h0)
    exact ⟨.int d, H, I2, ⟨_, rfl⟩, q d (fun _ => rfl) (fun z => absurd hn0 z)⟩
  · obtain ⟨t, rfl⟩ := intItems_at hv
    obtain ⟨h1, h2⟩ := argBest_gt (numAt ps) (ps.size - 1)
    refine ⟨.int _, H, I2, ⟨_, rfl⟩, q _ (fun z => ?_) fun _ => ⟨?_, fun k hk' => ?_⟩⟩
    · rw [hns, List.map_eq_nil_iff] at z
      have z2 : ps.size = 0 := by rw [← Array.length_toList, z]; rfl
      omega
    · rw [hns, numAt_eq]; exact getD_mem (by rw [List.length_map, Array.length_toList]; omega)
    · rw [hns] at hk'
      obtain ⟨j, hj, rfl⟩ := mem_getD hk'
      rw [List.length_map, Array.length_toList] at hj
      rw [← numAt_eq]; exact h2 j (by omega)
/-! ### plain data with atoms -/
inductive D where
  | non | bl (b : Bool) | int (i : Int) | str (s : Str) | tup (ds : List D) | lst (ds : List D) | dct | atom (k : Str) (ds : List D)
mutual
def rank : D → Nat
  | .tup ds => rankL ds
  | .atom k ds => if k = "seal" ∨ k = "page" then 1 else rankL ds + 1
  | _ => 0
def rankL : List D → Nat
  | [] => 0
  | d :: ds => max (rank d) (rankL ds)
end
mutual
/-- how many parts there are, those in atoms too -/
def sz : D → Nat
  | .tup ds => szL ds + 1
  | .lst ds => szL ds + 1
  | .atom _ ds => szL ds + 1
  | _ => 1
def szL : List D → Nat
  | [] => 0
  | d :: ds => sz d + szL ds
end
/-- what an atom can have noted of its stripped one -/
class Memo where
  ok : V → Prop
  non : ok .non
variable [Memo]
/-- the fields of an atom -/
def atF (k : Str) (t : Addr) (r : Nat) (sv : V := .non) : List (Str × V) := [("kind", .str k), ("term", .ref t), ("rank", .int (r : Int)), ("_stripped", sv)]
mutual
inductive Is (C : Addr) (H : Hp) : V → D → Prop
  | non : Is C H .non .non
  | bl (b : Bool) : Is C H (.bl b) (.bl b)
  | int (i : Int) : Is C H (.int i) (.int i)
  | str (s : Str) : Is C H (.str s) (.str s)
  | tup {a : Addr} {xs : List V} {ds : List D} (h : H a = some (.tup xs)) (t : IsA C H xs ds) : Is C H (.ref a) (.tup ds)
  | lst {a : Addr} {xs : List V} {ds : List D} (h : H a = some (.lst xs)) (t : IsA C H xs ds) : Is C H (.ref a) (.lst ds)
  | dct {a : Addr} {kvs : List (Key × V)} (h : H a = some (.dK kvs)) : Is C H (.ref a) .dct
  | atom {a dx t : Addr} {k : Str} {xs : List V} {ds : List D} {sv : V} (h : H a = some (.ins C dx (atF k t (rank (.atom k ds)) sv))) (h2 : H t = some (.tup xs)) (t : IsA C H xs ds) (g : Memo.ok sv := by exact Memo.non) : Is C H (.ref a) (.atom k ds)
inductive IsA (C : Addr) (H : Hp) : List V → List D → Prop
  | nil : IsA C H [] []
  | cons {x : V} {xs : List V} {d : D} {ds : List D} (h : Is C H x d) (t : IsA C H xs ds) : IsA C H (x :: xs) (d :: ds)
end
mutual
theorem Is.same {C : Addr} {H H' : Hp} (e : Same H H') : ∀ {x : V} {d : D}, Is C H x d → Is C H' x d
  | _, _, .non => .non
  | _, _, .bl b => .bl b
  | _, _, .int i => .int i
  | _, _, .str s => .str s
  | _, _, .tup h t => .tup (e _ _ h) (IsA.same e t)
  | _, _, .lst h t => .lst (e _ _ h) (IsA.same e t)
  | _, _, .dct h => .dct (e _ _ h)
  | _, _, .atom h h2 t g => .atom (e _ _ h) (e _ _ h2) (IsA.same e t) g
theorem IsA.same {C : Addr} {H H' : Hp} (e : Same H H') : ∀ {xs : List V} {ds : List D}, IsA C H xs ds → IsA C H' xs ds
  | _, _, .nil => .nil
  | _, _, .cons h t => .cons (Is.same e h) (IsA.same e t)
end
theorem IsA.len {C : Addr} {H : Hp} : ∀ {xs : List V} {ds : List D}, IsA C H xs ds → xs.length = ds.length
  | _, _, .nil => rfl
  | _, _, .cons _ t => congrArg (· + 1) t.len
theorem IsA.at {C : Addr} {H : Hp} : ∀ {xs : List V} {ds : List D} {i : Nat} {x : V}, IsA C H xs ds → xs[i]? = some x → ∃ d, ds[i]? = some d ∧ Is C H x d
  | _, _, _, _, .nil, h => by simp at h
  | _, _, 0, _, .cons h _, e => by simp at e; subst e; exact ⟨_, rfl, h⟩
  | _, _, i + 1, _, .cons _ t, e => by
    obtain ⟨d, h1, h2⟩ := IsA.at (i := i) t (by simpa using e)
    exact ⟨d, by simpa using h1, h2⟩
theorem IsA.get {C : Addr} {H : Hp} : ∀ {xs : List V} {ds : List D} {i : Nat} {d : D}, IsA C H xs ds → ds[i]? = some d → ∃ x, xs[i]? = some x ∧ Is C H x d
  | _, _, _, _, .nil, h => by simp at h
  | _, _, 0, _, .cons h _, e => by simp at e; subst e; exact ⟨_, rfl, h⟩
  | _, _, i + 1, _, .cons _ t, e => by
    obtain ⟨d, h1, h2⟩ := IsA.get (i := i) t (by simpa using e)
    exact ⟨d, by simpa using h1, h2⟩
theorem IsA.app {C : Addr} {H : Hp} : ∀ {xs ys : List V} {ds es : List D}, IsA C H xs ds → IsA C H ys es → IsA C H (xs ++ ys) (ds ++ es)
  | _, _, _, _, .nil, t => t
  | _, _, _, _, .cons h u, t => .cons h (u.app t)
theorem IsA.rev {C : Addr} {H : Hp} : ∀ {xs : List V} {ds : List D}, IsA C H xs ds → IsA C H xs.reverse ds.reverse
  | _, _, .nil => .nil
  | _, _, .cons h t => by
    rw [List.reverse_cons, List.reverse_cons]
    exact t.rev.app (.cons h .nil)
theorem IsA.concat {C : Addr} {H : Hp} : ∀ {xs : List V} {ds : List D} {e : D}, IsA C H xs (ds.concat e) → ∃ ys y, xs = ys ++ [y] ∧ IsA C H ys ds ∧ Is C H y e
  | _, [], _, .cons h .nil => ⟨[], _, rfl, .nil, h⟩
  | _, d :: ds, e, .cons h t => by
    obtain ⟨ys, y, e1, h1, h2⟩ := IsA.concat (ds := ds) (e := e) t
    exact ⟨_ :: ys, y, by rw [e1]; rfl, .cons h h1, h2⟩
theorem rankL_app : ∀ (a b : List D), rankL (a ++ b) = max (rankL a) (rankL b)
  | [], b => by simp [rankL]
  | x :: a, b => by rw [List.cons_append]; simp only [rankL]; rw [rankL_app a b]; omega
theorem szL_app : ∀ (a b : List D), szL (a ++ b) = szL a + szL b
  | [], b => by simp [szL]
  | x :: a, b => by rw [List.cons_append]; simp only [szL]; rw [szL_app a b]; omega
theorem szL_rev : ∀ (a : List D), szL a.reverse = szL a
  | [] => rfl
  | x :: a => by rw [List.reverse_cons, szL_app, szL_rev a]; simp only [szL]; omega
theorem sz_pos (d : D) : 1 ≤ sz d := by cases d <;> simp [sz]
theorem len_szL : ∀ (a : List D), a.length ≤ szL a
  | [] => Nat.le_refl _
  | x :: a => by
    have := len_szL a
    have := sz_pos x
    simp only [szL, List.length_cons]; omega
/-! ### kinds of values -/
def kyV (C : Addr) : D → V
  | .non => .ty "NoneType" | .bl _ => .ty "bool" | .int _ => .ty "int" | .str _ => .ty "str" | .tup _ => .ty "tuple" | .lst _ => .ty "list" | .dct => .ty "dict" | .atom _ _ => .ref C
def kyU (C : Addr) : D → Value
  | .non => .type "NoneType" | .bl _ => .type "bool" | .int _ => .type "int" | .str _ => .type "str" | .tup _ => .type "tuple" | .lst _ => .type "list" | .dct => .type "dict" | .atom _ _ => .ref C
def rTyA (C : Addr) : List V → Hp → VK → Prop := fun xs H Q => ∃ x d, xs = [x] ∧ Is C H x d ∧ Q (kyV C d) H
/-- what is known of the class at C -/
structure Cl (K : PySem.W.Frag) (C : Addr) : Prop where
  cl : Cls K C
  ha : PySem.W.findIn K (.ref C) "__class__" = some (some (.builtin "object.__class__"))
  hn : PySem.W.specialIn K (.builtin "object.__class__") "__get__" = some (some (.builtin "getset_descriptor.__get__"))
  htk : PySem.W.takesIn K (.builtin "object.__class__") = some true
  hm : PySem.W.mroIn K C (.type "object") = some true
  me : PySem.W.kitOne K (.ref C) (.ref C) = some true
  mi : PySem.W.makesIn K C = true
  nK : NoAttr K C "kind"
  nT : NoAttr K C "term"
  nR : NoAttr K C "rank"
  nS : NoAttr K C "_stripped"
section
variable {X : Cx} {C : Addr}
theorem Is.tyX {K : PySem.W.Frag} {H : Hp} (T : Cl K C) {x : V} {d : D} (h : Is C H x d) : TyX K H x (kyU C d) := by
  cases h with
  | non => exact .base .non
  | bl b => exact .base (.bl b)
  | int i => exact .base (.int i)
  | str s => exact .base (.str s)
  | tup h _ => exact .base (.tup h)
  | lst h _ => exact .base (.lst h)
  | dct h => exact .base (.dK h)
  | atom h _ _ => exact .base (.ins h T.cl T.ha T.hn T.htk T.hm)
theorem call_typeA : CallR X (.type "type") (rTyA C) := fun pins s σ H xs us Q I r h => by
  obtain ⟨x, d, e, t, q⟩ := h
  cases t with
  | non => exact call_type1 pins s σ H xs us Q I r ⟨_, _, e, .non, q⟩
  | bl b => exact call_type1 pins s σ H xs us Q I r ⟨_, _, e, .bl b, q⟩
  | int i => exact call_type1 pins s σ H xs us Q I r ⟨_, _, e, .int i, q⟩
  | str z => exact call_type1 pins s σ H xs us Q I r ⟨_, _, e, .str z, q⟩
  | tup h _ => exact call_type1 pins s σ H xs us Q I r ⟨_, _, e, .tup (SqT.of h), q⟩
  | lst h _ => exact call_type1 pins s σ H xs us Q I r ⟨_, _, e, .lst (SqL.of h), q⟩
  | dct h => exact call_type1 pins s σ H xs us Q I r ⟨_, _, e, .dK h, q⟩
  | atom h _ _ => exact cr_type pins s σ H xs us Q I r ⟨_, _, _, _, e, h, q⟩
/-- a type is a type: of built-in ones, and of the class at C -/
def TyOk (C : Addr) (x : V) : Prop := (∃ n, x = .ty n) ∨ x = .ref C
def rIsTyA (C : Addr) : R2 := fun x y H Q => TyOk C x ∧ TyOk C y ∧ Q (.bl (decide (x = y))) H
def rIsNotTyA (C : Addr) : R2 := fun x y H Q => TyOk C x ∧ TyOk C y ∧ Q (.bl (!decide (x = y))) H
theorem kyV_ok (d : D) : TyOk C (kyV C d) := by cases d <;> first | exact .inl ⟨_, rfl⟩ | exact .inr rfl
theorem op_isTyA : OpR X (compareOp .Is) (rIsTyA C) := by
  intro pins s σ H x y v u Q I rx ry h
  obtain ⟨hx, hy, q⟩ := h
  rcases hx with ⟨m, rfl⟩ | rfl <;> rcases hy with ⟨n, rfl⟩ | rfl
  · exact op_isTy pins s σ H _ _ v u Q I rx ry ⟨m, n, rfl, rfl, by simpa using q⟩
  · cases (show v = Value.type m from rx)
    cases (show u = Value.ref _ from ry)
    exact wpAny_is_other rfl (fun z => nomatch z) ⟨.bl false, H, I, rfl, by simpa using q⟩
  · cases (show v = Value.ref _ from rx)
    cases (show u = Value.type n from ry)
    exact wpAny_is_other rfl (fun z => nomatch z) ⟨.bl false, H, I, rfl, by simpa using q⟩
  · exact op_is_cls pins s σ H _ _ v u Q I rx ry ⟨C, C, rfl, rfl, .inl rfl, by simpa using q⟩
theorem op_isNotTyA : OpR X (compareOp .IsNot) (rIsNotTyA C) := by
  intro pins s σ H x y v u Q I rx ry h
  obtain ⟨hx, hy, q⟩ := h
  rcases hx with ⟨m, rfl⟩ | rfl <;> rcases hy with ⟨n, rfl⟩ | rfl
  · exact op_isNotTy pins s σ H _ _ v u Q I rx ry ⟨m, n, rfl, rfl, by simpa using q⟩
  · cases (show v = Value.type m from rx)
    cases (show u = Value.ref _ from ry)
    exact wpAny_isNot_other rfl (fun z => nomatch z) ⟨.bl true, H, I, rfl, by simpa using q⟩
  · cases (show v = Value.ref _ from rx)
    cases (show u = Value.type n from ry)
    exact wpAny_isNot_other rfl (fun z => nomatch z) ⟨.bl true, H, I, rfl, by simpa using q⟩
  · exact op_isnot_cls pins s σ H _ _ v u Q I rx ry ⟨C, C, rfl, rfl, .inl rfl, by simpa using q⟩
/-- isinstance(x, c): c a built-in type or the class at C -/
def rIsiA (K : PySem.W.Frag) (C : Addr) : List V → Hp → VK → Prop := fun xs H Q => ∃ x d c u b, xs = [x, c] ∧ Is C H x d ∧ ClsV c u ∧ PySem.W.kitOne K (kyU C d) u = some b ∧ Q (.bl b) H
theorem call_isiA (T : Cl X.K C) : CallR X (.builtin "isinstance") (rIsiA X.K C) := fun pins s σ H xs us Q I r h => by
  obtain ⟨x, d, c, u, b, e, t, k, kt, q⟩ := h
  exact call_isi pins s σ H xs us Q I r ⟨x, c, _, _, b, e, k, t.tyX T, kt, q⟩
end
mutual
theorem Is.uniq {C : Addr} {H : Hp} : ∀ {x : V} {d e : D}, Is C H x d → Is C H x e → d = e
  | _, _, _, .non, .non => rfl
  | _, _, _, .bl _, .bl _ => rfl
  | _, _, _, .int _, .int _ => rfl
  | _, _, _, .str _, .str _ => rfl
  | _, _, _, .tup h t, g => by
    cases g with
    | tup h' t' =>
      rw [h] at h'
      cases h'
      rw [IsA.uniq t t']
    | lst h' _ => rw [h] at h'; cases h'
    | dct h' => rw [h] at h'; cases h'
    | atom h' _ _ => rw [h] at h'; cases h'
  | _, _, _, .lst h t, g => by
    cases g with
    | lst h' t' =>
      rw [h] at h'
      cases h'
      rw [IsA.uniq t t']
    | tup h' _ => rw [h] at h'; cases h'
    | dct h' => rw [h] at h'; cases h'
    | atom h' _ _ => rw [h] at h'; cases h'
  | _, _, _, .dct h, g => by
    cases g with
    | dct h' => rfl
    | tup h' _ => rw [h] at h'; cases h'
    | lst h' _ => rw [h] at h'; cases h'
    | atom h' _ _ => rw [h] at h'; cases h'
  | _, _, _, .atom h h2 t _, g => by
    cases g with
    | tup h' _ => rw [h] at h'; cases h'
    | lst h' _ => rw [h] at h'; cases h'
    | dct h' => rw [h] at h'; cases h'
    | atom h' h2' t' =>
      have e := Option.some.inj (h.symm.trans h')
      unfold atF at e
      injection e with e1 e2 e3
      injection e3 with e4 e5
      injection e5 with e6 e7
      have ek := V.str.inj (congrArg Prod.snd e4)
      have et := V.ref.inj (congrArg Prod.snd e6)
      subst ek
      subst et
      rw [h2] at h2'
      cases h2'
      rw [IsA.uniq t t']
theorem IsA.uniq {C : Addr} {H : Hp} : ∀ {xs : List V} {ds es : List D}, IsA C H xs ds → IsA C H xs es → ds = es
  | _, _, _, .nil, .nil => rfl
  | _, _, _, .cons h t, .cons h' t' => by rw [Is.uniq h h', IsA.uniq t t']
end
end Hr

namespace Hr
open PySem PySem.SeqAt PyProof.Rows
variable [Memo]
open AutoSeq1 (wpAny_loadPart')
open MeetsSeq MeetsSeq2 MeetsSeq3 SeqRoads2
theorem ext_tup (l : Addr) (items : Array Value) (n : Nat) (b : Addr) (items2 : Array Value) (n2 : Nat) (dd : Option Addr) (sl : Array (Option Value)) (hs0 : ¬(!items.isEmpty && Builtin.List.listTooLong (items.size + items2.size)) = true) (hs1 : items.size ≤ sizeLine) (hs2 : items.size + items2.size ≤ sizeLine + 1) :
    Meets (Builtin.«list.extend» ⟨[.ref l, .ref b], []⟩) (fun _ R s => s.heap.get? l = some { cls := .type "list", dict := none, data := .seq items n, slots := #[] } ∧ s.heap.get? b = some { cls := .type "tuple", dict := dd, data := .seq items2 n2, slots := sl } ∧
      R (.ok (.ret Value.none)) { s with heap := s.heap.update l (Obj.mapSeq fun x => x ++ items2), toks := s.toks }) :=
  .of_wp fun prog w A R s h => by
    obtain ⟨hp, g, d, tk, os⟩ := s
    obtain ⟨hl, hb, h⟩ := h
    have g1 := AutoSeq1.sub_tuple_tuple
    have g2 := AutoSeq1.sub_list_list
    have g3 := AutoSeq1.sub_tuple_list
    have g4 := AutoSeq1.sub_list_tuple
    have hz' : (items ++ items2).size ≤ sizeLine + 1 := by rw [Array.size_append]; exact hs2
    wp_walk using (wpAny_updateSeq hl rfl (hz := hs1) (_hz' := hz')), wpAny_loadPart' hl, wpAny_loadPart' hb
    exact ⟨_, rfl, h⟩
end Hr
namespace Hr
open PySem PySem.Spec PyProof.Rows L2
variable [Memo]
/-- xs.extend(t), t a tuple -/
def rExtT : V → List V → Hp → VK → Prop := fun x vs H Q => ∃ l b xs zs, x = .ref l ∧ vs = [.ref b] ∧ H l = some (.lst xs) ∧ H b = some (.tup zs) ∧ xs.length + zs.length ≤ sizeLine ∧ Q .non (upd H l (.lst (xs ++ zs)))
theorem mt_extendT {X : Cx} : MtM X "list.extend" rExtT := by
  intro pins s σ H x vs v us Q I rx rv h
  obtain ⟨l, b, xs, zs, rfl, rfl, hH, hB, hz, q⟩ := h
  cases rx
  obtain ⟨u, rfl, ru⟩ := rv.one
  cases ru
  obtain ⟨z, its, n, r, hl, e⟩ := I.lstM hH
  obtain ⟨its2, r2, ⟨⟨oc, od, dt, sl⟩, e2, hc2, n2, hd2⟩, hz2⟩ := I.tuple (SqT.of hB)
  simp only at hc2 hd2
  subst hc2 hd2
  have hl2 := r2.length
  have hsz : its.toArray.size + its2.toArray.size ≤ sizeLine := by rw [List.size_toArray, List.size_toArray]; omega
  have hlong : ¬ (!its.toArray.isEmpty && Builtin.List.listTooLong (its.toArray.size + its2.toArray.size)) = true := by
    rw [notLongL hsz, Bool.and_false]
    exact Bool.false_ne_true
  refine call_meets F.slot_list_extend ⟨_, e, rfl⟩ F.entry_list_extend (F.args_list_extend_2 _ _)
    (ext_tup l its.toArray n b its2.toArray n2 od sl hlong (by rw [List.size_toArray]; omega) (by omega)) ⟨e, e2, ?_⟩
  refine ⟨.non, _, I.lset (its' := its ++ its2) hH e (by simp) (r.append r2) ?_, rfl, q⟩
  rw [List.length_append]
  omega
end Hr

namespace Hc
open PySem PySem.Spec PyProof.Rows L2 Hr
variable [Memo]
def top (i : Nat) : Stmt := PySem.Challenge.pw_hermitcell_k61_what_words_are.main.body.getD i (.Pass ⟨0, 0, 0, 0⟩)
theorem bt_type : bootBuiltins "type" = some (.type "type") := by decide +kernel
theorem bt_int : bootBuiltins "int" = some (.type "int") := by decide +kernel
theorem bt_str : bootBuiltins "str" = some (.type "str") := by decide +kernel
theorem bt_bool : bootBuiltins "bool" = some (.type "bool") := by decide +kernel
theorem bt_tuple : bootBuiltins "tuple" = some (.type "tuple") := by decide +kernel
theorem bt_list : bootBuiltins "list" = some (.type "list") := by decide +kernel
theorem bt_range : bootBuiltins "range" = some (.type "range") := by decide +kernel
theorem bt_zip : bootBuiltins "zip" = some (.type "zip") := by decide +kernel
theorem bt_dict : bootBuiltins "dict" = some (.type "dict") := by decide +kernel
theorem bt_len : bootBuiltins "len" = some (.builtin "len") := by decide +kernel
theorem bt_all : bootBuiltins "all" = some (.builtin "all") := by decide +kernel
theorem bt_max : bootBuiltins "max" = some (.builtin "max") := by decide +kernel
theorem bt_isinstance : bootBuiltins "isinstance" = some (.builtin "isinstance") := by decide +kernel
theorem bt_abs : bootBuiltins "abs" = some (.builtin "abs") := by decide +kernel
/-- a tuple of texts in the written part -/
def KTup (K : PySem.W.Frag) (a : Addr) (ts : List Str) : Prop := ∀ H : Hp, SqT K H a (ts.map V.str)
/-- what the top has -/
structure Txt (K : PySem.W.Frag) (mg : Str → Option Value) (w : World) (C : Addr) : Prop where
  cl : Cl K C
  g_Atom : mg "Atom" = some (.ref C)
  z_type : mg "type" = none
  z_int : mg "int" = none
  z_str : mg "str" = none
  z_bool : mg "bool" = none
  z_tuple : mg "tuple" = none
  z_list : mg "list" = none
  z_range : mg "range" = none
  z_zip : mg "zip" = none
  z_dict : mg "dict" = none
  z_len : mg "len" = none
  z_all : mg "all" = none
  z_max : mg "max" = none
  z_isinstance : mg "isinstance" = none
  z_abs : mg "abs" = none
  c_LEAST : ∃ u, mg "LEAST" = some u ∧ RelV (.int (-2147483648)) u
  c_GREATEST : ∃ u, mg "GREATEST" = some u ∧ RelV (.int (2147483647)) u
  c_MOST_CHARACTERS : ∃ u, mg "MOST_CHARACTERS" = some u ∧ RelV (.int (24)) u
  c_MOST_DEEP : ∃ u, mg "MOST_DEEP" = some u ∧ RelV (.int (40)) u
  c_MOST_DEEP_HOST : ∃ u, mg "MOST_DEEP_HOST" = some u ∧ RelV (.int (10)) u
  c_MOST_RANK : ∃ u, mg "MOST_RANK" = some u ∧ RelV (.int (40)) u
  c_MOST_RANK_HOST : ∃ u, mg "MOST_RANK_HOST" = some u ∧ RelV (.int (36)) u
  forms : ∃ Fo t1 t2 t3 t4 t5, (∃ u, mg "_FORMS" = some u ∧ RelV (.ref Fo) u) ∧ (∃ es n, KDict K w Fo es n) ∧
    KDct K w Fo "token" (.ref t1) ∧ KDct K w Fo "challenge" (.ref t2) ∧ KDct K w Fo "seal" (.ref t3) ∧ KDct K w Fo "page" (.ref t4) ∧ KDct K w Fo "ticket" (.ref t5) ∧ PySem.W.nsIn K Fo "key" = some none ∧
    KTup K t1 ["text", "tuple", "word"] ∧ KTup K t2 ["text", "number"] ∧ KTup K t3 ["text", "number", "number", "hidden"] ∧ KTup K t4 ["text", "number", "number", "hidden"] ∧ KTup K t5 ["text", "number", "text", "tuple", "pages", "tuple"]
  kit : ∀ (d : D) (n : String), n ∈ ["int", "str", "tuple", "bool", "list", "dict"] → PySem.W.kitOne K (kyU C d) (.type n) = some (match d with | .int _ => n == "int" | .bl _ => n == "int" || n == "bool" | .str _ => n == "str" | .tup _ => n == "tuple" | .lst _ => n == "list" | .dct => n == "dict" | _ => false)
  kitC : ∀ d : D, PySem.W.kitOne K (kyU C d) (.ref C) = some (match d with | .atom _ _ => true | _ => false)
end Hc

namespace Hc
open PySem PySem.Spec PyProof.Rows L2 Hr
variable [Memo]
theorem ifT {p A B : Prop} [Decidable p] (hp : p) (h : A) : if decide p = true then A else B := by
  rw [decide_eq_true hp]; exact iteT h
theorem ifF {p A B : Prop} [Decidable p] (hp : ¬ p) (h : B) : if decide p = true then A else B := by
  rw [decide_eq_false hp]; exact iteF h
theorem bT {b : Bool} {A B : Prop} (hb : b = true) (h : A) : if b = true then A else B := by
  rw [hb]; exact iteT h
theorem bF {b : Bool} {A B : Prop} (hb : b = false) (h : B) : if b = true then A else B := by
  rw [hb]; exact iteF h
theorem bcase {b : Bool} {A B : Prop} (h1 : b = true → A) (h2 : b = false → B) : if b = true then A else B := by
  cases b with
  | true => exact iteT (h1 rfl)
  | false => exact iteF (h2 rfl)
/-- a comprehension without a test -/
theorem yes {σ : L2.St} {H : Hp} {A B : Hp → Prop} (h : A H) : tYes σ H fun b H3 => if b = true then A H3 else B H3 := by
  show (if true = true then A H else B H)
  exact iteT h
theorem same_new {q : Addr} {H : Hp} {o : HO} (h : H q = none) : Same H (L2.upd H q o) := fun c x e => by rw [upd_ne (ne_of_none e h)]; exact e
theorem sfree {H H' : Hp} (e : Same H H') {p : Addr} (h : H' p = none) : H p = none := e.free h
/-! ### what the defs tell -/
def numOk (i : Int) : Bool := decide (-2147483648 ≤ i) && decide (i ≤ 2147483647)
def isNum : D → Bool | .int i => numOk i | _ => false
def sgn (c : Nat) : Bool := decide (32 ≤ c) && decide (c ≤ 126)
def txtOk (s : Str) : Bool := decide (s.length ≤ 24) && s.cps.toList.all sgn
def isTxt : D → Bool | .str s => txtOk s | _ => false
/-- one value is asked; new objects may be made -/
def spB (C : Addr) (ok : D → Prop) (f : D → Bool) : Sp := fun vs H Q _ => ∃ x d, vs = [x] ∧ Is C H x d ∧ ok d ∧ ∀ H', Same H H' → Q (.bl (f d)) H'
theorem kyV_int {C : Addr} {d : D} : (kyV C d = .ty "int") ↔ ∃ i, d = .int i := by cases d <;> simp [kyV]
theorem kyV_str {C : Addr} {d : D} : (kyV C d = .ty "str") ↔ ∃ i, d = .str i := by cases d <;> simp [kyV]
theorem kyV_tup {C : Addr} {d : D} : (kyV C d = .ty "tuple") ↔ ∃ i, d = .tup i := by cases d <;> simp [kyV]
theorem kyV_atom {C : Addr} {d : D} : (kyV C d = .ref C) ↔ ∃ k i, d = .atom k i := by cases d <;> simp [kyV]
section
variable {P : Program} {w : World} {K : PySem.W.Frag} {mg : Str → Option Value} {base : Heap} {f : Addr} {fd : FuncData} {C : Addr}
abbrev s_is_number : Stmt := top 13
theorem sc_is_number : FnScope ["value"] ["value"] (C8.fnScope s_is_number) := C8.fnScope_by (by decide +kernel)
theorem ok_is_number (F : C8.Def K mg "is_number" s_is_number f fd) (b : Binds K fd ["value"] []) (T : Txt K mg w C) : C8.Cal P w K mg base 1 "is_number" (spB C (fun _ => True) isNum) [] := by
  refine C8.cal0 F b .nil sc_is_number (fun vs H Q E h => ?_) (fun cdv A outer s H vs Q E hr h => ?_)
  · obtain ⟨x, d, rfl, _⟩ := h; rfl
  obtain ⟨x, d, rfl, hx, _, q⟩ := h
  refine ⟨_, (pss_one (ps_ret (pe_and (pe_cmpR (op_isTyA (C := C)) (pe_callTy (call_typeA (C := C)) rfl T.z_type bt_type (pa_cons (pv 0) pa_nil)) (pe_bltn (v := .ty "int") rfl T.z_int bt_int rfl) (nomark _)) (pe_one (pe_chain op_le op_le (C8.pe_gc rfl T.c_LEAST) (pv 0) (C8.pe_gc rfl T.c_GREATEST)))))), ?_⟩
  have q := q H (Same.refl H)
  refine ⟨x, rfl, x, d, rfl, hx, kyV_ok d, .inl ⟨_, rfl⟩, _, rfl, ?_⟩
  by_cases c : kyV C d = .ty "int"
  · refine ifT c ?_
    obtain ⟨i, rfl⟩ := kyV_int.mp c
    cases hx
    refine ⟨_, rfl, _, _, rfl, rfl, _, rfl, ite2 (fun c => ?_) (fun c => ?_)⟩
    · refine ⟨_, _, rfl, rfl, ?_⟩
      have e : isNum (.int i) = decide (i ≤ 2147483647) := by simp [isNum, numOk, of_decide_eq_true c]
      rw [e] at q; exact q
    · have e : isNum (.int i) = false := by simp [isNum, numOk] at c ⊢; omega
      rw [e] at q; exact q
  · have e : isNum d = false := by cases d <;> first | rfl | exact absurd rfl c
    rw [e] at q
    exact ifF c q
/-- signs between the space and the tilde -/
theorem lt_one (a b : Nat) : decide (([a] : List Nat) < [b]) = decide (a < b) := by
  by_cases h : a < b
  · rw [decide_eq_true h]; exact decide_eq_true (List.cons_lt_cons_iff.mpr (.inl h))
  · rw [decide_eq_false h]
    refine decide_eq_false fun z => ?_
    rcases List.cons_lt_cons_iff.mp z with z | ⟨_, z⟩
    · exact h z
    · cases z
abbrev s_is_text : Stmt := top 14
theorem sc_is_text : FnScope ["value", "character"] ["value"] (C8.fnScope s_is_text) := C8.fnScope_by (by decide +kernel)
theorem ok_is_text (F : C8.Def K mg "is_text" s_is_text f fd) (b : Binds K fd ["value"] []) (T : Txt K mg w C) : C8.Cal P w K mg base 1 "is_text" (spB C (fun d => ∀ s, d = .str s → s.length ≤ sizeLine) isTxt) [] := by
  refine C8.cal0 F b .nil sc_is_text (fun vs H Q E h => ?_) (fun cdv A outer s H vs Q E hr h => ?_)
  · obtain ⟨x, d, rfl, _⟩ := h; rfl
  obtain ⟨x, d, rfl, hx, hz, q⟩ := h
  refine ⟨_, (pss_cons (ps_if (PW.pt (pw_or (pt_cmpR (op_isNotTyA (C := C)) (pe_callTy (call_typeA (C := C)) rfl T.z_type bt_type (pa_cons (pv 0) pa_nil)) (pe_bltn (v := .ty "str") rfl T.z_str bt_str rfl) (nomark _)) (pw_or1 (pt_cmpR op_gt (pe_callB call_len_str rfl T.z_len bt_len (pa_cons (pv 0) pa_nil)) (C8.pe_gc rfl T.c_MOST_CHARACTERS) (nomark _))))) (pss_one (ps_ret pe_bl)) pss_nil)
      (pss_one (ps_ret (pe_callB (cr_all rfl) rfl T.z_all bt_all (pa_cons (pe_lc (own := [("character", 1)]) (g := gName 1) rfl sc_is_text.nd (pi_str (pv 0)) (blkOk_by (own := [("character", 1)]) (N := ["value", "character"]) (sc := C8.fnScope s_is_text) (by decide +kernel)) (fun _ _ _ _ _ => (pg_name (i := 1) sc_is_text.nd rfl (Or.inl rfl))) (fun _ _ _ _ _ => pts_nil) (fun _ _ _ _ _ => (pe_chain op_le_str op_le_str pe_str (pv 1) pe_str))) pa_nil))))), ?_⟩
  refine ⟨x, rfl, x, d, rfl, hx, kyV_ok d, .inl ⟨_, rfl⟩, _, rfl, ?_⟩
  by_cases c : kyV C d = .ty "str"
  · rw [decide_eq_true c]
    obtain ⟨z, rfl⟩ := kyV_str.mp c
    cases hx
    refine iteF ⟨_, rfl, z, rfl, hz z rfl, _, _, rfl, rfl, _, rfl, ite2 (fun c => ?_) (fun c => ?_)⟩
    · have e : isTxt (.str z) = false := by
        simp only [isTxt, txtOk]
        rw [decide_eq_false (by simp at c; omega)]; rfl
      have q := q H (Same.refl H)
      rw [e] at q; exact q
    · have hlen : z.length ≤ 24 := by simp at c; omega
      have e : isTxt (.str z) = z.cps.toList.all sgn := by
        simp only [isTxt, txtOk]
        rw [decide_eq_true hlen]; rfl
      rw [e] at q
      refine ⟨_, rfl, z, rfl, fun Dl hD => ?_⟩
      refine lc_it (walk_str (z := z)) (fun i H' => Same H H' ∧ H' Dl = some (.lst ((z.cps.toList.take i).map fun c => V.bl (sgn c)))) ⟨same_new hD, upd_same⟩ (fun _ _ _ _ => trivial) ?_ ?_
      · rintro i y H0 H1 hi ⟨s1, hl⟩ ⟨rfl, c, hc, rfl⟩
        have hc' : z.cps.toList[i]? = some c := by rw [Array.getElem?_toList]; exact hc
        have go : ∀ H3, H3 = upd H1 Dl (.lst ((z.cps.toList.take i).map (fun c => V.bl (sgn c)) ++ [.bl (sgn c)])) → Same H H3 ∧ H3 Dl = some (.lst ((z.cps.toList.take (i + 1)).map fun c => V.bl (sgn c))) := fun H3 e3 => by
          subst e3
          refine ⟨fun p o hp => by rw [upd_ne (ne_of_none hp hD)]; exact s1 p o hp, ?_⟩
          rw [upd_same, List.take_add_one, hc', List.map_append]; rfl
        have hn : ((z.cps.toList.take i).map fun c => V.bl (sgn c)).length < sizeLine := by
          have h1 : z.cps.size = z.length := rfl
          rw [List.length_map, List.length_take, Array.length_toList]
          exact small1000 (by omega)
        refine ⟨rfl, yes ?_⟩
        refine ⟨_, rfl, _, _, rfl, rfl, _, rfl, ?_⟩
        have e1 : (!decide (([c] : List Nat) < [32])) = decide (32 ≤ c) := by
          rw [lt_one]; by_cases h : c < 32
          · rw [decide_eq_true h, decide_eq_false (by omega)]; rfl
          · rw [decide_eq_false h, decide_eq_true (by omega)]; rfl
        have e2 : (!decide (([126] : List Nat) < [c])) = decide (c ≤ 126) := by
          rw [lt_one]; by_cases h : 126 < c
          · rw [decide_eq_true h, decide_eq_false (by omega)]; rfl
          · rw [decide_eq_false h, decide_eq_true (by omega)]; rfl
        refine bcase (b := !decide (([c] : List Nat) < [32])) (fun hb => ?_) (fun hb => ?_)
        · refine ⟨_, _, rfl, rfl, _, hl, hn, go _ ?_⟩
          have : (!decide (([126] : List Nat) < [c])) = sgn c := by rw [e2]; rw [e1] at hb; simp only [sgn]; rw [hb, Bool.true_and]
          exact congrArg (fun k => upd H1 Dl (.lst ((z.cps.toList.take i).map (fun c => V.bl (sgn c)) ++ [.bl k]))) this
        · refine ⟨_, hl, hn, go _ ?_⟩
          have : false = sgn c := by rw [e1] at hb; simp only [sgn]; rw [hb, Bool.false_and]
          exact congrArg (fun k => upd H1 Dl (.lst ((z.cps.toList.take i).map (fun c => V.bl (sgn c)) ++ [.bl k]))) this
      · rintro H1 ⟨s1, hl⟩
        have ea : z.cps.toList.take z.cps.size = z.cps.toList := List.take_of_length_le (by rw [Array.length_toList]; exact Nat.le_refl _)
        rw [ea] at hl
        refine ⟨Dl, z.cps.toList.map sgn, rfl, SqL.of (by rw [List.map_map]; exact hl), ?_⟩
        have e9 : (z.cps.toList.map sgn).all id = z.cps.toList.all sgn := by rw [List.all_map]; rfl
        rw [e9]
        exact q H1 s1
  · have e : isTxt d = false := by cases d <;> first | rfl | exact absurd rfl c
    have q := q H (Same.refl H)
    rw [e] at q
    rw [decide_eq_false c]
    exact iteT q
end
end Hc

namespace Hc
open PySem PySem.Spec PyProof.Rows L2 Hr
variable [Memo]
mutual
/-- a word, nested so deep at most -/
def okW (md mr : Nat) : Nat → D → Bool
  | n, .tup ds => decide (n ≠ md) && okA md mr (n + 1) ds
  | _, .atom k ds => decide (rank (.atom k ds) ≤ mr)
  | _, .non => true
  | _, .int i => numOk i
  | _, .str s => txtOk s
  | _, _ => false
def okA (md mr : Nat) : Nat → List D → Bool
  | _, [] => true
  | n, d :: ds => okW md mr n d && okA md mr n ds
end
mutual
/-- no text is too long for the model's len -/
def txl : D → Prop
  | .str s => s.length ≤ sizeLine
  | .tup ds => txlL ds
  | .lst ds => txlL ds
  | .atom _ ds => txlL ds
  | _ => True
def txlL : List D → Prop
  | [] => True
  | d :: ds => txl d ∧ txlL ds
end
/-- data of a size that the lists bear -/
def Fit (d : D) : Prop := sz d ≤ 1000000 ∧ txl d
theorem okA_app (md mr n : Nat) : ∀ a b : List D, okA md mr n (a ++ b) = (okA md mr n a && okA md mr n b)
  | [], b => by simp [okA]
  | x :: a, b => by rw [List.cons_append]; simp only [okA]; rw [okA_app md mr n a b, Bool.and_assoc]
theorem okA_rev (md mr n : Nat) : ∀ a : List D, okA md mr n a.reverse = okA md mr n a
  | [] => rfl
  | x :: a => by rw [List.reverse_cons, okA_app, okA_rev md mr n a]; simp only [okA]; rw [Bool.and_true, Bool.and_comm]
theorem txlL_mem : ∀ {ds : List D} {d : D}, txlL ds → d ∈ ds → txl d
  | x :: ds, d, h, hd => by
    simp only [txlL] at h
    rcases List.mem_cons.mp hd with rfl | hd
    · exact h.1
    · exact txlL_mem h.2 hd
/-- the stack: pairs of a part and how deep it lies; the parts stood ahead of the call -/
inductive Stk (C : Addr) (H0 H : Hp) : List V → List (D × Nat) → Prop
  | nil : Stk C H0 H [] []
  | cons {q : Addr} {x : V} {d : D} {n : Nat} {xs : List V} {ps : List (D × Nat)} (h : H q = some (.tup [x, .int (n : Int)])) (hx : Is C H0 x d) (t : Stk C H0 H xs ps) : Stk C H0 H (.ref q :: xs) ((d, n) :: ps)
/-- the tuples stand -/
def Tups (H H' : Hp) : Prop := ∀ b xs, H b = some (.tup xs) → H' b = some (.tup xs)
theorem Tups.put {H : Hp} {l : Addr} {xs ys : List V} (h : H l = some (.lst xs)) : Tups H (L2.upd H l (.lst ys)) := fun b zs e => by
  rw [upd_ne (fun z => by rw [z, h] at e; cases e)]; exact e
theorem Tups.trans {H H1 H2 : Hp} (a : Tups H H1) (b : Tups H1 H2) : Tups H H2 := fun c xs h => b c xs (a c xs h)
theorem Tups.of {H H1 : Hp} (a : Same H H1) : Tups H H1 := fun c xs h => a c _ h
theorem Stk.keep {C : Addr} {H0 H H' : Hp} (e : Tups H H') : ∀ {xs : List V} {ps : List (D × Nat)}, Stk C H0 H xs ps → Stk C H0 H' xs ps
  | _, _, .nil => .nil
  | _, _, .cons h hx t => .cons (e _ _ h) hx (t.keep e)
theorem Stk.len {C : Addr} {H0 H : Hp} : ∀ {xs : List V} {ps : List (D × Nat)}, Stk C H0 H xs ps → xs.length = ps.length
  | _, _, .nil => rfl
  | _, _, .cons _ _ t => congrArg (· + 1) t.len
theorem Stk.app {C : Addr} {H0 H : Hp} : ∀ {xs ys : List V} {ps qs : List (D × Nat)}, Stk C H0 H xs ps → Stk C H0 H ys qs → Stk C H0 H (xs ++ ys) (ps ++ qs)
  | _, _, _, _, .nil, t => t
  | _, _, _, _, .cons h hx u, t => .cons h hx (u.app t)
theorem Stk.last {C : Addr} {H0 H : Hp} : ∀ {xs : List V} {ps : List (D × Nat)}, Stk C H0 H xs ps → ps ≠ [] → ∃ (q : Addr) (x : V) (d : D) (n : Nat) (ys : List V) (qs : List (D × Nat)), xs = ys ++ [.ref q] ∧ ps = qs ++ [(d, n)] ∧ H q = some (.tup [x, .int (n : Int)]) ∧ Is C H0 x d ∧ Stk C H0 H ys qs
  | _, _, .nil, h => absurd rfl h
  | _, _, .cons (ps := []) h hx .nil, _ => ⟨_, _, _, _, [], [], rfl, rfl, h, hx, .nil⟩
  | _, _, .cons (ps := p :: ps) h hx t, _ => by
    obtain ⟨q, x, d, n, ys, qs, e1, e2, h1, h2, h3⟩ := t.last (List.cons_ne_nil _ _)
    rw [e1, e2]
    exact ⟨q, x, d, n, _ :: ys, _ :: qs, rfl, rfl, h1, h2, .cons h hx h3⟩
/-- a list that is no argument of ours changes: what stood stays -/
theorem same_put {H H' : Hp} {l : Addr} {o : HO} (s : Same H H') (h : H l = none) : Same H (L2.upd H' l o) := fun b u e => by
  rw [upd_ne (ne_of_none e h)]; exact s b u e
def okS (md mr : Nat) : List (D × Nat) → Bool
  | [] => true
  | p :: ps => okW md mr p.2 p.1 && okS md mr ps
def szS : List (D × Nat) → Nat
  | [] => 0
  | p :: ps => sz p.1 + szS ps
theorem okS_app (md mr : Nat) : ∀ a b, okS md mr (a ++ b) = (okS md mr a && okS md mr b)
  | [], b => by simp [okS]
  | x :: a, b => by rw [List.cons_append]; simp only [okS]; rw [okS_app md mr a b, Bool.and_assoc]
theorem szS_app : ∀ a b, szS (a ++ b) = szS a + szS b
  | [], b => by simp [szS]
  | x :: a, b => by rw [List.cons_append]; simp only [szS]; rw [szS_app a b]; omega
theorem len_szS : ∀ a : List (D × Nat), a.length ≤ szS a
  | [] => Nat.le_refl _
  | x :: a => by
    have := len_szS a
    have := sz_pos x.1
    simp only [szS, List.length_cons]; omega
theorem okS_map (md mr n : Nat) : ∀ ds : List D, okS md mr (ds.map fun d => (d, n)) = okA md mr n ds
  | [] => by simp [okS, okA]
  | d :: ds => by simp only [List.map_cons, okS, okA]; rw [okS_map md mr n ds]
theorem szS_map (n : Nat) : ∀ ds : List D, szS (ds.map fun d => (d, n)) = szL ds
  | [] => by simp [szS, szL]
  | d :: ds => by simp only [List.map_cons, szS, szL]; rw [szS_map n ds]
def spWithin (C : Addr) : Sp := fun vs H Q _ => ∃ x d, ∃ md mr : Nat, vs = [x, .int (md : Int), .int (mr : Int)] ∧ Is C H x d ∧ Fit d ∧ ∀ H', Same H H' → Q (.bl (okW md mr 0 d)) H'
section
variable {P : Program} {w : World} {K : PySem.W.Frag} {mg : Str → Option Value} {base : Heap} {f : Addr} {fd : FuncData} {C : Addr}
abbrev s__is_within : Stmt := top 23
theorem sc__is_within : FnScope ["value", "most_deep", "most_rank", "todo", "part", "deep", "each"] ["value", "most_deep", "most_rank"] (C8.fnScope s__is_within) := C8.fnScope_by (by decide +kernel)
theorem ok__is_within (F : C8.Def K mg "_is_within" s__is_within f fd) (b : Binds K fd ["value", "most_deep", "most_rank"] []) (T : Txt K mg w C) (c_is_number : C8.Cal P w K mg base 1 "is_number" (spB C (fun _ => True) isNum) [])
    (c_is_text : C8.Cal P w K mg base 1 "is_text" (spB C (fun d => ∀ s, d = .str s → s.length ≤ sizeLine) isTxt) []) : C8.Cal P w K mg base 2 "_is_within" (spWithin C) [] := by
  refine C8.cal0 F b .nil sc__is_within (fun vs H Q E h => ?_) (fun cdv A outer s H vs Q E hr h => ?_)
  · obtain ⟨x, d, md, mr, rfl, _⟩ := h; rfl
  obtain ⟨x, d, md, mr, rfl, hx, hz, q⟩ := h
  refine ⟨_, (pss_cons (ps_set (i := 3) sc__is_within.nd rfl (Or.inl rfl) (pe_lst (pa_cons (pe_tup (pa_cons (pv 0) (pa_cons pe_int pa_nil))) pa_nil)))
      (pss_cons (ps_while PassesOwn.never (pt_truth (pv 3) (fun _ => rfl))
      (pss_cons (ps_asg (pe_bm0 PySem.F.plainAttrs_list PySem.F.slot_list_pop PySem.F.type_list_pop mt_pop (pv 3)) (pg_tup rfl (pgs_cons (pg_name (i := 4) sc__is_within.nd rfl (Or.inl rfl)) (pgs_cons (pg_name (i := 5) sc__is_within.nd rfl (Or.inr rfl)) pgs_nil))))
      (pss_one (ps_if (pt_cmpR (op_isTyA (C := C)) (pe_callTy (call_typeA (C := C)) rfl T.z_type bt_type (pa_cons (pv 4) pa_nil)) (pe_bltn (v := .ty "tuple") rfl T.z_tuple bt_tuple rfl) (nomark _)) (pss_cons (ps_if (pt_cmpR op_eq (pv 5) (pv 1) (nomark _)) (pss_one (ps_ret pe_bl)) pss_nil)
      (pss_one (ps_expr (pe_bm PySem.F.plainAttrs_list PySem.F.slot_list_extend PySem.F.type_list_extend mt_extend (pv 3) (pa_cons (pe_lc (own := [("each", 6)]) (g := gName 6) rfl sc__is_within.nd (pi_tup (pv 4)) (blkOk_by (own := [("each", 6)]) (N := ["value", "most_deep", "most_rank", "todo", "part", "deep", "each"]) (sc := C8.fnScope s__is_within) (by decide +kernel)) (fun _ _ _ _ _ => (pg_name (i := 6) sc__is_within.nd rfl (Or.inl rfl))) (fun _ _ _ _ _ => pts_nil) (fun _ _ _ _ _ => (pe_tup (pa_cons (pv 6) (pa_cons (pe_op op_add (pv 5) pe_int) pa_nil))))) pa_nil))))) (pss_one (ps_if (pt_cmpR (op_isTyA (C := C)) (pe_callTy (call_typeA (C := C)) rfl T.z_type bt_type (pa_cons (pv 4) pa_nil)) (pe_glob (v := .ref C) rfl T.g_Atom rfl) (nomark _)) (pss_one (ps_if (pt_cmpR op_gt (pe_fld (pv 4) rfl) (pv 2) (nomark _)) (pss_one (ps_ret pe_bl)) pss_nil)) (pss_one (ps_if (PW.pt (pw_and (pt_cmpR op_notN (pv 4) pe_non (nomark _)) (pw_and (pt_not (pt_val (C8.pe_c c_is_number hr (by first | decide | omega) rfl (pa_cons (pv 4) pa_nil)))) (pw_and1 (pt_not (pt_val (C8.pe_c c_is_text hr (by first | decide | omega) rfl (pa_cons (pv 4) pa_nil)))))))) (pss_one (ps_ret pe_bl)) pss_nil))))))))
      (pss_one (ps_ret pe_bl)))), ?_⟩
  refine ⟨_, rfl, (by show 2 ≤ sizeLine; decide), fun q0 hq0 => ⟨(by show 1 ≤ sizeLine; decide), fun l hl => ?_⟩⟩
  have s1 := same_new (o := .tup [x, .int 0]) hq0
  have s2 := same_new (o := .lst [.ref q0]) hl
  have hl0 : H l = none := s1.free hl
  refine ⟨fun m σ' H' => ∃ v4 v5 xs ps, σ' = [some x, some (.int (md : Int)), some (.int (mr : Int)), some (.ref l), v4, v5, none] ∧ Same H H' ∧ H' l = some (.lst xs) ∧ Stk C H H' xs ps ∧ okS md mr ps = okW md mr 0 d ∧ m = szS ps ∧ szS ps ≤ 1000000 ∧ ∀ p ∈ ps, txl p.1,
    ⟨_, none, none, [.ref q0], [(d, 0)], rfl, s1.trans s2, upd_same, .cons (s2 _ _ upd_same) hx .nil, by simp [okS], rfl, by simp [szS]; exact hz.1, fun p hp => by rw [List.mem_singleton.mp hp]; exact hz.2⟩, ?_⟩
  rintro m σ' H' ⟨v4, v5, xs, ps, rfl, sm, hl', st, ok, rfl, hm, hs⟩
  refine ⟨_, rfl, _, .inl ⟨xs, SqL.of hl', rfl⟩, ?_⟩
  by_cases hps : ps = []
  · subst hps
    cases st
    refine iteF ?_
    have q := q H' sm
    rw [← ok] at q
    exact q
  obtain ⟨qa, y, e, n, ys, qs, rfl, rfl, hq, hy, st'⟩ := st.last hps
  refine bT (by simp) ⟨fun σ2 H2 => ∃ m', m' < szS (qs ++ [(e, n)]) ∧ ∃ v4 v5 xs ps, σ2 = [some x, some (.int (md : Int)), some (.int (mr : Int)), some (.ref l), v4, v5, none] ∧ Same H H2 ∧ H2 l = some (.lst xs) ∧ Stk C H H2 xs ps ∧ okS md mr ps = okW md mr 0 d ∧ m' = szS ps ∧ szS ps ≤ 1000000 ∧ ∀ p ∈ ps, txl p.1, fun σ2 H2 h => h, ?_⟩
  -- part, deep = todo.pop()
  refine ⟨_, rfl, .inl ⟨rfl, _, SqL.of hl'⟩, l, _, .ref qa, rfl, rfl, hl', by simp, ?_⟩
  rw [List.dropLast_concat]
  have tp := Tups.put (ys := ys) hl'
  refine ⟨qa, [y, .int (n : Int)], rfl, SqT.of (tp _ _ hq), rfl, y, [.int (n : Int)], rfl, .int (n : Int), [], rfl, rfl, ?_⟩
  have sm2 : Same H (upd H' l (.lst ys)) := same_put sm hl0
  have hys : (upd H' l (.lst ys)) l = some (.lst ys) := upd_same
  have st2 := st'.keep tp
  rw [okS_app] at ok
  have hsz : szS (qs ++ [(e, n)]) = szS qs + sz e := by rw [szS_app]; simp [szS]
  have hse := sz_pos e
  have hqs : ∀ p ∈ qs, txl p.1 := fun p hp => hs p (List.mem_append_left _ hp)
  have hse2 : txl e := hs (e, n) (List.mem_append_right _ (List.mem_singleton.mpr rfl))
  have ok2 : okS md mr [(e, n)] = okW md mr n e := by simp [okS]
  rw [ok2] at ok
  generalize upd H' l (.lst ys) = H2 at sm2 hys st2
  have hy2 := hy.same sm2
  -- a part that is right, and leads no further
  have good : okW md mr n e = true → ∀ H3, Same H2 H3 → H3 l = some (.lst ys) → ∃ m', m' < szS (qs ++ [(e, n)]) ∧ ∃ v4 v5 xs ps, ([some x, some (.int (md : Int)), some (.int (mr : Int)), some (.ref l), some y, some (.int (n : Int)), none] : L2.St) = [some x, some (.int (md : Int)), some (.int (mr : Int)), some (.ref l), v4, v5, none] ∧ Same H H3 ∧ H3 l = some (.lst xs) ∧ Stk C H H3 xs ps ∧ okS md mr ps = okW md mr 0 d ∧ m' = szS ps ∧ szS ps ≤ 1000000 ∧ ∀ p ∈ ps, txl p.1 := fun hok H3 s3 hl3 =>
    ⟨szS qs, by omega, _, _, ys, qs, rfl, sm2.trans s3, hl3, st2.keep (Tups.of s3), by rw [← ok, hok, Bool.and_true], rfl, by omega, hqs⟩
  -- a part that is wrong
  have bad : okW md mr n e = false → ∀ H3, Same H2 H3 → Q (.bl false) H3 := fun hok H3 s3 => by
    have q := q H3 (sm2.trans s3)
    rw [← ok, hok, Bool.and_false] at q
    exact q
  refine ⟨_, rfl, y, e, rfl, hy2, kyV_ok e, .inl ⟨_, rfl⟩, _, rfl, ?_⟩
  by_cases ct : kyV C e = .ty "tuple"
  · refine ifT ct ?_
    obtain ⟨es, rfl⟩ := kyV_tup.mp ct
    refine ⟨_, rfl, _, rfl, rfl, _, rfl, ?_⟩
    by_cases cn : n = md
    · refine ifT (by rw [cn]) ?_
      exact bad (by simp [okW, cn]) H2 (Same.refl _)
    · refine ifF (fun z => cn (by have := V.int.inj z; omega)) ?_
      have hyt := hy
      cases hyt with
      | @tup ta txs _ hta tis =>
        refine ⟨_, rfl, .inl ⟨rfl, _, SqL.of hys⟩, _, rfl, ta, rfl, ⟨_, SqT.of (sm2 _ _ hta)⟩, fun Dl hD => ?_⟩
        have nDl : l ≠ Dl := fun z => by rw [z] at hys; rw [hys] at hD; cases hD
        refine lc_tup (K := K) (a := ta) (xs := txs) (fun i H3 => Same H2 H3 ∧ ∃ zs, H3 Dl = some (.lst zs) ∧ Stk C H H3 zs ((es.take i).map fun d => (d, n + 1)) ∧ zs.length = i)
          ⟨same_new hD, [], upd_same, by simpa using Stk.nil, rfl⟩ (fun i H3 _ h => SqT.of (h.1 _ _ (sm2 _ _ hta))) ?_ ?_
        · rintro i z H3 hi ⟨s3, zs, hz3, stz, hzl⟩
          obtain ⟨ed, hed, hiz⟩ := tis.at hi
          refine ⟨rfl, yes ?_⟩
          refine ⟨_, rfl, _, rfl, _, _, rfl, rfl, (by show 2 ≤ sizeLine; decide), fun t ht => ?_⟩
          have s4 := same_new (o := .tup [z, .int ((n : Int) + 1)]) ht
          have hz4 := s4 _ _ hz3
          have hlt := (List.getElem?_eq_some_iff.mp hed).1
          refine ⟨zs, hz4, Nat.lt_of_lt_of_le (show zs.length < 1000001 by simp only [sz] at hsz; have := len_szL es; omega) (by decide), same_put (s3.trans s4) hD, zs ++ [.ref t], upd_same, ?_, by simp [hzl]⟩
          have e6 : (es.take (i + 1)).map (fun d => (d, n + 1)) = (es.take i).map (fun d => (d, n + 1)) ++ [(ed, n + 1)] := by rw [List.take_add_one, hed, List.map_append]; rfl
          rw [e6]
          exact (stz.keep ((Tups.of s4).trans (Tups.put hz4))).app (.cons (Tups.put hz4 _ _ upd_same) hiz .nil)
        · rintro H3 ⟨s3, zs, hz3, stz, hzl⟩
          have htl := tis.len
          have hzl2 : zs.length + 1 ≤ sz (.tup es) := by simp only [sz]; have := len_szL es; omega
          have hyl := st2.len
          have hql := len_szS qs
          have hl3 := s3 _ _ hys
          refine ⟨l, Dl, ys, zs, rfl, rfl, hl3, hz3, Nat.le_trans (show ys.length + zs.length ≤ 1000000 by omega) (by decide), ?_⟩
          rw [List.take_of_length_le (by omega)] at stz
          refine ⟨szS (qs ++ es.map fun d => (d, n + 1)), ?_, _, _, ys ++ zs, qs ++ es.map (fun d => (d, n + 1)), rfl, same_put (sm2.trans s3) hl0, upd_same, ((st2.keep (Tups.of s3)).app stz).keep (Tups.put hl3), ?_, rfl, ?_, fun p hp => ?_⟩
          · rw [szS_app, szS_map, hsz]; simp only [sz]; omega
          · rw [okS_app, okS_map, ← ok]; simp [okW, cn]
          · rw [szS_app, szS_map]; simp only [sz] at hsz; omega
          · rcases List.mem_append.mp hp with hp | hp
            · exact hqs p hp
            · obtain ⟨d', hd', rfl⟩ := List.mem_map.mp hp
              exact txlL_mem (by simpa [txl] using hse2) hd'
  · refine ifF ct ⟨_, rfl, y, e, rfl, hy2, kyV_ok e, .inr rfl, _, rfl, ?_⟩
    by_cases ca : kyV C e = .ref C
    · refine ifT ca ?_
      obtain ⟨k, es, rfl⟩ := kyV_atom.mp ca
      cases hy2 with
      | @atom aa dx at_ _ axs _ svh1 h1 h2 h3 gmh1 =>
        refine ⟨_, rfl, aa, C, dx, _, _, rfl, h1, T.cl.cl, T.cl.nR, rfl, _, rfl, _, _, rfl, rfl, _, rfl, ite2 (fun c => ?_) (fun c => ?_)⟩
        · exact bad (by simp only [okW]; refine decide_eq_false fun z => ?_; simp at c; omega) H2 (Same.refl _)
        · exact good (by simp only [okW]; refine decide_eq_true ?_; simp at c; omega) H2 (Same.refl _) hys
    · refine ifF ca ⟨_, rfl, rfl, _, rfl, ?_⟩
      by_cases cN : y = .non
      · rw [decide_eq_true cN]
        subst cN
        cases hy
        exact iteF (iteF (good rfl H2 (Same.refl _) hys))
      · rw [decide_eq_false cN]
        refine iteT ⟨_, rfl, y, e, rfl, hy2, trivial, fun H3 s3 => ⟨_, rfl, ?_⟩⟩
        cases hn : isNum e with
        | true =>
          refine iteF (iteF (good ?_ H3 s3 (s3 _ _ hys)))
          cases e <;> first | exact hn | cases hn
        | false =>
          refine iteT ⟨_, rfl, y, e, rfl, hy2.same s3, fun z hz' => by subst hz'; simpa [txl] using hse2, fun H4 s4 => ⟨_, rfl, ?_⟩⟩
          have s34 := s3.trans s4
          cases ht : isTxt e with
          | true =>
            refine iteF (good ?_ H4 s34 (s34 _ _ hys))
            cases e <;> first | exact ht | cases ht
          | false =>
            refine iteT (bad ?_ H4 s34)
            cases e with
            | non => cases hy; exact absurd rfl cN
            | int i => exact hn
            | str z => exact ht
            | tup es => exact absurd rfl ct
            | atom k es => exact absurd rfl ca
            | _ => rfl
end
end Hc

namespace Hc
open PySem PySem.Spec PyProof.Rows L2 Hr
variable [Memo]
mutual
/-- the atoms, each where it stands -/
def places : D → List D
  | .tup ds => placesL ds
  | .atom k ds => [.atom k ds]
  | _ => []
def placesL : List D → List D
  | [] => []
  | d :: ds => places d ++ placesL ds
end
theorem placesL_app : ∀ a b : List D, placesL (a ++ b) = placesL a ++ placesL b
  | [], b => rfl
  | x :: a, b => by rw [List.cons_append]; simp only [placesL]; rw [placesL_app a b, List.append_assoc]
mutual
theorem places_len : ∀ d : D, (places d).length ≤ sz d
  | .tup ds => by simp only [places, sz]; have := placesL_len ds; omega
  | .atom k ds => by simp [places, sz]
  | .non | .bl _ | .int _ | .str _ | .lst _ | .dct => by simp [places, sz]
theorem placesL_len : ∀ ds : List D, (placesL ds).length ≤ szL ds
  | [] => Nat.le_refl _
  | d :: ds => by simp only [placesL, szL, List.length_append]; have := places_len d; have := placesL_len ds; omega
end
mutual
theorem places_rank : ∀ d : D, (∀ e ∈ places d, rank e ≤ rank d) ∧ (0 < rank d → ∃ e ∈ places d, rank e = rank d)
  | .tup ds => by simp only [places, rank]; exact placesL_rank ds
  | .atom k ds => by simp [places]
  | .non | .bl _ | .int _ | .str _ | .lst _ | .dct => by simp [places, rank]
theorem placesL_rank : ∀ ds : List D, (∀ e ∈ placesL ds, rank e ≤ rankL ds) ∧ (0 < rankL ds → ∃ e ∈ placesL ds, rank e = rankL ds)
  | [] => by simp [placesL, rankL]
  | d :: ds => by
    obtain ⟨h1, h2⟩ := places_rank d
    obtain ⟨h3, h4⟩ := placesL_rank ds
    simp only [placesL, rankL]
    refine ⟨fun e he => ?_, fun hp => ?_⟩
    · rcases List.mem_append.mp he with he | he
      · have := h1 e he; omega
      · have := h3 e he; omega
    · by_cases c : rankL ds ≤ rank d
      · obtain ⟨e, he, hr⟩ := h2 (by omega)
        exact ⟨e, List.mem_append_left _ he, by omega⟩
      · obtain ⟨e, he, hr⟩ := h4 (by omega)
        exact ⟨e, List.mem_append_right _ he, by omega⟩
end
mutual
theorem places_atom : ∀ (d : D), ∀ e ∈ places d, ∃ k ds, e = .atom k ds
  | .tup ds, e, h => placesL_atom ds e (by simpa [places] using h)
  | .atom k ds, e, h => by simp [places] at h; exact ⟨k, ds, h⟩
  | .non, _, h | .bl _, _, h | .int _, _, h | .str _, _, h | .lst _, _, h | .dct, _, h => by simp [places] at h
theorem placesL_atom : ∀ (ds : List D), ∀ e ∈ placesL ds, ∃ k ds, e = .atom k ds
  | [], _, h => by simp [placesL] at h
  | d :: ds, e, h => by
    simp only [placesL] at h
    rcases List.mem_append.mp h with h | h
    · exact places_atom d e h
    · exact placesL_atom ds e h
end
def spPlaces (C : Addr) : Sp := fun vs H Q _ => ∃ x d, vs = [x] ∧ Is C H x d ∧ Fit d ∧ ∀ H' p xs, Same H H' → H p = none → H' p = some (.lst xs) → IsA C H' xs (places d) → Q (.ref p) H'
/-- a natural number is told -/
def spN (C : Addr) (ok : D → Prop) (f : D → Nat) : Sp := fun vs H Q _ => ∃ x d, vs = [x] ∧ Is C H x d ∧ ok d ∧ ∀ H', Same H H' → Q (.int (f d : Int)) H'
section
variable {P : Program} {w : World} {K : PySem.W.Frag} {mg : Str → Option Value} {base : Heap} {f : Addr} {fd : FuncData} {C : Addr}
abbrev s_is_word : Stmt := top 15
theorem sc_is_word : FnScope ["value"] ["value"] (C8.fnScope s_is_word) := C8.fnScope_by (by decide +kernel)
theorem ok_is_word (F : C8.Def K mg "is_word" s_is_word f fd) (b : Binds K fd ["value"] []) (T : Txt K mg w C) (c__is_within : C8.Cal P w K mg base 2 "_is_within" (spWithin C) []) : C8.Cal P w K mg base 3 "is_word" (spB C Fit (okW 40 40 0)) [] := by
  refine C8.cal0 F b .nil sc_is_word (fun vs H Q E h => ?_) (fun cdv A outer s H vs Q E hr h => ?_)
  · obtain ⟨x, d, rfl, _⟩ := h; rfl
  obtain ⟨x, d, rfl, hx, hz, q⟩ := h
  refine ⟨_, (pss_one (ps_ret (C8.pe_c c__is_within hr (by first | decide | omega) rfl (pa_cons (pv 0) (pa_cons (C8.pe_gc rfl T.c_MOST_DEEP) (pa_cons (C8.pe_gc rfl T.c_MOST_RANK) pa_nil)))))), ?_⟩
  exact ⟨x, rfl, x, d, 40, 40, rfl, hx, hz, q⟩
abbrev s__places_of_atoms : Stmt := top 24
theorem sc__places_of_atoms : FnScope ["value", "found", "todo", "part"] ["value"] (C8.fnScope s__places_of_atoms) := C8.fnScope_by (by decide +kernel)
theorem ok__places_of_atoms (F : C8.Def K mg "_places_of_atoms" s__places_of_atoms f fd) (b : Binds K fd ["value"] []) (T : Txt K mg w C) : C8.Cal P w K mg base 1 "_places_of_atoms" (spPlaces C) [] := by
  refine C8.cal0 F b .nil sc__places_of_atoms (fun vs H Q E h => ?_) (fun cdv A outer s H vs Q E hr h => ?_)
  · obtain ⟨x, d, rfl, _⟩ := h; rfl
  obtain ⟨x, d, rfl, hx, hz, q⟩ := h
  refine ⟨_, (pss_cons (ps_set (i := 1) sc__places_of_atoms.nd rfl (Or.inl rfl) (pe_lst pa_nil))
      (pss_cons (ps_set (i := 2) sc__places_of_atoms.nd rfl (Or.inl rfl) (pe_lst (pa_cons (pv 0) pa_nil)))
      (pss_cons (ps_while PassesOwn.never (pt_truth (pv 2) (fun _ => rfl))
      (pss_cons (ps_set (i := 3) sc__places_of_atoms.nd rfl (Or.inl rfl) (pe_bm0 PySem.F.plainAttrs_list PySem.F.slot_list_pop PySem.F.type_list_pop mt_pop (pv 2)))
      (pss_one (ps_if (pt_cmpR (op_isTyA (C := C)) (pe_callTy (call_typeA (C := C)) rfl T.z_type bt_type (pa_cons (pv 3) pa_nil)) (pe_bltn (v := .ty "tuple") rfl T.z_tuple bt_tuple rfl) (nomark _)) (pss_one (ps_expr (pe_bm PySem.F.plainAttrs_list PySem.F.slot_list_extend PySem.F.type_list_extend mt_extendT (pv 2) (pa_cons (pe_revT (pv 3)) pa_nil)))) (pss_one (ps_if (pt_cmpR (op_isTyA (C := C)) (pe_callTy (call_typeA (C := C)) rfl T.z_type bt_type (pa_cons (pv 3) pa_nil)) (pe_glob (v := .ref C) rfl T.g_Atom rfl) (nomark _)) (pss_one (ps_expr (pe_bm PySem.F.plainAttrs_list PySem.F.slot_list_append PySem.F.type_list_append mt_append (pv 1) (pa_cons (pv 3) pa_nil)))) pss_nil))))))
      (pss_one (ps_ret (pv 1)))))), ?_⟩
  refine ⟨(by show 0 ≤ sizeLine; decide), fun fo hfo => ⟨x, rfl, (by show 1 ≤ sizeLine; decide), fun l hl => ?_⟩⟩
  have s1 := same_new (o := .lst []) hfo
  have s2 := same_new (o := .lst [x]) hl
  have hl0 : H l = none := s1.free hl
  have nfl : fo ≠ l := fun z => by rw [← z, upd_same] at hl; cases hl
  refine ⟨fun m σ' H' => ∃ v3 fs xs es ds, σ' = [some x, some (.ref fo), some (.ref l), v3] ∧ Same H H' ∧ H' fo = some (.lst fs) ∧ H' l = some (.lst xs) ∧ IsA C H fs es ∧ IsA C H xs ds ∧ es ++ placesL ds.reverse = places d ∧ m = szL ds ∧ szL ds ≤ 1000000,
    ⟨_, none, [], [x], [], [d], rfl, s1.trans s2, s2 _ _ upd_same, upd_same, .nil, .cons hx .nil, by simp [placesL], rfl, by simp [szL]; exact hz.1⟩, ?_⟩
  rintro m σ' H' ⟨v3, fs, xs, es, ds, rfl, sm, hf', hl', hfs, hxs, e0, rfl, hm⟩
  refine ⟨_, rfl, _, .inl ⟨xs, SqL.of hl', rfl⟩, ?_⟩
  rcases List.eq_nil_or_concat ds with rfl | ⟨ds', e, rfl⟩
  · cases hxs
    refine iteF ⟨_, rfl, ?_⟩
    simp only [List.reverse_nil, placesL, List.append_nil] at e0
    rw [e0] at hfs
    exact q H' fo fs sm hfo hf' (hfs.same sm)
  obtain ⟨ys, y, rfl, hys, hy⟩ := hxs.concat
  simp only [List.concat_eq_append] at e0 hm ⊢
  refine bT (by simp) ⟨fun σ2 H2 => ∃ m', m' < szL (ds' ++ [e]) ∧ ∃ v3 fs xs es ds, σ2 = [some x, some (.ref fo), some (.ref l), v3] ∧ Same H H2 ∧ H2 fo = some (.lst fs) ∧ H2 l = some (.lst xs) ∧ IsA C H fs es ∧ IsA C H xs ds ∧ es ++ placesL ds.reverse = places d ∧ m' = szL ds ∧ szL ds ≤ 1000000, fun σ2 H2 h => h, ?_⟩
  refine ⟨_, rfl, .inl ⟨rfl, _, SqL.of hl'⟩, l, _, y, rfl, rfl, hl', by simp, ?_⟩
  rw [List.dropLast_concat]
  have sm2 : Same H (upd H' l (.lst ys)) := same_put sm hl0
  have hl2 : (upd H' l (.lst ys)) l = some (.lst ys) := upd_same
  have hf2 : (upd H' l (.lst ys)) fo = some (.lst fs) := by rw [upd_ne nfl]; exact hf'
  generalize upd H' l (.lst ys) = H2 at sm2 hl2 hf2
  rw [List.reverse_append, List.reverse_singleton, List.singleton_append] at e0
  simp only [placesL] at e0
  have hse := sz_pos e
  have hsz : szL (ds' ++ [e]) = szL ds' + sz e := by rw [szL_app]; simp [szL]
  have hdl := len_szL ds'
  have hyl := hys.len
  refine ⟨_, rfl, y, e, rfl, hy.same sm2, kyV_ok e, .inl ⟨_, rfl⟩, _, rfl, ?_⟩
  by_cases ct : kyV C e = .ty "tuple"
  · refine ifT ct ?_
    obtain ⟨gs, rfl⟩ := kyV_tup.mp ct
    cases hy with
    | @tup ta txs _ hta tis =>
      refine ⟨_, rfl, .inl ⟨rfl, _, SqL.of hl2⟩, _, rfl, ta, _, rfl, SqT.of (sm2 _ _ hta), fun r hr' => ?_⟩
      have s3 := same_new (o := .tup txs.reverse) hr'
      have htl := tis.len
      have hgl := len_szL gs
      refine ⟨l, r, ys, _, rfl, rfl, s3 _ _ hl2, upd_same, Nat.le_trans (show ys.length + txs.reverse.length ≤ 1000000 by simp only [sz] at hsz; rw [List.length_reverse]; omega) (by decide), ?_⟩
      refine ⟨szL (ds' ++ gs.reverse), ?_, _, fs, ys ++ txs.reverse, es, ds' ++ gs.reverse, rfl, same_put (sm2.trans s3) hl0, by rw [upd_ne nfl]; exact s3 _ _ hf2, upd_same, hfs, hys.app tis.rev, ?_, rfl, ?_⟩
      · rw [szL_app, szL_rev, hsz]; simp only [sz]; omega
      · rw [List.reverse_append, List.reverse_reverse, placesL_app]; simp only [places] at e0; exact e0
      · rw [szL_app, szL_rev]; simp only [sz] at hsz; omega
  · refine ifF ct ⟨_, rfl, y, e, rfl, hy.same sm2, kyV_ok e, .inr rfl, _, rfl, ?_⟩
    by_cases ca : kyV C e = .ref C
    · refine ifT ca ?_
      obtain ⟨k, gs, rfl⟩ := kyV_atom.mp ca
      have hel : es.length + 1 ≤ 1000000 := by
        have h1 := congrArg List.length e0
        have h2 := places_len d
        have h3 := hz.1
        simp only [List.length_append, places, List.length_singleton] at h1
        omega
      have hfl := hfs.len
      refine ⟨_, rfl, .inl ⟨rfl, _, SqL.of hf2⟩, _, rfl, fo, fs, y, rfl, rfl, hf2, Nat.lt_of_lt_of_le (show fs.length < 1000001 by omega) (by decide), ?_⟩
      refine ⟨szL ds', by omega, _, fs ++ [y], ys, es ++ [.atom k gs], ds', rfl, same_put sm2 hfo, upd_same, by rw [upd_ne nfl.symm]; exact hl2, hfs.app (.cons hy .nil), hys, ?_, rfl, by omega⟩
      simp only [places] at e0
      rw [List.append_assoc]; exact e0
    · refine ifF ca ⟨szL ds', by omega, _, fs, ys, es, ds', rfl, sm2, hf2, hl2, hfs, hys, ?_, rfl, by omega⟩
      have hp : places e = [] := by cases e <;> first | rfl | exact absurd rfl ct | exact absurd rfl ca
      rw [hp] at e0; exact e0
end
end Hc

namespace Hc
open PySem PySem.Spec PyProof.Rows L2 Hr
variable [Memo]
theorem call_lenS {X : Cx} : CallR X (.builtin "len") (fun xs H Q => ∃ p ys, xs = [.ref p] ∧ (SqL X.K H p ys ∨ SqT X.K H p ys) ∧ Q (.int ys.length) H) := call_len_seq
def spRk (C : Addr) : Sp := fun vs H Q _ => ∃ k t ds, vs = [.str k, .ref t] ∧ Is C H (.ref t) (.tup ds) ∧ Fit (.tup ds) ∧ ∀ H', Same H H' → Q (.int ((rank (.atom k ds) : Nat) : Int)) H'
def mostR (k : Str) : Nat := if k = "token" then 36 else 40
def spMost : Sp := fun vs H Q _ => ∃ k, vs = [.str k] ∧ Q (.int ((mostR k : Nat) : Int)) H
def isS : D → Bool | .str _ => true | _ => false
def isI : D → Bool | .int _ => true | _ => false
def isT : D → Bool | .tup _ => true | _ => false
def hasF (d : D) (z : Str) : Bool :=
  if z = "text" then isS d
  else if z = "number" then isI d
  else if z = "tuple" then isT d
  else if z = "hidden" then (match d with | .non => true | .tup ds => decide (ds.length = 4) | _ => false)
  else if z = "pages" then (match d with | .tup ds => decide (ds.length = 8) | _ => false)
  else true
def spHasF (C : Addr) : Sp := fun vs H Q _ => ∃ x d z, vs = [x, .str z] ∧ Is C H x d ∧ Q (.bl (hasF d z)) H
theorem inV2 (k : Str) : inV (.str k) [.str "seal", .str "page"] = (decide (k = "seal") || decide (k = "page")) := by
  have e : ∀ a b : Str, eqV (.str a) (.str b) = decide (b = a) := fun a b => by
    simp only [eqV]
    by_cases h : a = b
    · subst h; simp
    · simp [h, Ne.symm h, fun z : b = a => h z.symm]
  show ([V.str "seal", .str "page"].any fun y => eqV y (.str k)) = _
  rw [List.any_cons, List.any_cons, e, e]
  simp
section
variable {P : Program} {w : World} {K : PySem.W.Frag} {mg : Str → Option Value} {base : Heap} {f : Addr} {fd : FuncData} {C : Addr}
abbrev s_rank_of : Stmt := top 19
theorem sc_rank_of : FnScope ["word", "atom"] ["word"] (C8.fnScope s_rank_of) := C8.fnScope_by (by decide +kernel)
theorem ok_rank_of (F : C8.Def K mg "rank_of" s_rank_of f fd) (b : Binds K fd ["word"] []) (T : Txt K mg w C) (c__places_of_atoms : C8.Cal P w K mg base 1 "_places_of_atoms" (spPlaces C) []) : C8.Cal P w K mg base 2 "rank_of" (spN C Fit rank) [] := by
  refine C8.cal0 F b .nil sc_rank_of (fun vs H Q E h => ?_) (fun cdv A outer s H vs Q E hr h => ?_)
  · obtain ⟨x, d, rfl, _⟩ := h; rfl
  obtain ⟨x, d, rfl, hx, hz, q⟩ := h
  refine ⟨_, (pss_one (ps_ret (pe_callBK (call_maxDK rfl) rfl T.z_max bt_max (pa_cons (pe_lc (own := [("atom", 1)]) (te := tFld K (tVar 1) "rank") (g := gName 1) rfl sc_rank_of.nd (pi_list (C8.pe_c c__places_of_atoms hr (by first | decide | omega) rfl (pa_cons (pv 0) pa_nil))) (blkOk_by (own := [("atom", 1)]) (N := ["word", "atom"]) (sc := C8.fnScope s_rank_of) (by decide +kernel)) (fun _ _ _ _ _ => (pg_name (i := 1) sc_rank_of.nd rfl (Or.inl rfl))) (fun _ _ _ _ _ => pts_nil) (fun _ _ _ _ _ => (pe_fld (pv 1) rfl))) pa_nil) (pk_cons pe_int pk_nil)))), ?_⟩
  refine ⟨x, rfl, x, d, rfl, hx, hz, fun H1 p xs sm hp hl is => ⟨p, rfl, ⟨xs, SqL.of hl⟩, fun Dl hD => ?_⟩⟩
  have npD : p ≠ Dl := fun z => by rw [z] at hl; rw [hl] at hD; cases hD
  refine lc_list (K := K) (a := p) (xs := xs) (fun i H3 => Same H1 H3 ∧ H3 Dl = some (.lst (((places d).take i).map fun e => V.int ((rank e : Nat) : Int)))) ⟨same_new hD, upd_same⟩ (fun i H3 _ h => SqL.of (h.1 _ _ hl)) ?_ ?_
  · rintro i z H3 hi ⟨s3, hz3⟩
    obtain ⟨e, he, hie⟩ := is.at hi
    obtain ⟨k, gs, rfl⟩ := places_atom d e (List.mem_of_getElem? he)
    refine ⟨rfl, yes ?_⟩
    have hie3 := hie.same s3
    cases hie3 with
    | @atom aa dx at_ _ axs _ svh1 h1 h2 h3 gmh1 =>
      have hlt := (List.getElem?_eq_some_iff.mp he).1
      have hpl := places_len d
      have hzz := hz.1
      refine ⟨_, rfl, aa, C, dx, _, _, rfl, h1, T.cl.cl, T.cl.nR, rfl, _, hz3, Nat.lt_of_lt_of_le (show _ < 1000001 by rw [List.length_map, List.length_take]; omega) (by decide), same_put s3 hD, ?_⟩
      rw [upd_same, List.take_add_one, he, List.map_append]; rfl
  · rintro H3 ⟨s3, hz3⟩
    rw [is.len, List.take_of_length_le (Nat.le_refl _)] at hz3
    refine ⟨Dl, (places d).map fun e => ((rank e : Nat) : Int), 0, rfl, rfl, SqL.of (by rw [List.map_map]; exact hz3), fun m h0 h1 => ?_⟩
    have em : m = ((rank d : Nat) : Int) := by
      obtain ⟨r1, r2⟩ := places_rank d
      by_cases hp0 : places d = []
      · have hr0 : ¬ 0 < rank d := fun z => by
          obtain ⟨e, he, _⟩ := r2 z
          rw [hp0] at he; cases he
        rw [h0 (by rw [hp0]; rfl)]; omega
      · obtain ⟨hm, hall⟩ := h1 (by simpa using hp0)
        obtain ⟨e, he, rfl⟩ := List.mem_map.mp hm
        have h5 := r1 e he
        have hpos : 0 < rank d := by
          obtain ⟨k, gs, rfl⟩ := places_atom d e he
          have : 0 < rank (.atom k gs) := by simp only [rank]; split <;> omega
          omega
        obtain ⟨e2, he2, hr2⟩ := r2 hpos
        have := hall _ (List.mem_map.mpr ⟨e2, he2, rfl⟩)
        omega
    rw [em]
    exact q H3 (sm.trans s3)
abbrev s__rank_of_atom : Stmt := top 28
theorem sc__rank_of_atom : FnScope ["kind", "term"] ["kind", "term"] (C8.fnScope s__rank_of_atom) := C8.fnScope_by (by decide +kernel)
theorem ok__rank_of_atom (F : C8.Def K mg "_rank_of_atom" s__rank_of_atom f fd) (b : Binds K fd ["kind", "term"] []) (T : Txt K mg w C) (c_rank_of : C8.Cal P w K mg base 2 "rank_of" (spN C Fit rank) []) : C8.Cal P w K mg base 3 "_rank_of_atom" (spRk C) [] := by
  refine C8.cal0 F b .nil sc__rank_of_atom (fun vs H Q E h => ?_) (fun cdv A outer s H vs Q E hr h => ?_)
  · obtain ⟨k, t, ds, rfl, _⟩ := h; rfl
  obtain ⟨k, t, ds, rfl, hx, hz, q⟩ := h
  refine ⟨_, (pss_cons (ps_if (pt_cmpR op_in_seq (pv 0) (pe_tup (pa_cons pe_str (pa_cons pe_str pa_nil))) (by with_unfolding_all rfl)) (pss_one (ps_ret pe_int)) pss_nil)
      (pss_one (ps_ret (pe_op op_add (C8.pe_c c_rank_of hr (by first | decide | omega) rfl (pa_cons (pv 1) pa_nil)) pe_int)))), ?_⟩
  refine ⟨_, rfl, (by show 2 ≤ sizeLine; decide), fun u hu => ?_⟩
  have s1 := same_new (o := .tup [.str "seal", .str "page"]) hu
  refine ⟨u, _, rfl, .inr (SqT.of upd_same), rfl, rfl, _, rfl, ?_⟩
  show (if (inV (.str k) [.str "seal", .str "page"]) = true then _ else _)
  rw [inV2]
  by_cases c : k = "seal" ∨ k = "page"
  · have e : rank (.atom k ds) = 1 := by simp only [rank]; rw [if_pos c]
    rw [e] at q
    refine bT (by simpa using c) (q _ s1)
  · have e : rank (.atom k ds) = rankL ds + 1 := by simp only [rank]; rw [if_neg c]
    rw [e] at q
    refine bF (by simpa using c) ⟨_, rfl, _, .tup ds, rfl, hx.same s1, hz, fun H2 s2 => ⟨_, _, rfl, rfl, ?_⟩⟩
    have q2 := q H2 (s1.trans s2)
    have e2 : (((rankL ds + 1 : Nat)) : Int) = ((rank (.tup ds) : Nat) : Int) + 1 := by simp only [rank]; omega
    rw [e2] at q2
    exact q2
abbrev s__most_rank : Stmt := top 29
theorem sc__most_rank : FnScope ["kind"] ["kind"] (C8.fnScope s__most_rank) := C8.fnScope_by (by decide +kernel)
theorem ok__most_rank (F : C8.Def K mg "_most_rank" s__most_rank f fd) (b : Binds K fd ["kind"] []) (T : Txt K mg w C) : C8.Cal P w K mg base 1 "_most_rank" spMost [] := by
  refine C8.cal0 F b .nil sc__most_rank (fun vs H Q E h => ?_) (fun cdv A outer s H vs Q E hr h => ?_)
  · obtain ⟨k, rfl, _⟩ := h; rfl
  obtain ⟨k, rfl, q⟩ := h
  refine ⟨_, (pss_one (ps_ret (pe_ifExp (pt_cmpR op_eq (pv 0) pe_str (nomark _)) (C8.pe_gc rfl T.c_MOST_RANK_HOST) (C8.pe_gc rfl T.c_MOST_RANK)))), ?_⟩
  refine ⟨_, rfl, rfl, _, rfl, ?_⟩
  unfold mostR at q
  by_cases c : k = "token"
  · rw [if_pos c] at q
    exact ifT (congrArg V.str c) q
  · rw [if_neg c] at q
    exact ifF (fun z => c (V.str.inj z)) q
abbrev s__has_form : Stmt := top 27
theorem sc__has_form : FnScope ["part", "form"] ["part", "form"] (C8.fnScope s__has_form) := C8.fnScope_by (by decide +kernel)
theorem ok__has_form (F : C8.Def K mg "_has_form" s__has_form f fd) (b : Binds K fd ["part", "form"] []) (T : Txt K mg w C) : C8.Cal P w K mg base 1 "_has_form" (spHasF C) [] := by
  refine C8.cal0 F b .nil sc__has_form (fun vs H Q E h => ?_) (fun cdv A outer s H vs Q E hr h => ?_)
  · obtain ⟨x, d, z, rfl, _⟩ := h; rfl
  obtain ⟨x, d, z, rfl, hx, q⟩ := h
  refine ⟨_, (pss_cons (ps_if (pt_cmpR op_eq (pv 1) pe_str (nomark _)) (pss_one (ps_ret (pe_cmpR (op_isTyA (C := C)) (pe_callTy (call_typeA (C := C)) rfl T.z_type bt_type (pa_cons (pv 0) pa_nil)) (pe_bltn (v := .ty "str") rfl T.z_str bt_str rfl) (nomark _)))) pss_nil)
      (pss_cons (ps_if (pt_cmpR op_eq (pv 1) pe_str (nomark _)) (pss_one (ps_ret (pe_cmpR (op_isTyA (C := C)) (pe_callTy (call_typeA (C := C)) rfl T.z_type bt_type (pa_cons (pv 0) pa_nil)) (pe_bltn (v := .ty "int") rfl T.z_int bt_int rfl) (nomark _)))) pss_nil)
      (pss_cons (ps_if (pt_cmpR op_eq (pv 1) pe_str (nomark _)) (pss_one (ps_ret (pe_cmpR (op_isTyA (C := C)) (pe_callTy (call_typeA (C := C)) rfl T.z_type bt_type (pa_cons (pv 0) pa_nil)) (pe_bltn (v := .ty "tuple") rfl T.z_tuple bt_tuple rfl) (nomark _)))) pss_nil)
      (pss_cons (ps_if (pt_cmpR op_eq (pv 1) pe_str (nomark _)) (pss_one (ps_ret (pe_or (pe_cmpR op_isN (pv 0) pe_non (nomark _)) (pe_one (pe_and (pe_cmpR (op_isTyA (C := C)) (pe_callTy (call_typeA (C := C)) rfl T.z_type bt_type (pa_cons (pv 0) pa_nil)) (pe_bltn (v := .ty "tuple") rfl T.z_tuple bt_tuple rfl) (nomark _)) (pe_one (pe_cmpR op_eq (pe_callB call_lenS rfl T.z_len bt_len (pa_cons (pv 0) pa_nil)) pe_int (nomark _)))))))) pss_nil)
      (pss_cons (ps_if (pt_cmpR op_eq (pv 1) pe_str (nomark _)) (pss_one (ps_ret (pe_and (pe_cmpR (op_isTyA (C := C)) (pe_callTy (call_typeA (C := C)) rfl T.z_type bt_type (pa_cons (pv 0) pa_nil)) (pe_bltn (v := .ty "tuple") rfl T.z_tuple bt_tuple rfl) (nomark _)) (pe_one (pe_cmpR op_eq (pe_callB call_lenS rfl T.z_len bt_len (pa_cons (pv 0) pa_nil)) pe_int (nomark _)))))) pss_nil)
      (pss_one (ps_ret pe_bl))))))), ?_⟩
  have q := q
  unfold hasF at q
  have kS : decide (kyV C d = .ty "str") = isS d := by cases d <;> simp [kyV, isS]
  have kI : decide (kyV C d = .ty "int") = isI d := by cases d <;> simp [kyV, isI]
  have kT : decide (kyV C d = .ty "tuple") = isT d := by cases d <;> simp [kyV, isT]
  refine ⟨_, rfl, rfl, _, rfl, ?_⟩
  by_cases c1 : z = "text"
  · rw [if_pos c1] at q
    refine ifT (congrArg V.str c1) ⟨x, rfl, x, d, rfl, hx, kyV_ok d, .inl ⟨_, rfl⟩, ?_⟩
    rw [kS]; exact q
  rw [if_neg c1] at q
  refine ifF (fun y => c1 (V.str.inj y)) ⟨_, rfl, rfl, _, rfl, ?_⟩
  by_cases c2 : z = "number"
  · rw [if_pos c2] at q
    refine ifT (congrArg V.str c2) ⟨x, rfl, x, d, rfl, hx, kyV_ok d, .inl ⟨_, rfl⟩, ?_⟩
    rw [kI]; exact q
  rw [if_neg c2] at q
  refine ifF (fun y => c2 (V.str.inj y)) ⟨_, rfl, rfl, _, rfl, ?_⟩
  by_cases c3 : z = "tuple"
  · rw [if_pos c3] at q
    refine ifT (congrArg V.str c3) ⟨x, rfl, x, d, rfl, hx, kyV_ok d, .inl ⟨_, rfl⟩, ?_⟩
    rw [kT]; exact q
  rw [if_neg c3] at q
  refine ifF (fun y => c3 (V.str.inj y)) ⟨_, rfl, rfl, _, rfl, ?_⟩
  by_cases c4 : z = "hidden"
  · rw [if_pos c4] at q
    refine ifT (congrArg V.str c4) ⟨x, rfl, rfl, _, rfl, ?_⟩
    cases hx with
    | non => exact iteT q
    | @tup a xs ds ht ha =>
      have hl := ha.len
      refine iteF ⟨_, rfl, _, .tup ds, rfl, .tup ht ha, kyV_ok _, .inl ⟨_, rfl⟩, _, rfl, ?_⟩
      refine ifT rfl ⟨_, rfl, a, xs, rfl, .inr (SqT.of ht), rfl, ?_⟩
      have e : decide (V.int (xs.length : Int) = V.int 4) = decide (ds.length = 4) := by
        rw [hl]; by_cases c : ds.length = 4
        · rw [c]; rfl
        · rw [decide_eq_false c, decide_eq_false fun y => c (by have := V.int.inj y; omega)]
      rw [e]; exact q
    | bl y => exact iteF ⟨_, rfl, _, .bl y, rfl, .bl y, kyV_ok _, .inl ⟨_, rfl⟩, _, rfl, ifF (by simp [kyV]) q⟩
    | int y => exact iteF ⟨_, rfl, _, .int y, rfl, .int y, kyV_ok _, .inl ⟨_, rfl⟩, _, rfl, ifF (by simp [kyV]) q⟩
    | str y => exact iteF ⟨_, rfl, _, .str y, rfl, .str y, kyV_ok _, .inl ⟨_, rfl⟩, _, rfl, ifF (by simp [kyV]) q⟩
    | lst h1 h2 => exact iteF ⟨_, rfl, _, .lst _, rfl, .lst h1 h2, kyV_ok _, .inl ⟨_, rfl⟩, _, rfl, ifF (by simp [kyV]) q⟩
    | dct h1 => exact iteF ⟨_, rfl, _, .dct, rfl, .dct h1, kyV_ok _, .inl ⟨_, rfl⟩, _, rfl, ifF (by simp [kyV]) q⟩
    | atom h1 h2 h3 h4 => exact iteF ⟨_, rfl, _, .atom _ _, rfl, .atom h1 h2 h3 h4, kyV_ok _, .inl ⟨_, rfl⟩, _, rfl, ifF (by simp [kyV]) q⟩
  rw [if_neg c4] at q
  refine ifF (fun y => c4 (V.str.inj y)) ⟨_, rfl, rfl, _, rfl, ?_⟩
  by_cases c5 : z = "pages"
  · rw [if_pos c5] at q
    refine ifT (congrArg V.str c5) ⟨x, rfl, x, d, rfl, hx, kyV_ok d, .inl ⟨_, rfl⟩, _, rfl, ?_⟩
    by_cases ct : kyV C d = .ty "tuple"
    · obtain ⟨ds, rfl⟩ := kyV_tup.mp ct
      cases hx with
      | @tup a xs _ ht ha =>
        have hl := ha.len
        refine ifT ct ⟨_, rfl, a, xs, rfl, .inr (SqT.of ht), rfl, ?_⟩
        have e : decide (V.int (xs.length : Int) = V.int 8) = decide (ds.length = 8) := by
          rw [hl]; by_cases c : ds.length = 8
          · rw [c]; rfl
          · rw [decide_eq_false c, decide_eq_false fun y => c (by have := V.int.inj y; omega)]
        rw [e]; exact q
    · refine ifF ct ?_
      cases d <;> first | exact q | exact absurd rfl ct
  rw [if_neg c5] at q
  exact ifF (fun y => c5 (V.str.inj y)) q
end
end Hc

namespace Hc
open PySem PySem.Spec PyProof.Rows L2 Hr
variable [Memo]
theorem walk_zipT {K : PySem.W.Frag} {a b : Addr} {xs ys : List V} {n : Nat} (hn : n = min xs.length ys.length) : Walk (RZ.ItzT K a b) n (fun H => SqT K H a xs ∧ SqT K H b ys) (YPair (fun i => xs[i]?) (fun i => ys[i]?)) := by
  subst hn
  refine ⟨fun i _ hi q => ?_, fun _ q => ⟨xs, ys, q.1, q.2, by omega⟩, fun i H v H' _ q y => ?_⟩
  · have h1 : i < xs.length := by omega
    have h2 : i < ys.length := by omega
    exact ⟨xs, ys, xs[i], ys[i], q.1, q.2, by simp [h1], by simp [h2]⟩
  · obtain ⟨t, x, z, e1, e2, e3, e4, e5⟩ := y
    exact ⟨t, x, z, e1, e2, e3, e4 xs q.1, e5 ys q.2⟩
def formsOf (k : Str) : Option (List Str) :=
  if k = "token" then some ["text", "tuple", "word"]
  else if k = "challenge" then some ["text", "number"]
  else if k = "seal" then some ["text", "number", "number", "hidden"]
  else if k = "page" then some ["text", "number", "number", "hidden"]
  else if k = "ticket" then some ["text", "number", "text", "tuple", "pages", "tuple"]
  else none
def partOk (d : D) (z : Str) : Bool := okW 40 40 0 d && hasF d z
def isTermK (k : Str) (ds : List D) : Bool := match formsOf k with
  | some fs => decide (ds.length = fs.length) && (ds.zip fs).all fun p => partOk p.1 p.2
  | none => false
def isTermD : D → D → Bool
  | .str k, .tup ds => isTermK k ds
  | _, _ => false
def KindOk : D → Prop
  | .str k => k = "token" ∨ k = "challenge" ∨ k = "seal" ∨ k = "page" ∨ k = "ticket" ∨ k = "key"
  | _ => True
theorem forms_at {K : PySem.W.Frag} {mg : Str → Option Value} {w : World} {C : Addr} (T : Txt K mg w C) : ∃ Fo, (∃ u, mg "_FORMS" = some u ∧ RelV (.ref Fo) u) ∧ (∃ es n, KDict K w Fo es n) ∧
    ∀ k : Str, KindOk (.str k) → (∃ t fs, formsOf k = some fs ∧ KDct K w Fo k (.ref t) ∧ KTup K t fs) ∨ (formsOf k = none ∧ PySem.W.nsIn K Fo k = some none) := by
  obtain ⟨Fo, t1, t2, t3, t4, t5, gF, KD, d1, d2, d3, d4, d5, d6, k1, k2, k3, k4, k5⟩ := T.forms
  refine ⟨Fo, gF, KD, fun k hk => ?_⟩
  rcases hk with rfl | rfl | rfl | rfl | rfl | rfl
  · exact .inl ⟨t1, _, by decide +kernel, d1, k1⟩
  · exact .inl ⟨t2, _, by decide +kernel, d2, k2⟩
  · exact .inl ⟨t3, _, by decide +kernel, d3, k3⟩
  · exact .inl ⟨t4, _, by decide +kernel, d4, k4⟩
  · exact .inl ⟨t5, _, by decide +kernel, d5, k5⟩
  · exact .inr ⟨by decide +kernel, d6⟩
def spTerm (C : Addr) : Sp := fun vs H Q _ => ∃ xk xt dk dt, vs = [xk, xt] ∧ Is C H xk dk ∧ Is C H xt dt ∧ KindOk dk ∧ Fit dt ∧ ∀ H', Same H H' → Q (.bl (isTermD dk dt)) H'
theorem Fit.part {ds : List D} {d : D} (h : Fit (.tup ds)) (hd : d ∈ ds) : Fit d := by
  refine ⟨?_, txlL_mem (by simpa [txl] using h.2) hd⟩
  have h1 := h.1
  simp only [sz] at h1
  have : sz d ≤ szL ds := by
    clear h h1
    induction ds with
    | nil => cases hd
    | cons x r ih =>
      simp only [szL]
      rcases List.mem_cons.mp hd with rfl | hd
      · omega
      · have := ih hd; omega
  omega
def spInit (C : Addr) : Sp := fun vs H Q _ => ∃ p dx k t ds, vs = [.ref p, .str k, .ref t] ∧ H p = some (.ins C dx []) ∧ Is C H (.ref t) (.tup ds) ∧ isTermK k ds = true ∧ rank (.atom k ds) ≤ mostR k ∧ Fit (.tup ds) ∧
  ∀ H', H' p = some (.ins C dx (atF k t (rank (.atom k ds)))) → (∀ b o, H b = some o → b ≠ p → H' b = some o) → Q .non H'
theorem put_at (k : Str) (t : Addr) (r : Nat) : putF "_stripped" .non (putF "rank" (.int (r : Int)) (putF "term" (.ref t) (putF "kind" (.str k) []))) = atF k t r := by
  have n1 : ¬ (("kind" : Str) = "term") := by decide +kernel
  have n2 : ¬ (("kind" : Str) = "rank") := by decide +kernel
  have n3 : ¬ (("term" : Str) = "rank") := by decide +kernel
  have n4 : ¬ (("kind" : Str) = "_stripped") := by decide +kernel
  have n5 : ¬ (("term" : Str) = "_stripped") := by decide +kernel
  have n6 : ¬ (("rank" : Str) = "_stripped") := by decide +kernel
  simp [putF, atF, n1, n2, n3, n4, n5, n6]
theorem term_kind {k : Str} {ds : List D} (h : isTermK k ds = true) : KindOk (.str k) := by
  unfold isTermK formsOf at h
  unfold KindOk
  by_cases c1 : k = "token"
  · exact .inl c1
  by_cases c2 : k = "challenge"
  · exact .inr (.inl c2)
  by_cases c3 : k = "seal"
  · exact .inr (.inr (.inl c3))
  by_cases c4 : k = "page"
  · exact .inr (.inr (.inr (.inl c4)))
  by_cases c5 : k = "ticket"
  · exact .inr (.inr (.inr (.inr (.inl c5))))
  rw [if_neg c1, if_neg c2, if_neg c3, if_neg c4, if_neg c5] at h
  cases h
section
variable {P : Program} {w : World} {K : PySem.W.Frag} {mg : Str → Option Value} {base : Heap} {f : Addr} {fd : FuncData} {C : Addr}
abbrev s__is_term : Stmt := top 26
theorem sc__is_term : FnScope ["kind", "term", "forms", "part", "form"] ["kind", "term"] (C8.fnScope s__is_term) := C8.fnScope_by (by decide +kernel)
theorem ok__is_term (F : C8.Def K mg "_is_term" s__is_term f fd) (b : Binds K fd ["kind", "term"] []) (T : Txt K mg w C) (c_is_word : C8.Cal P w K mg base 3 "is_word" (spB C Fit (okW 40 40 0)) []) (c__has_form : C8.Cal P w K mg base 1 "_has_form" (spHasF C) []) : C8.Cal P w K mg base 4 "_is_term" (spTerm C) [] := by
  refine C8.cal0 F b .nil sc__is_term (fun vs H Q E h => ?_) (fun cdv A outer s H vs Q E hr h => ?_)
  · obtain ⟨xk, xt, dk, dt, rfl, _⟩ := h; rfl
  obtain ⟨xk, xt, dk, dt, rfl, hk, ht, hok, hz, q⟩ := h
  obtain ⟨Fo, gF, ⟨es, n, KD⟩, hf⟩ := forms_at T
  refine ⟨_, (pss_cons (ps_if (PW.pt (pw_or (pt_cmpR (op_isNotTyA (C := C)) (pe_callTy (call_typeA (C := C)) rfl T.z_type bt_type (pa_cons (pv 0) pa_nil)) (pe_bltn (v := .ty "str") rfl T.z_str bt_str rfl) (nomark _)) (pw_or (pt_cmpR (op_notIn_kd KD) (pv 0) (C8.pe_gc rfl gF) (by with_unfolding_all rfl)) (pw_or1 (pt_cmpR (op_isNotTyA (C := C)) (pe_callTy (call_typeA (C := C)) rfl T.z_type bt_type (pa_cons (pv 1) pa_nil)) (pe_bltn (v := .ty "tuple") rfl T.z_tuple bt_tuple rfl) (nomark _)))))) (pss_one (ps_ret pe_bl)) pss_nil)
      (pss_cons (ps_set (i := 2) sc__is_term.nd rfl (Or.inl rfl) (pe_ix ix_kdict (C8.pe_gc rfl gF) (pv 0) (fun _ _ => rfl)))
      (pss_cons (ps_if (pt_cmpR op_ne (pe_callB call_lenS rfl T.z_len bt_len (pa_cons (pv 1) pa_nil)) (pe_callB call_lenS rfl T.z_len bt_len (pa_cons (pv 2) pa_nil)) (nomark _)) (pss_one (ps_ret pe_bl)) pss_nil)
      (pss_one (ps_ret (pe_callB (cr_all rfl) rfl T.z_all bt_all (pa_cons (pe_lc (own := [("part", 3), ("form", 4)]) (g := gTup K 2 (gCons (gName 3) (gCons (gName 4) gNil))) rfl sc__is_term.nd (RZ.pi_zipA rfl T.z_zip (pa_cons (pv 1) (pa_cons (pv 2) pa_nil))) (blkOk_by (own := [("part", 3), ("form", 4)]) (N := ["kind", "term", "forms", "part", "form"]) (sc := C8.fnScope s__is_term) (by decide +kernel)) (fun _ _ _ _ _ => (pg_tup rfl (pgs_cons (pg_name (i := 3) sc__is_term.nd rfl (Or.inl rfl)) (pgs_cons (pg_name (i := 4) sc__is_term.nd rfl (Or.inl rfl)) pgs_nil)))) (fun _ _ _ _ _ => pts_nil) (fun _ _ _ _ _ => (pe_and (C8.pe_c c_is_word hr (by first | decide | omega) rfl (pa_cons (pv 3) pa_nil)) (pe_one (C8.pe_c c__has_form hr (by first | decide | omega) rfl (pa_cons (pv 3) (pa_cons (pv 4) pa_nil))))))) pa_nil))))))), ?_⟩
  refine ⟨_, rfl, xk, dk, rfl, hk, kyV_ok dk, .inl ⟨_, rfl⟩, _, rfl, ?_⟩
  by_cases c1 : kyV C dk = .ty "str"
  · obtain ⟨k, rfl⟩ := kyV_str.mp c1
    rw [decide_eq_true c1]
    cases hk
    rcases hf k hok with ⟨tf, fs, e1, kd, kt⟩ | ⟨e1, kn⟩
    · obtain ⟨es', n', u, kl, kk, kn, ru⟩ := id kd
      refine iteF ⟨_, rfl, k, some u, rfl, rfl, kn, _, rfl, iteF ?_⟩
      refine ⟨_, rfl, xt, dt, rfl, ht, kyV_ok dt, .inl ⟨_, rfl⟩, _, rfl, ?_⟩
      by_cases c2 : kyV C dt = .ty "tuple"
      · obtain ⟨ds, rfl⟩ := kyV_tup.mp c2
        rw [decide_eq_true c2]
        cases ht with
        | @tup ta xs _ hta hxs =>
          have hl := hxs.len
          refine iteF ⟨_, rfl, Fo, k, _, rfl, rfl, kd, ?_⟩
          refine ⟨_, rfl, ta, xs, rfl, .inr (SqT.of hta), _, rfl, tf, _, rfl, .inr (kt H), rfl, _, rfl, ?_⟩
          have eT : isTermD (.str k) (.tup ds) = (decide (ds.length = fs.length) && (ds.zip fs).all fun p => partOk p.1 p.2) := by
            simp only [isTermD, isTermK, e1]
          rw [eT] at q
          by_cases c3 : ds.length = fs.length
          · refine bF (by rw [hl, List.length_map, c3]; simp) ?_
            rw [decide_eq_true c3, Bool.true_and] at q
            refine ⟨_, rfl, _, rfl, ta, tf, xs, fs.map V.str, rfl, .inr ⟨SqT.of hta, kt H, fun Dl hD => ?_⟩⟩
            have hmin : ds.length = min xs.length (fs.map V.str).length := by rw [hl, List.length_map]; omega
            refine lc_it (walk_zipT (K := K) (a := ta) (b := tf) (xs := xs) (ys := fs.map V.str) hmin) (fun i H3 => Same H H3 ∧ H3 Dl = some (.lst (((ds.zip fs).take i).map fun p => V.bl (partOk p.1 p.2)))) ⟨same_new hD, upd_same⟩ (fun i H3 _ h => ⟨SqT.of (h.1 _ _ hta), kt H3⟩) ?_ ?_
            · rintro i v H3 H4 hi ⟨s3, hz3⟩ ⟨t, x, y, rfl, nt, rfl, ex, ey⟩
              have ex : xs[i]? = some x := ex
              obtain ⟨d, hd, hx⟩ := hxs.at ex
              obtain ⟨z, hz2, rfl⟩ : ∃ z, fs[i]? = some z ∧ y = V.str z := by
                have ey : (fs.map V.str)[i]? = some y := ey
                rw [List.getElem?_map] at ey
                cases h : fs[i]? with
                | none => rw [h] at ey; cases ey
                | some z => rw [h] at ey; exact ⟨z, rfl, (Option.some.inj ey).symm⟩
              have s4 := same_new (o := .tup [x, .str z]) nt
              refine ⟨t, [x, .str z], rfl, SqT.of upd_same, rfl, x, [.str z], rfl, .str z, [], rfl, rfl, rfl, yes ?_⟩
              refine ⟨_, rfl, x, d, rfl, hx.same (s3.trans s4), hz.part (List.mem_of_getElem? hd), fun H5 s5 => ⟨_, rfl, ?_⟩⟩
              have hpz : (ds.zip fs)[i]? = some (d, z) := by rw [List.getElem?_zip_eq_some]; exact ⟨hd, hz2⟩
              have s35 := (s3.trans s4).trans s5
              have hz5 := s5 _ _ (s4 _ _ hz3)
              have fin : ∀ r, r = partOk d z → ∃ acc, H5 Dl = some (.lst acc) ∧ acc.length < sizeLine ∧ Same H (upd H5 Dl (.lst (acc ++ [.bl r]))) ∧ (upd H5 Dl (.lst (acc ++ [.bl r]))) Dl = some (.lst (((ds.zip fs).take (i + 1)).map fun p => V.bl (partOk p.1 p.2))) := fun r er => by
                subst er
                refine ⟨_, hz5, Nat.lt_of_lt_of_le (show _ < 1000001 by rw [List.length_map, List.length_take]; have := hz.1; have := len_szL ds; simp only [sz] at *; omega) (by decide), same_put s35 hD, ?_⟩
                rw [upd_same, List.take_add_one, hpz, List.map_append]; rfl
              cases ho : okW 40 40 0 d with
              | true => exact iteT ⟨_, rfl, _, rfl, x, d, z, rfl, hx.same s35, fin _ (by simp [partOk, ho])⟩
              | false => exact iteF (fin _ (by simp [partOk, ho]))
            · rintro H3 ⟨s3, hz3⟩
              have hzl : (ds.zip fs).length = ds.length := by rw [List.length_zip]; omega
              rw [List.take_of_length_le (by omega)] at hz3
              refine ⟨Dl, (ds.zip fs).map fun p => partOk p.1 p.2, rfl, SqL.of (by rw [List.map_map]; exact hz3), ?_⟩
              have e9 : ((ds.zip fs).map fun p => partOk p.1 p.2).all id = (ds.zip fs).all fun p => partOk p.1 p.2 := by rw [List.all_map]; rfl
              rw [e9]
              exact q H3 s3
          · refine bT (by rw [hl, List.length_map, decide_eq_false (fun z => c3 (by have := V.int.inj z; omega))]; rfl) ?_
            rw [decide_eq_false c3, Bool.false_and] at q
            exact q H (Same.refl H)
      · rw [decide_eq_false c2]
        have e : isTermD (.str k) dt = false := by cases dt <;> first | rfl | exact absurd rfl c2
        rw [e] at q
        exact iteT (q H (Same.refl H))
    · refine iteF ⟨_, rfl, k, none, rfl, rfl, kn, _, rfl, iteT ?_⟩
      have e : isTermD (.str k) dt = false := by cases dt <;> simp [isTermD, isTermK, e1]
      rw [e] at q
      exact q H (Same.refl H)
  · rw [decide_eq_false c1]
    have e : isTermD dk dt = false := by cases dk <;> first | rfl | exact absurd rfl c1
    rw [e] at q
    exact iteT (q H (Same.refl H))
abbrev s_Atom___init__ : Stmt := L2.inClass (top 22) 0
theorem sc_Atom___init__ : FnScope ["self", "kind", "term", "rank"] ["self", "kind", "term"] (C8.fnScope s_Atom___init__) := C8.fnScope_by (by decide +kernel)
theorem ok_init {fI : Addr} {fdI : FuncData} (M : Mk K C fI) (hm : mg "Atom" = some (.ref C)) (F : C8.Fun K "__init__" "Atom.__init__" s_Atom___init__ fI fdI) (b : Binds K fdI ["self", "kind", "term"] []) (T : Txt K mg w C)
    (c__is_term : C8.Cal P w K mg base 4 "_is_term" (spTerm C) []) (c__rank_of_atom : C8.Cal P w K mg base 3 "_rank_of_atom" (spRk C) []) (c__most_rank : C8.Cal P w K mg base 1 "_most_rank" spMost []) : C8.Mak P w K mg base 5 "Atom" C (spInit C) [] := by
  refine C8.mak0 M hm F b .nil sc_Atom___init__ (fun vs H Q E h => ?_) (fun cdv A outer s H vs Q E hr h => ?_)
  · obtain ⟨p, dx, k, t, ds, rfl, _⟩ := h; rfl
  obtain ⟨p, dx, k, t, ds, rfl, hp, hx, ht, hrk, hz, q⟩ := h
  refine ⟨_, (pss_cons (ps_if (pt_not (pt_val (C8.pe_c c__is_term hr (by first | decide | omega) rfl (pa_cons (pv 1) (pa_cons (pv 2) pa_nil))))) (pss_one ps_never) pss_nil)
      (pss_cons (ps_set (i := 3) sc_Atom___init__.nd rfl (Or.inl rfl) (C8.pe_c c__rank_of_atom hr (by first | decide | omega) rfl (pa_cons (pv 1) (pa_cons (pv 2) pa_nil))))
      (pss_cons (ps_if (pt_cmpR op_gt (pv 3) (C8.pe_c c__most_rank hr (by first | decide | omega) rfl (pa_cons (pv 1) pa_nil)) (nomark _)) (pss_one ps_never) pss_nil)
      (pss_cons (ps_fld (pv 0) (pv 1) rfl)
      (pss_cons (ps_fld (pv 0) (pv 2) rfl)
      (pss_cons (ps_fld (pv 0) (pv 3) rfl)
      (pss_one (ps_fld (pv 0) pe_non rfl)))))))), ?_⟩
  refine ⟨_, rfl, _, rfl, _, _, .str k, .tup ds, rfl, .str k, hx, term_kind ht, hz, fun H1 s1 => ⟨_, rfl, ?_⟩⟩
  refine bF (by simp only [isTermD, ht]; rfl) ?_
  refine ⟨_, rfl, _, rfl, k, t, ds, rfl, hx.same s1, hz, fun H2 s2 => ?_⟩
  refine ⟨_, rfl, _, rfl, k, rfl, _, _, rfl, rfl, _, rfl, ?_⟩
  refine ifF (by omega) ?_
  have hp2 := s2 _ _ (s1 _ _ hp)
  refine ⟨_, rfl, _, rfl, p, C, dx, [], rfl, hp2, T.cl.cl, T.cl.nK, (by show 0 < 1000; decide), ?_⟩
  refine ⟨_, rfl, _, rfl, p, C, dx, _, rfl, upd_same, T.cl.cl, T.cl.nT, (by show 1 < 1000; decide), ?_⟩
  refine ⟨_, rfl, _, rfl, p, C, dx, _, rfl, upd_same, T.cl.cl, T.cl.nR, (by show 2 < 1000; decide), ?_⟩
  refine ⟨_, rfl, p, C, dx, _, rfl, upd_same, T.cl.cl, T.cl.nS, (by show 3 < 1000; decide), ?_⟩
  refine q _ (Eq.trans upd_same (congrArg (fun l => some (HO.ins C dx l)) (put_at k t _))) fun c o e n => ?_
  rw [upd_ne n, upd_ne n, upd_ne n, upd_ne n]
  exact s2 _ _ (s1 _ _ e)
end
end Hc

/-! == and != of an instance with an own == and something of another kind. -/
namespace Hr
open PySem PySem.Spec PyProof.Rows PySem.SeqAt
variable [Memo]
/-- what is asked of the class at C beside its own == -/
structure Oth (K : PySem.W.Frag) (C : Addr) : Prop where
  mo : PySem.W.mroIn K C (.type "object") = some true
  nn : PySem.W.findIn K (.ref C) "__ne__" = some (some (.builtin "object.__ne__"))
  sN : PySem.W.subIn K (.ref C) (.type "NoneType") = some false
  sI : PySem.W.subIn K (.ref C) (.type "int") = some false
  sS : PySem.W.subIn K (.ref C) (.type "str") = some false
  sT : PySem.W.subIn K (.ref C) (.type "tuple") = some false
theorem sub_bi {K : PySem.W.Frag} {C : Addr} {n : String} (h : n = "NoneType" ∨ n = "int" ∨ n = "str" ∨ n = "tuple") : PySem.W.subIn K (.type n) (.ref C) = some false := by
  rcases h with rfl | rfl | rfl | rfl
  · have e : fastBuiltinMro "NoneType" = some [.type "NoneType", .type "object"] := by decide +kernel
    show (fastBuiltinMro "NoneType").map (·.contains (.ref C)) = some false
    rw [e]; first | rfl | simp
  · have e : fastBuiltinMro "int" = some [.type "int", .type "object"] := by decide +kernel
    show (fastBuiltinMro "int").map (·.contains (.ref C)) = some false
    rw [e]; first | rfl | simp
  · have e : fastBuiltinMro "str" = some [.type "str", .type "object"] := by decide +kernel
    show (fastBuiltinMro "str").map (·.contains (.ref C)) = some false
    rw [e]; first | rfl | simp
  · have e : fastBuiltinMro "tuple" = some [.type "tuple", .type "object"] := by decide +kernel
    show (fastBuiltinMro "tuple").map (·.contains (.ref C)) = some false
    rw [e]; first | rfl | simp
section
variable {prog : Program} {w : World} {A : Around} {E : Value → Shared → Prop} {s : Shared} {K : PySem.W.Frag} {x C : Addr} {ox : Obj} {od : Option Obj} {b : Value}
theorem ne_entry {M : Model} {Q : Fin → Shared → Prop} (hu : A.units < cLine) (h : wpAny M A (callSpecialIfBound? (.ref x) (Str.ofString "__eq__") [b]) (fun r s' => ∃ v, r = some (.bool v) ∧ Q (.done (.ret (.bool (!v)))) s') E s) :
    wpAny M A (Builtin.«object.__ne__» ⟨[.ref x, b], []⟩) Q E s := by
  unfold Builtin.«object.__ne__»
  repeat (first
    | with_reducible refine wpAny_cRoomFor hu ?_
    | (refine wpAny_bind (m := callSpecialIfBound? (.ref x) (Str.ofString "__eq__") [b]) (wpAny_mono h (fun r s' hr => by
          obtain ⟨v, rfl, hq⟩ := hr
          repeat (first | exact hq | exact wpAny_pure hq | exact wpAny_truthy_bool hq | (refine wpAny_bind (m := truthy (.bool _)) (wpAny_truthy_bool ?_)) | wp_step)) fun _ _ e => e))
    | wp_step)
theorem ifBound_objNe {M : Model} {args : List Value} {Q : Option Value → Shared → Prop} (X : K.In s.heap) (I : PySem.W.InstAt s.heap x ox C od) (hs : PySem.W.findIn K (.ref C) "__ne__" = some (some (.builtin "object.__ne__")))
    (h : wpAny M A (call (.builtin "object.__ne__") (.ref x :: args)) (fun v => Q (some v)) E s) : wpAny M A (callSpecialIfBound? (.ref x) "__ne__" args) Q E s := by
  simp only [callSpecialIfBound?, bindSpecialIfBound?]
  refine wpAny_holding (wpAny_bind (wpAny_bind (wpAny_bind (I.type.here ((PySem.W.looks_findIn X hs).here ?_)))))
  refine wpAny_bind (wpAny_askSetting (wpAny_ite ?_))
  have last : wpAny M A (call (.builtin "object.__ne__") ([.ref x] ++ args) >>= fun v => pure (some v)) Q E s := wpAny_bind (wpAny_mono h (fun v s' g => wpAny_pure g) fun _ _ g => g)
  split
  · exact wpAny_bind (wpAny_of_eq (F.cmp_object.ne.bind _) (wpAny_pure (by exact last)))
  · exact wpAny_tryCatch (wpAny_bind (wpAny_of_eq (F.cmp_object.ne.bind _) (wpAny_pure (by exact last))))
/-- the own == is asked of the instance at x, it says v -/
def Own (prog : Program) (w : World) (A : Around) (E : Value → Shared → Prop) (x : Addr) (b : Value) (v : Bool) (J : Shared → Prop) (s : Shared) : Prop :=
  wpAny (model prog w) A (callSpecialIfBound? (.ref x) (Str.ofString "__eq__") [b]) (fun r s' => r = some (.bool v) ∧ J s') E s
theorem call_objNe {v : Bool} {J : Shared → Prop} {Q : Value → Shared → Prop} (hu : A.units < cLine) (X : K.In s.heap) (I : PySem.W.InstAt s.heap x ox C od) (hm : PySem.W.mroIn K C (.type "object") = some true)
    (h : Own prog w A.in1 E x b v J s) (q : ∀ s', J s' → Q (.bool (!v)) s') (hu1 : A.in1.units < cLine) : wpAny (model prog w) A (call (.builtin "object.__ne__") [.ref x, b]) Q E s :=
  wpAny_call (codeAny_call_builtin F.cmp_object.ne.plain F.cmpEntry_ne (PySem.W.check_slot F.cmpKind_ne F.cmpSplit_ne (I.type.andThen (PySem.W.looks_mroIn X hm)) (F.cmpArgs_ne _ _)
    (ne_entry hu1 (wpAny_mono h (fun r s' z => ⟨v, z.1, q s' z.2⟩) fun _ _ z => z))))
theorem try_eq {v : Bool} {J : Shared → Prop} (h : Own prog w A E x b v J s) : wpAny (model prog w) A (tryCompare (.ref x) "__eq__" b) (fun r s' => r = some (.bool v) ∧ J s') E s := by
  unfold tryCompare
  refine wpAny_bind (wpAny_mono h (fun r s' z => ?_) fun _ _ z => z)
  obtain ⟨rfl, j⟩ := z
  exact wpAny_pure ⟨rfl, j⟩
theorem try_ne {v : Bool} {J : Shared → Prop} (hu : A.units < cLine) (hu1 : A.in1.units < cLine) (X : K.In s.heap) (I : PySem.W.InstAt s.heap x ox C od) (o : Oth K C)
    (h : Own prog w A.in1 E x b v J s) : wpAny (model prog w) A (tryCompare (.ref x) "__ne__" b) (fun r s' => r = some (.bool (!v)) ∧ J s') E s := by
  unfold tryCompare
  refine wpAny_bind (ifBound_objNe X I o.nn (call_objNe hu X I o.mo h (fun s' j => ?_) hu1))
  exact wpAny_pure ⟨rfl, j⟩
/-- instance == something of a built-in type -/
theorem rc_left {T : String} {op : CmpOp} {v : Bool} {J : Shared → Prop} {Q : Value → Shared → Prop} (hu : A.units < cLine) (X : K.In s.heap) (I : PySem.W.InstAt s.heap x ox C od) (hb : s.TypeIs b T) (hT : T = "NoneType" ∨ T = "int" ∨ T = "str" ∨ T = "tuple")
    (h : wpAny (model prog w) A (tryCompare (.ref x) (cmpInfo op).2.1 b) (fun r s' => r = some (.bool v) ∧ J s') E s) (q : ∀ s', J s' → Q (.bool v) s') : wpAny (model prog w) A (richCompare op (.ref x) b) Q E s := by
  unfold richCompare
  simp only [oneThing_ref]
  refine wpAny_holding (wpAny_bind (wpAny_cRoomFor hu ?_))
  refine wpAny_bind (I.type.here (wpAny_bind (wpAny_typeOf hb ?_)))
  split
  · refine wpAny_bind ((PySem.W.looks_subIn X (sub_bi hT)).here ?_)
    simp only [Bool.false_eq_true, if_false]
    refine wpAny_bind (wpAny_mono h (fun r s' z => ?_) fun _ _ z => z)
    obtain ⟨rfl, j⟩ := z
    exact wpAny_pure (q s' j)
  · rename_i z
    exact absurd (by simp) z
/-- something of a built-in type == instance: the built-in one declines -/
theorem rc_right {T id : String} {op : CmpOp} {v : Bool} {J : Shared → Prop} {Q : Value → Shared → Prop} (hu : A.units < cLine) (X : K.In s.heap) (I : PySem.W.InstAt s.heap x ox C od) (hb : s.TypeIs b T)
    (hsub : PySem.W.subIn K (.ref C) (.type T) = some false) (hone : oneThing? op b (.ref x) = none) (sl : Slot T (cmpInfo op).2.1 id)
    (dec : wpAny (model prog w) A (call (.builtin id) [b, .ref x]) (fun v s' => v = .notImplemented ∧ s' = s) E s)
    (h : wpAny (model prog w) A (tryCompare (.ref x) (cmpInfo op).2.2 b) (fun r s' => r = some (.bool v) ∧ J s') E s) (q : ∀ s', J s' → Q (.bool v) s') : wpAny (model prog w) A (richCompare op b (.ref x)) Q E s := by
  have two : wpAny (model prog w) A (tryCompare b (cmpInfo op).2.1 (.ref x)) (fun r s' => r = none ∧ s' = s) E s :=
    wpAny_tryCompare_declines hb sl (wpAny_mono dec (fun v s' z => ⟨z.1, rfl, z.2⟩) fun _ _ z => z)
  unfold richCompare
  simp only [hone]
  refine wpAny_holding (wpAny_bind (wpAny_cRoomFor hu ?_))
  refine wpAny_bind (wpAny_typeOf hb (wpAny_bind (I.type.here ?_)))
  split
  · refine wpAny_bind ((PySem.W.looks_subIn X hsub).here ?_)
    simp only [Bool.false_eq_true, if_false, Bool.not_false, if_true]
    refine wpAny_bind (m := tryCompare b _ (.ref x)) (wpAny_mono two (fun r s1 z => ?_) fun _ _ z => z)
    obtain ⟨z1, z2⟩ := z
    subst z1
    subst z2
    refine wpAny_bind (m := tryCompare (.ref x) _ b) (wpAny_mono h (fun r s2 z => ?_) fun _ _ z => z)
    obtain ⟨rfl, j⟩ := z
    exact wpAny_pure (q s2 j)
  · rename_i z
    exact absurd (by simp) z
end
end Hr

namespace Hr
open PySem PySem.Spec PyProof.Rows PySem.SeqAt
variable [Memo]
open AutoSeq1 (wpAny_loadPart')
open MeetsSeq MeetsSeq2 MeetsSeq3 SeqRoads2
theorem int_eq_inst (b : Int) (u : Tok) (l C : Addr) (dx : Addr) : Meets (Builtin.«int.__eq__» ⟨[.int b u, .ref l], []⟩) (fun _ R s => s.heap.get? l = some { cls := .ref C, dict := some dx, data := .plain } ∧ R (.ok (.ret .notImplemented)) s) :=
  .of_wp fun prog w A R s h => by
    obtain ⟨hp, g, d, tk, os⟩ := s; obtain ⟨hl, h⟩ := h
    wp_walk using wpAny_loadPart' hl, wpAny_load hl
    exact ⟨_, rfl, h⟩
theorem int_ne_inst (b : Int) (u : Tok) (l C : Addr) (dx : Addr) : Meets (Builtin.«int.__ne__» ⟨[.int b u, .ref l], []⟩) (fun _ R s => s.heap.get? l = some { cls := .ref C, dict := some dx, data := .plain } ∧ R (.ok (.ret .notImplemented)) s) :=
  .of_wp fun prog w A R s h => by
    obtain ⟨hp, g, d, tk, os⟩ := s; obtain ⟨hl, h⟩ := h
    wp_walk using wpAny_loadPart' hl, wpAny_load hl
    exact ⟨_, rfl, h⟩
theorem str_eq_inst (b : Str) (u : Tok) (l C : Addr) (dx : Addr) : Meets (Builtin.«str.__eq__» ⟨[.str b u, .ref l], []⟩) (fun _ R s => s.heap.get? l = some { cls := .ref C, dict := some dx, data := .plain } ∧ R (.ok (.ret .notImplemented)) s) :=
  .of_wp fun prog w A R s h => by
    obtain ⟨hp, g, d, tk, os⟩ := s; obtain ⟨hl, h⟩ := h
    wp_walk using wpAny_loadPart' hl, wpAny_load hl
    exact ⟨_, rfl, h⟩
theorem str_ne_inst (b : Str) (u : Tok) (l C : Addr) (dx : Addr) : Meets (Builtin.«str.__ne__» ⟨[.str b u, .ref l], []⟩) (fun _ R s => s.heap.get? l = some { cls := .ref C, dict := some dx, data := .plain } ∧ R (.ok (.ret .notImplemented)) s) :=
  .of_wp fun prog w A R s h => by
    obtain ⟨hp, g, d, tk, os⟩ := s; obtain ⟨hl, h⟩ := h
    wp_walk using wpAny_loadPart' hl, wpAny_load hl
    exact ⟨_, rfl, h⟩
section
variable {prog : Program} {w : World} {A : Around} {E : Value → Shared → Prop} {s : Shared} {R : Result → Shared → Prop}
theorem tup_eq_inst {l x C dx : Addr} {items : Array Value} {n : Nat} {dd : Option Addr} {sl : Array (Option Value)} (hI : PySem.W.Looks (model prog w) s.heap (isSubtype (.ref C) (.type "tuple")) false) (hx : s.heap.get? x = some { cls := .ref C, dict := some dx, data := .plain })
    (hl : s.heap.get? l = some { cls := .type "tuple", dict := dd, data := .seq items n, slots := sl }) (h : R (.ok (.ret .notImplemented)) s) : wpAny (model prog w) A.in1 (Builtin.«tuple.__eq__» ⟨[.ref l, .ref x], []⟩) (GQ.FinOf prog w A R) (fun e s' => R (.error e) s') s := by
  obtain ⟨hp, g, d, tk, os⟩ := s
  wp_walk using wpAny_loadPart' hl, wpAny_loadPart' hx, hI.here
  exact h
theorem tup_ne_inst {l x C dx : Addr} {items : Array Value} {n : Nat} {dd : Option Addr} {sl : Array (Option Value)} (hI : PySem.W.Looks (model prog w) s.heap (isSubtype (.ref C) (.type "tuple")) false) (hx : s.heap.get? x = some { cls := .ref C, dict := some dx, data := .plain })
    (hl : s.heap.get? l = some { cls := .type "tuple", dict := dd, data := .seq items n, slots := sl }) (h : R (.ok (.ret .notImplemented)) s) : wpAny (model prog w) A.in1 (Builtin.«tuple.__ne__» ⟨[.ref l, .ref x], []⟩) (GQ.FinOf prog w A R) (fun e s' => R (.error e) s') s := by
  obtain ⟨hp, g, d, tk, os⟩ := s
  wp_walk using wpAny_loadPart' hl, wpAny_loadPart' hx, hI.here
  exact h
end
end Hr

/-! == of tuples whose items' == may run code, and may give False. -/
namespace Hr
open PySem PySem.Spec PyProof.Rows PySem.SeqAt
variable [Memo]
open AutoSeq1 (wpAny_loadPart')
open MeetsSeq MeetsSeq2 MeetsSeq3 SeqRoads2
section
variable {prog : Program} {w : World} {A : Around} {R : Result → Shared → Prop}
/-- all the pairs are equal, and there are as many -/
def allP (bs : Nat → Bool) (m n : Nat) : Bool := (List.range (min m n)).all bs && (m == n)
theorem allP_no {bs : Nat → Bool} {m n i : Nat} (hi : i < min m n) (h : bs i = false) : allP bs m n = false := by
  unfold allP
  have : (List.range (min m n)).all bs = false := by
    rw [List.all_eq_false]
    exact ⟨i, List.mem_range.mpr hi, by rw [h]; exact Bool.false_ne_true⟩
  rw [this]; rfl
theorem allP_yes {bs : Nat → Bool} {m n : Nat} (h : ∀ j, j < min m n → bs j = true) : allP bs m n = (m == n) := by
  unfold allP
  rw [List.all_eq_true.mpr fun j hj => h j (List.mem_range.mp hj)]; rfl
theorem tup_eqB {l b : Addr} {items items2 : Array Value} {n n2 : Nat} {dd dd2 : Option Addr} {sl sl2 : Array (Option Value)} {bs : Nat → Bool} {J : Shared → Prop}
    (turn : ∀ i (h1 : i < items.size) (h2 : i < items2.size) s, J s → wpAny (model prog w) A.in1 (eqBool items[i] items2[i]) (fun r s' => r = bs i ∧ J s') (fun e s' => R (.error e) s') s)
    (fin : ∀ s, J s → R (.ok (.ret (.bool (allP bs items.size items2.size)))) s) {s : Shared} (hl1 : s.heap.get? l = some { cls := .type "tuple", dict := dd, data := .seq items n, slots := sl }) (hb1 : s.heap.get? b = some { cls := .type "tuple", dict := dd2, data := .seq items2 n2, slots := sl2 }) (h : J s) :
    wpAny (model prog w) A.in1 (Builtin.«tuple.__eq__» ⟨[.ref l, .ref b], []⟩) (GQ.FinOf prog w A R) (fun e s' => R (.error e) s') s := by
  have f2 := AutoSeq1.sub_tuple_tuple
  have hZ : (items.toList.zip items2.toList).length = min items.size items2.size := by simp
  have h0 := h
  obtain ⟨hp, g, d, tk, os⟩ := s
  wp_walk using wpAny_loadPart' hl1, wpAny_loadPart' hb1, wpAny_forIn_list _ (fun rest b s' => b.1 = none ∧ ∃ i, rest = (items.toList.zip items2.toList).drop i ∧ i ≤ min items.size items2.size ∧ (∀ j, j < i → bs j = true) ∧ J s') _
  case turn =>
    rintro ⟨y, x⟩ rest b s' ⟨hb', i, hz, hi, hbs, hI⟩
    have hlt : i < (items.toList.zip items2.toList).length := by
      rcases Nat.lt_or_ge i (items.toList.zip items2.toList).length with h' | h'
      · exact h'
      · rw [List.drop_of_length_le h'] at hz; cases hz
    have hm : i < min items.size items2.size := hZ ▸ hlt
    have h1 : i < items.size := Nat.lt_of_lt_of_le hm (Nat.min_le_left _ _)
    have h2 : i < items2.size := Nat.lt_of_lt_of_le hm (Nat.min_le_right _ _)
    rw [List.drop_eq_getElem_cons hlt] at hz
    injection hz with hyx hrest
    have hy : y = items[i] := by have := congrArg Prod.fst hyx; simpa using this
    have hx : x = items2[i] := by have := congrArg Prod.snd hyx; simpa using this
    subst hy hx
    refine wpAny_bind (wpAny_mono (turn i h1 h2 s' hI) (fun r s2 q2 => ?_) fun _ _ x => x)
    obtain ⟨hr, q2⟩ := q2
    subst hr
    cases hbi : bs i with
    | true =>
      wp_walk
      exact ⟨rfl, i + 1, hrest, hm, fun j hj => by
        rcases Nat.lt_succ_iff_lt_or_eq.mp hj with h | rfl
        · exact hbs j h
        · exact hbi, q2⟩
    | false =>
      have hR := fin s2 q2
      rw [allP_no hm hbi] at hR
      wp_walk
      exact hR
  case fin =>
    rintro ⟨b1, b2⟩ s' ⟨hb', i, hz, hi, hbs, hI⟩
    simp only at hb'
    subst hb'
    have hge : min items.size items2.size ≤ i := by
      rcases Nat.lt_or_ge i (items.toList.zip items2.toList).length with h' | h'
      · rw [List.drop_eq_getElem_cons h'] at hz; cases hz
      · exact hZ ▸ h'
    have hR := fin s' hI
    rw [allP_yes fun j hj => hbs j (by omega)] at hR
    wp_walk
    simpa [Builtin.Tuple.tupleCompareSizes] using hR
  case h =>
    exact ⟨rfl, 0, rfl, Nat.zero_le _, fun j hj => absurd hj (Nat.not_lt_zero _), h0⟩
end
end Hr

namespace Hc
open PySem PySem.Spec PyProof.Rows L2 Hr PySem.SeqAt
variable [Memo]
mutual
def eqD : D → D → Bool
  | .tup a, .tup b => eqL a b
  | .atom k a, .atom k' b => decide (k = k') && eqL a b
  | .non, .non => true
  | .int i, .int j => decide (i = j)
  | .str x, .str y => decide (x = y)
  | _, _ => false
def eqL : List D → List D → Bool
  | [], [] => true
  | x :: a, y :: b => eqD x y && eqL a b
  | _, _ => false
end
mutual
/-- a word, whatever its depth -/
def wrd : D → Bool
  | .tup ds => wrdL ds
  | .atom k ds => wrdL ds && isTermK k ds
  | .non => true
  | .int _ => true
  | .str _ => true
  | _ => false
def wrdL : List D → Bool
  | [] => true
  | d :: ds => wrd d && wrdL ds
end
theorem eqL_app : ∀ {a b x y : List D}, a.length = b.length → eqL (a ++ x) (b ++ y) = (eqL a b && eqL x y)
  | [], [], x, y, _ => by simp [eqL]
  | p :: a, q :: b, x, y, h => by
    rw [List.cons_append, List.cons_append]
    simp only [eqL]
    rw [eqL_app (by simpa using h), Bool.and_assoc]
  | [], _ :: _, _, _, h => by simp at h
  | _ :: _, [], _, _, h => by simp at h
theorem eqL_len : ∀ {a b : List D}, a.length ≠ b.length → eqL a b = false
  | [], [], h => absurd rfl h
  | p :: a, q :: b, h => by
    simp only [eqL]
    rw [eqL_len (fun z => h (by simp [z])), Bool.and_false]
  | [], _ :: _, _ => rfl
  | _ :: _, [], _ => rfl
theorem wrdL_app : ∀ (a b : List D), wrdL (a ++ b) = (wrdL a && wrdL b)
  | [], b => by simp [wrdL]
  | x :: a, b => by rw [List.cons_append]; simp only [wrdL]; rw [wrdL_app a b, Bool.and_assoc]
def isAt : D → Bool | .atom _ _ => true | _ => false
def isTu : D → Bool | .tup _ => true | _ => false
/-- what the loop keeps -/
def LoopS (X : Cx) (pins : List (Addr × Obj)) (σ : L2.St) (H : Hp) (s' : Shared) : Prop := ∃ H', Inv X pins σ H' s' ∧ Same H H'
/-- an atom == something that is none -/
def spEqN (C : Addr) : Sp := fun vs H Q _ => ∃ x y d e, vs = [x, y] ∧ Is C H x d ∧ Is C H y e ∧ isAt d = true ∧ isAt e = false ∧ ∀ H', Same H H' → Q (.bl false) H'
structure OwnS (P : Program) (w : World) (K : PySem.W.Frag) (mg : Str → Option Value) (base : Heap) (n : Nat) (C : Addr) (sp : Sp) : Prop where
  ex : ∃ (f : Addr) (fd : FuncData) (ps : List Str), FnOk P w K mg base C8.CX0 n f fd ps sp ∧ PySem.W.findIn K (.ref C) "__eq__" = some (some (.ref f)) ∧ PySem.W.isFn K (.ref f) = true ∧ Binds K fd ps []
section
variable {X : Cx} {n : Nat} {C : Addr} {sp : Sp}
theorem own_run (O : OwnS X.prog X.w X.K X.mg X.base n C sp) {A : Around} {pins : List (Addr × Obj)} {s : Shared} {σ : L2.St} {H : Hp} {a dx : Addr} {fs : List (Str × V)} {y : V} {v : Value} {r : Bool} (sb : Sub X n A) (I : Inv X pins σ H s) (ha : H a = some (.ins C dx fs)) (ry : RelV y v)
    (hsp : sp [.ref a, y] H (fun z H' => z = .bl r ∧ Same H H') C8.E0) : Own X.prog X.w A X.xe a v r (LoopS X pins σ H) s := by
  obtain ⟨f, fd, ps, F, hs, hf, hb⟩ := O.ex
  obtain ⟨mA, J, _⟩ := ins_get I.hok ha
  obtain ⟨od, J, _⟩ := J.look
  have e0 : Env0 X.prog X.w X.K X.mg X.base A X.stack s H := by
    have e := I.env0
    exact ⟨by rw [sb.fr]; exact e.frames, e.mod, e.bs, e.bsz, e.funs, e.frf, e.hok, e.bare⟩
  have hl := F.len _ _ _ _ hsp
  have r2 : Vals [V.ref a, y] [Value.ref a, v] := .cons rfl (.cons ry .nil)
  refine PySem.W.ifBound_K I.kIn J hs hf (wpAny_call (codeAny_mono (F.run A X.stack s H ⟨[.ref a, v], []⟩ [.ref a, v] [.ref a, y] _ C8.E0 sb.room e0 (by
    have := hb s [.ref a, v] I.kIn (by simpa using hl)
    simpa using this) r2 hsp) fun r s' hq => ?_))
  cases r with
  | error e => exact C8.pass0 (E := C8.E0) pins σ H s e s' I hq
  | ok fl =>
    cases fl with
    | ret w =>
      obtain ⟨z, H', I', rz, ez, ex⟩ := I.after hq
      subst ez
      cases rz
      exact ⟨rfl, H', I', ex⟩
    | next => exact False.elim hq
    | brk => exact False.elim hq
    | cont => exact False.elim hq
end
section
variable {P : Program} {w : World} {K : PySem.W.Frag} {mg : Str → Option Value} {base : Heap} {f : Addr} {fd : FuncData} {C : Addr}
theorem kitA (T : Txt K mg w C) (d : D) : PySem.W.kitOne K (kyU C d) (.ref C) = some (isAt d) := by rw [T.kitC]; cases d <;> rfl
end
section
variable {X : Cx} {n : Nat} {C : Addr}
/-- != of two words of which not both are tuples and not both are atoms -/
def rNeMix (C : Addr) : R2 := fun x y H Q => ∃ d e, Is C H x d ∧ Is C H y e ∧ wrd d = true ∧ wrd e = true ∧ (isTu d && isTu e) = false ∧ (isAt d && isAt e) = false ∧ ∀ H', Same H H' → Q (.bl (!eqD d e)) H'
theorem op_neMix (O : OwnS X.prog X.w X.K X.mg X.base n C (spEqN C)) (o : Oth X.K C) (hr : Room (n + 1) X.A) : OpR X (compareOp .NotEq) (rNeMix C) := by
  intro pins s σ H x y v u Q I rx ry h
  obtain ⟨d, e, hx, hy, wd, we, ht, ha, q⟩ := h
  have sb : Sub X (n + 1) X.A := ⟨hr, rfl⟩
  have hu := hr.units0
  have hu1 := sb.in1.room.units0
  show wpAny (model X.prog X.w) X.A (richCompare .NotEq v u) (EP X pins σ Q) X.xe s
  have fin : ∀ (b : Bool), b = (!eqD d e) → ∀ s', LoopS X pins σ H s' → EP X pins σ Q (.bool b) s' := fun b hb s' j => by
    obtain ⟨H', I', e'⟩ := j
    rw [hb]
    exact ⟨.bl _, H', I', rfl, q H' e'⟩
  have here : LoopS X pins σ H s := ⟨H, I, Same.refl H⟩
  -- the own == says no
  have own : ∀ {a dx : Addr} {fs : List (Str × V)} {y : V} {v : Value} {d e : D}, H a = some (.ins C dx fs) → Is C H (.ref a) d → Is C H y e → RelV y v → isAt d = true → isAt e = false → Own X.prog X.w X.A.in1 X.xe a v false (LoopS X pins σ H) s :=
    fun u1 h1 h2 rv d1 e1 => own_run O sb.in1 I u1 rv ⟨_, _, _, _, rfl, h1, h2, d1, e1, fun H' s' => ⟨rfl, s'⟩⟩
  have inst : ∀ {a dx : Addr} {fs : List (Str × V)}, H a = some (.ins C dx fs) → ∃ od, PySem.W.InstAt s.heap a (PySem.W.instObj C dx) C (some od) := fun u1 => by
    obtain ⟨mA, J, _⟩ := ins_get I.hok u1
    obtain ⟨od, J, _⟩ := J.look
    exact ⟨od, J⟩
  have tups : ∀ {a : Addr} {xs : List V}, H a = some (.tup xs) → ∃ its : Array Value, s.heap.IsTuple a its := fun h => by
    obtain ⟨its, r, e, z⟩ := I.tuple (SqT.of h)
    exact ⟨_, e⟩
  have left : ∀ {a dx : Addr} {fs : List (Str × V)} {T : String}, H a = some (.ins C dx fs) → x = .ref a → s.TypeIs u T → (T = "NoneType" ∨ T = "int" ∨ T = "str" ∨ T = "tuple") → isAt d = true → isAt e = false → wpAny (model X.prog X.w) X.A (richCompare .NotEq v u) (EP X pins σ Q) X.xe s := fun {a dx fs T} u1 hxa ht1 hT d1 e1 => by
    subst hxa
    cases rx
    obtain ⟨od, J⟩ := inst u1
    refine rc_left (op := .NotEq) hu I.kIn J ht1 hT (try_ne hu hu1 I.kIn J o (own u1 hx hy ry d1 e1)) (fun s' j => fin _ ?_ s' j)
    cases d <;> cases e <;> first | rfl | (simp [isAt] at d1; done) | (simp [isAt] at e1; done)
  have right : ∀ {c dy : Addr} {gs : List (Str × V)} {T id : String}, H c = some (.ins C dy gs) → y = .ref c → s.TypeIs v T → PySem.W.subIn X.K (.ref C) (.type T) = some false → oneThing? .NotEq v (.ref c) = none → Slot T (cmpInfo .NotEq).2.1 id →
      wpAny (model X.prog X.w) X.A (call (.builtin id) [v, .ref c]) (fun z s' => z = .notImplemented ∧ s' = s) X.xe s → isAt e = true → isAt d = false → wpAny (model X.prog X.w) X.A (richCompare .NotEq v u) (EP X pins σ Q) X.xe s := fun {c dy gs T id} u1 hyc ht1 hT hone sl dec e1 d1 => by
    subst hyc
    cases ry
    obtain ⟨od, J⟩ := inst u1
    refine rc_right (op := .NotEq) hu I.kIn J ht1 hT hone sl dec (try_ne hu hu1 I.kIn J o (own u1 hy hx rx e1 d1)) (fun s' j => fin _ ?_ s' j)
    cases d <;> cases e <;> first | rfl | (simp [isAt] at d1; done) | (simp [isAt] at e1; done)
  have flat : scal x y = true → (!decide (x = y)) = (!eqD d e) → wpAny (model X.prog X.w) X.A (richCompare .NotEq v u) (EP X pins σ Q) X.xe s := fun hs he => op_ne pins s σ H x y v u Q I rx ry ⟨hs, by rw [he]; exact q H (Same.refl H)⟩
  cases hx with
  | bl b => cases wd
  | lst _ _ => cases wd
  | dct _ => cases wd
  | @atom a1 dx1 t1 k1 xs1 ds1 svu1 u1 v1 i1 gmu1 =>
    cases hy with
    | bl b => cases we
    | lst _ _ => cases we
    | dct _ => cases we
    | atom _ _ _ => cases ha
    | non => cases ry; exact left u1 rfl rfl (.inl rfl) rfl rfl
    | int j => obtain ⟨t, rfl⟩ := ry; exact left u1 rfl rfl (.inr (.inl rfl)) rfl rfl
    | str z => obtain ⟨t, rfl⟩ := ry; exact left u1 rfl rfl (.inr (.inr (.inl rfl))) rfl rfl
    | tup h2 i2 =>
      cases ry
      obtain ⟨its, oo, ho, hc, _⟩ := tups h2
      exact left u1 rfl ⟨oo, ho, hc⟩ (.inr (.inr (.inr rfl))) rfl rfl
  | non =>
    cases rx
    cases hy with
    | bl b => cases we
    | lst _ _ => cases we
    | dct _ => cases we
    | non => exact flat rfl (by simp [eqD])
    | int j => exact flat rfl (by simp [eqD])
    | str z => exact flat rfl (by simp [eqD])
    | tup h2 i2 =>
      cases ry
      obtain ⟨its, hi⟩ := tups h2
      exact RcNeAt.none_tuple hi hu _ _ _ _ (fin _ rfl s here)
    | @atom c dy _ _ _ _ svu2 u2 _ _ gmu2 => exact right u2 rfl rfl o.sN rfl F.slot_NoneType_ne (call_gives F.slot_NoneType_ne rfl F.entry_NoneType_ne (F.args_NoneType_ne_2 _ _) (NoneType___ne___none_ref_0 c) ⟨rfl, rfl⟩) rfl rfl
  | int i =>
    obtain ⟨t, rfl⟩ := rx
    cases hy with
    | bl b => cases we
    | lst _ _ => cases we
    | dct _ => cases we
    | non => exact flat rfl (by simp [eqD])
    | int j => exact flat rfl (by simp [eqD])
    | str z => exact flat rfl (by simp [eqD])
    | tup h2 i2 =>
      cases ry
      obtain ⟨its, hi⟩ := tups h2
      exact RcNeAt.int_tuple i t hi hu _ _ _ _ (fin _ rfl s here)
    | @atom c dy _ _ _ _ svu2 u2 _ _ gmu2 =>
      obtain ⟨od, J⟩ := inst u2
      exact right u2 rfl rfl o.sI rfl F.slot_int_ne (call_meets F.slot_int_ne rfl F.entry_int_ne (F.args_int_ne_2 _ _) (int_ne_inst i t c C dy) ⟨J.at_, rfl, rfl⟩) rfl rfl
  | str z0 =>
    obtain ⟨t, rfl⟩ := rx
    cases hy with
    | bl b => cases we
    | lst _ _ => cases we
    | dct _ => cases we
    | non => exact flat rfl (by simp [eqD])
    | int j => exact flat rfl (by simp [eqD])
    | str z => exact flat rfl (by simp [eqD])
    | tup h2 i2 =>
      cases ry
      obtain ⟨its, hi⟩ := tups h2
      exact RcNeAt.str_tuple z0 t hi hu _ _ _ _ (fin _ rfl s here)
    | @atom c dy _ _ _ _ svu2 u2 _ _ gmu2 =>
      obtain ⟨od, J⟩ := inst u2
      exact right u2 rfl rfl o.sS rfl F.slot_str_ne (call_meets F.slot_str_ne rfl F.entry_str_ne (F.args_str_ne_2 _ _) (str_ne_inst z0 t c C dy) ⟨J.at_, rfl, rfl⟩) rfl rfl
  | @tup a1 xs1 ds1 h1 i1 =>
    cases rx
    obtain ⟨its, hi⟩ := tups h1
    cases hy with
    | bl b => cases we
    | lst _ _ => cases we
    | dct _ => cases we
    | non => cases ry; exact RcNeAt.tuple_none hi hu _ _ _ _ (fin _ rfl s here)
    | int j => obtain ⟨t, rfl⟩ := ry; exact RcNeAt.tuple_int j t hi hu _ _ _ _ (fin _ rfl s here)
    | str z => obtain ⟨t, rfl⟩ := ry; exact RcNeAt.tuple_str z t hi hu _ _ _ _ (fin _ rfl s here)
    | tup h2 i2 => cases ht
    | @atom c dy _ _ _ _ svu2 u2 _ _ gmu2 =>
      obtain ⟨od, J⟩ := inst u2
      obtain ⟨⟨cls, dd, data, sl⟩, ho, hc, k, hd⟩ := id hi
      simp only at hc hd
      subst hc hd
      exact right u2 rfl ⟨_, ho, rfl⟩ o.sT (oneThing_ref _ _ _) F.slot_tuple_ne (GQ.call_here F.slot_tuple_ne ⟨_, ho, rfl⟩ F.entry_tuple_ne (F.args_tuple_ne_2 _ _) (tup_ne_inst (PySem.W.looks_subIn I.kIn o.sT) J.at_ ho ⟨rfl, rfl⟩)) rfl rfl
end
end Hc

namespace Hc
open PySem PySem.Spec PyProof.Rows L2 Hr
variable [Memo]
mutual
theorem eqD_refl : ∀ {d : D}, wrd d = true → eqD d d = true
  | .tup ds, h => by simp only [eqD]; simp only [wrd] at h; exact eqL_refl h
  | .atom k ds, h => by
    simp only [wrd, Bool.and_eq_true] at h
    simp only [eqD]; rw [eqL_refl h.1]; simp
  | .non, _ => rfl
  | .int i, _ => by simp [eqD]
  | .str s, _ => by simp [eqD]
  | .bl _, h => by simp [wrd] at h
  | .lst _, h => by simp [wrd] at h
  | .dct, h => by simp [wrd] at h
theorem eqL_refl : ∀ {ds : List D}, wrdL ds = true → eqL ds ds = true
  | [], _ => rfl
  | d :: ds, h => by
    simp only [wrdL, Bool.and_eq_true] at h
    simp only [eqL]; rw [eqD_refl h.1, eqL_refl h.2]; rfl
end
theorem term_len {k : Str} {ds es : List D} (h : isTermK k ds = true) (g : isTermK k es = true) : ds.length = es.length := by
  unfold isTermK at h g
  cases hf : formsOf k with
  | none => rw [hf] at h; cases h
  | some fs =>
    rw [hf] at h g
    simp only [Bool.and_eq_true, decide_eq_true_eq] at h g
    rw [h.1, g.1]
def spAre (C : Addr) : Sp := fun vs H Q _ => ∃ a b ds es, vs = [.ref a, .ref b] ∧ Is C H (.ref a) (.tup ds) ∧ Is C H (.ref b) (.tup es) ∧ ds.length = es.length ∧ wrdL ds = true ∧ wrdL es = true ∧ szL ds ≤ 1000000 ∧ szL es ≤ 1000000 ∧ ∀ H', Same H H' → Q (.bl (eqL ds es)) H'
def spSame (C : Addr) : Sp := fun vs H Q _ => ∃ a b dx fs dx' fs', vs = [.ref a, .ref b] ∧ H a = some (.ins C dx fs) ∧ H b = some (.ins C dx' fs') ∧ Q (.bl (decide (a = b))) H
section
variable {P : Program} {w : World} {K : PySem.W.Frag} {mg : Str → Option Value} {base : Heap} {f : Addr} {fd : FuncData} {C : Addr}
abbrev s_Atom_is_same : Stmt := L2.inClass (top 22) 2
theorem sc_Atom_is_same : FnScope ["self", "other"] ["self", "other"] (C8.fnScope s_Atom_is_same) := C8.fnScope_by (by decide +kernel)
theorem ok_is_same {fI : Addr} {fdI : FuncData} (me : Meth K C "is_same" fI) (T : Txt K mg w C) (F : C8.Fun K "is_same" "Atom.is_same" s_Atom_is_same fI fdI) (b : Binds K fdI ["self", "other"] []) : C8.Met P w K mg base 1 C "is_same" (spSame C) [] := by
  refine C8.met0 T.cl.cl me F b sc_Atom_is_same (fun vs H Q E h => ?_) (fun cdv A outer s H vs Q E hr h => ?_)
  · obtain ⟨a, b, dx, fs, dx', fs', rfl, _⟩ := h; rfl
  obtain ⟨a, b, dx, fs, dx', fs', rfl, h1, h2, q⟩ := h
  refine ⟨_, (pss_one (ps_ret (pe_cmpR op_is_ref (pv 0) (pv 1) (nomark _)))), ?_⟩
  exact ⟨_, rfl, _, rfl, a, b, _, _, rfl, rfl, h1, rfl, h2, rfl, q⟩
abbrev s__are_equal : Stmt := top 25
theorem sc__are_equal : FnScope ["ones", "others", "left", "right", "one", "other"] ["ones", "others"] (C8.fnScope s__are_equal) := C8.fnScope_by (by decide +kernel)
theorem ok__are_equal (F : C8.Def K mg "_are_equal" s__are_equal f fd) (b : Binds K fd ["ones", "others"] []) (T : Txt K mg w C) (O : OwnS P w K mg base 1 C (spEqN C)) (o : Oth K C) (m_is_same : C8.Met P w K mg base 1 C "is_same" (spSame C) []) : C8.Cal P w K mg base 3 "_are_equal" (spAre C) [] := by
  refine C8.cal0 F b .nil sc__are_equal (fun vs H Q E h => ?_) (fun cdv A outer s H vs Q E hr h => ?_)
  · obtain ⟨a, b, ds, es, rfl, _⟩ := h; rfl
  obtain ⟨a, b, ds, es, rfl, ha, hb, hl, hs, hs2, hz1, hz2, q⟩ := h
  refine ⟨_, (pss_cons (ps_set (i := 2) sc__are_equal.nd rfl (Or.inl rfl) (pe_callTy call_list_of rfl T.z_list bt_list (pa_cons (pv 0) pa_nil)))
      (pss_cons (ps_set (i := 3) sc__are_equal.nd rfl (Or.inl rfl) (pe_callTy call_list_of rfl T.z_list bt_list (pa_cons (pv 1) pa_nil)))
      (pss_cons (ps_while PassesOwn.never (pt_truth (pv 2) (fun _ => rfl))
      (pss_cons (ps_set (i := 4) sc__are_equal.nd rfl (Or.inl rfl) (pe_bm0 PySem.F.plainAttrs_list PySem.F.slot_list_pop PySem.F.type_list_pop mt_pop (pv 2)))
      (pss_cons (ps_set (i := 5) sc__are_equal.nd rfl (Or.inl rfl) (pe_bm0 PySem.F.plainAttrs_list PySem.F.slot_list_pop PySem.F.type_list_pop mt_pop (pv 3)))
      (pss_one (ps_if (PW.pt (pw_and (pt_cmpR (op_isTyA (C := C)) (pe_callTy (call_typeA (C := C)) rfl T.z_type bt_type (pa_cons (pv 4) pa_nil)) (pe_bltn (v := .ty "tuple") rfl T.z_tuple bt_tuple rfl) (nomark _)) (pw_and1 (pt_cmpR (op_isTyA (C := C)) (pe_callTy (call_typeA (C := C)) rfl T.z_type bt_type (pa_cons (pv 5) pa_nil)) (pe_bltn (v := .ty "tuple") rfl T.z_tuple bt_tuple rfl) (nomark _))))) (pss_cons (ps_if (pt_cmpR op_ne (pe_callB call_lenS rfl T.z_len bt_len (pa_cons (pv 4) pa_nil)) (pe_callB call_lenS rfl T.z_len bt_len (pa_cons (pv 5) pa_nil)) (nomark _)) (pss_one (ps_ret pe_bl)) pss_nil)
      (pss_cons (ps_expr (pe_bm PySem.F.plainAttrs_list PySem.F.slot_list_extend PySem.F.type_list_extend mt_extendT (pv 2) (pa_cons (pv 4) pa_nil)))
      (pss_one (ps_expr (pe_bm PySem.F.plainAttrs_list PySem.F.slot_list_extend PySem.F.type_list_extend mt_extendT (pv 3) (pa_cons (pv 5) pa_nil)))))) (pss_one (ps_if (PW.pt (pw_and (pt_cmpR (op_isTyA (C := C)) (pe_callTy (call_typeA (C := C)) rfl T.z_type bt_type (pa_cons (pv 4) pa_nil)) (pe_glob (v := .ref C) rfl T.g_Atom rfl) (nomark _)) (pw_and1 (pt_cmpR (op_isTyA (C := C)) (pe_callTy (call_typeA (C := C)) rfl T.z_type bt_type (pa_cons (pv 5) pa_nil)) (pe_glob (v := .ref C) rfl T.g_Atom rfl) (nomark _))))) (pss_cons (ps_if (pt_val (C8.pe_mt m_is_same hr (by first | decide | omega) (pv 4) (pa_cons (pv 5) pa_nil))) (pss_one ps_continue) pss_nil)
      (pss_cons (ps_if (pt_cmpR op_ne (pe_fld (pv 4) rfl) (pe_fld (pv 5) rfl) (nomark _)) (pss_one (ps_ret pe_bl)) pss_nil)
      (pss_cons (ps_expr (pe_bm PySem.F.plainAttrs_list PySem.F.slot_list_extend PySem.F.type_list_extend mt_extendT (pv 2) (pa_cons (pe_fld (pv 4) rfl) pa_nil)))
      (pss_one (ps_expr (pe_bm PySem.F.plainAttrs_list PySem.F.slot_list_extend PySem.F.type_list_extend mt_extendT (pv 3) (pa_cons (pe_fld (pv 5) rfl) pa_nil))))))) (pss_one (ps_if (pt_cmpR (op_neMix O o (hr.mono (by decide))) (pv 4) (pv 5) (nomark _)) (pss_one (ps_ret pe_bl)) pss_nil)))))))))
      (pss_one (ps_ret pe_bl))))), ?_⟩
  cases ha with
  | @tup _ xs _ ta ia =>
    cases hb with
    | @tup _ ys _ tb ib =>
      refine ⟨_, rfl, a, xs, rfl, .inr (SqT.of ta), fun l hl0 => ?_⟩
      have s1 := same_new (o := .lst xs) hl0
      refine ⟨_, rfl, b, ys, rfl, .inr (SqT.of (s1 _ _ tb)), fun r hr0 => ?_⟩
      have s2 := same_new (o := .lst ys) hr0
      have hrH : H r = none := s1.free hr0
      have nlr : l ≠ r := fun z => by rw [← z, upd_same] at hr0; cases hr0
      refine ⟨fun m σ' H' => ∃ v4 v5 xs ys as bs, σ' = [some (.ref a), some (.ref b), some (.ref l), some (.ref r), v4, v5] ∧ Same H H' ∧ H' l = some (.lst xs) ∧ H' r = some (.lst ys) ∧ IsA C H xs as ∧ IsA C H ys bs ∧ as.length = bs.length ∧ wrdL as = true ∧ wrdL bs = true ∧ eqL as bs = eqL ds es ∧ m = szL as ∧ szL as ≤ 1000000 ∧ szL bs ≤ 1000000,
        ⟨_, none, none, xs, ys, ds, es, rfl, s1.trans s2, s2 _ _ upd_same, upd_same, ia, ib, hl, hs, hs2, rfl, rfl, hz1, hz2⟩, ?_⟩
      clear hs hs2 hz1 hz2 hl s1 s2 ia ib ta tb hr0
      rintro m σ' H' ⟨v4, v5, xs, ys, as, bs, rfl, sm, hxl, hyr, ixs, iys, hl, hs, hs2, he, rfl, hza, hzb⟩
      refine ⟨_, rfl, _, .inl ⟨xs, SqL.of hxl, rfl⟩, ?_⟩
      rcases List.eq_nil_or_concat as with rfl | ⟨as', d, rfl⟩
      · have hb0 : bs = [] := List.eq_nil_of_length_eq_zero hl.symm
        subst hb0
        cases ixs
        refine iteF ?_
        have q := q H' sm
        rw [← he] at q
        exact q
      rcases List.eq_nil_or_concat bs with rfl | ⟨bs', e, rfl⟩
      · simp at hl
      obtain ⟨xs', x, rfl, ixs', hx⟩ := ixs.concat
      obtain ⟨ys', y, rfl, iys', hy⟩ := iys.concat
      simp only [List.concat_eq_append] at hl hs hs2 he hza hzb ⊢
      have hl' : as'.length = bs'.length := by simpa using hl
      rw [wrdL_app, Bool.and_eq_true] at hs hs2
      rw [eqL_app hl'] at he
      have wd : wrd d = true := by simpa [wrdL] using hs.2
      have we : wrd e = true := by simpa [wrdL] using hs2.2
      have he2 : eqL [d] [e] = eqD d e := by simp [eqL]
      rw [he2] at he
      have hsa : szL (as' ++ [d]) = szL as' + sz d := by rw [szL_app]; simp [szL]
      have hsb : szL (bs' ++ [e]) = szL bs' + sz e := by rw [szL_app]; simp [szL]
      have hpd := sz_pos d
      have hla := len_szL as'
      have hlb := len_szL bs'
      have hlx := ixs'.len
      have hly := iys'.len
      refine bT (by simp) ⟨fun σ2 H2 => ∃ m', m' < szL (as' ++ [d]) ∧ ∃ v4 v5 xs ys as bs, σ2 = [some (.ref a), some (.ref b), some (.ref l), some (.ref r), v4, v5] ∧ Same H H2 ∧ H2 l = some (.lst xs) ∧ H2 r = some (.lst ys) ∧ IsA C H xs as ∧ IsA C H ys bs ∧ as.length = bs.length ∧ wrdL as = true ∧ wrdL bs = true ∧ eqL as bs = eqL ds es ∧ m' = szL as ∧ szL as ≤ 1000000 ∧ szL bs ≤ 1000000, fun σ2 H2 h => h, ?_⟩
      -- one = left.pop(); other = right.pop()
      refine ⟨_, rfl, .inl ⟨rfl, _, SqL.of hxl⟩, l, _, x, rfl, rfl, hxl, by simp, ?_⟩
      rw [List.dropLast_concat]
      have hyr1 : (upd H' l (.lst xs')) r = some (.lst (ys' ++ [y])) := by rw [upd_ne nlr.symm]; exact hyr
      refine ⟨_, rfl, .inl ⟨rfl, _, SqL.of hyr1⟩, r, _, y, rfl, rfl, hyr1, by simp, ?_⟩
      rw [List.dropLast_concat]
      have sm2 : Same H (upd (upd H' l (.lst xs')) r (.lst ys')) := same_put (same_put sm hl0) hrH
      have hl2 : (upd (upd H' l (.lst xs')) r (.lst ys')) l = some (.lst xs') := by rw [upd_ne nlr]; exact upd_same
      have hr2 : (upd (upd H' l (.lst xs')) r (.lst ys')) r = some (.lst ys') := upd_same
      generalize upd (upd H' l (.lst xs')) r (.lst ys') = H2 at sm2 hl2 hr2
      have hx2 := hx.same sm2
      have hy2 := hy.same sm2
      -- nothing more is asked of the pair
      have good : ∀ H3, Same H2 H3 → eqD d e = true → ∃ m', m' < szL (as' ++ [d]) ∧ ∃ v4 v5 xs ys as bs, ([some (.ref a), some (.ref b), some (.ref l), some (.ref r), some x, some y] : L2.St) = [some (.ref a), some (.ref b), some (.ref l), some (.ref r), v4, v5] ∧ Same H H3 ∧ H3 l = some (.lst xs) ∧ H3 r = some (.lst ys) ∧ IsA C H xs as ∧ IsA C H ys bs ∧ as.length = bs.length ∧ wrdL as = true ∧ wrdL bs = true ∧ eqL as bs = eqL ds es ∧ m' = szL as ∧ szL as ≤ 1000000 ∧ szL bs ≤ 1000000 := fun H3 s3 h =>
        ⟨szL as', by omega, _, _, xs', ys', as', bs', rfl, sm2.trans s3, s3 _ _ hl2, s3 _ _ hr2, ixs', iys', hl', hs.1, hs2.1, by rw [← he, h, Bool.and_true], rfl, by omega, by omega⟩
      have bad : ∀ H3, Same H2 H3 → eqD d e = false → Q (.bl false) H3 := fun H3 s3 h => by
        have q := q H3 (sm2.trans s3)
        rw [← he, h, Bool.and_false] at q
        exact q
      -- both are opened
      have open_ : ∀ {ts us : List V} {gs hs' : List D} {p1 p2 : Addr}, H2 p1 = some (.tup ts) → H2 p2 = some (.tup us) → IsA C H ts gs → IsA C H us hs' → gs.length = hs'.length → wrdL gs = true → wrdL hs' = true → eqL gs hs' = eqD d e → szL gs < sz d → szL hs' ≤ sz e →
          (xs'.length + ts.length ≤ sizeLine ∧ ys'.length + us.length ≤ sizeLine) ∧ (upd H2 l (.lst (xs' ++ ts))) r = some (.lst ys') ∧ (upd H2 l (.lst (xs' ++ ts))) p2 = some (.tup us) ∧
          ∃ m', m' < szL (as' ++ [d]) ∧ ∃ v4 v5 xs ys as bs, ([some (.ref a), some (.ref b), some (.ref l), some (.ref r), some x, some y] : L2.St) = [some (.ref a), some (.ref b), some (.ref l), some (.ref r), v4, v5] ∧ Same H (upd (upd H2 l (.lst (xs' ++ ts))) r (.lst (ys' ++ us))) ∧ (upd (upd H2 l (.lst (xs' ++ ts))) r (.lst (ys' ++ us))) l = some (.lst xs) ∧ (upd (upd H2 l (.lst (xs' ++ ts))) r (.lst (ys' ++ us))) r = some (.lst ys) ∧ IsA C H xs as ∧ IsA C H ys bs ∧ as.length = bs.length ∧ wrdL as = true ∧ wrdL bs = true ∧ eqL as bs = eqL ds es ∧ m' = szL as ∧ szL as ≤ 1000000 ∧ szL bs ≤ 1000000 := fun {ts us gs hs' p1 p2} e1 e2 i1 i2 hlen hsp hsp2 heq z1 z2 => by
        have k1 := i1.len
        have k2 := i2.len
        have k3 := len_szL gs
        have k4 := len_szL hs'
        refine ⟨⟨Nat.le_trans (show _ ≤ 1000000 by omega) (by decide), Nat.le_trans (show _ ≤ 1000000 by omega) (by decide)⟩, by rw [upd_ne nlr.symm]; exact hr2, Tups.put hl2 _ _ e2, ?_⟩
        refine ⟨szL (as' ++ gs), ?_, _, _, xs' ++ ts, ys' ++ us, as' ++ gs, bs' ++ hs', rfl, same_put (same_put sm2 hl0) hrH, by rw [upd_ne nlr]; exact upd_same, upd_same, ixs'.app i1, iys'.app i2, by simp; omega, ?_, ?_, ?_, rfl, ?_, ?_⟩
        · rw [szL_app, hsa]; omega
        · rw [wrdL_app, hs.1, hsp]; rfl
        · rw [wrdL_app, hs2.1, hsp2]; rfl
        · rw [eqL_app hl', heq]; exact he
        · rw [szL_app]; omega
        · rw [szL_app]; omega
      refine ⟨_, rfl, x, d, rfl, hx2, kyV_ok d, .inl ⟨_, rfl⟩, _, rfl, ?_⟩
      by_cases ct : kyV C d = .ty "tuple"
      · refine ifT ct ⟨_, rfl, y, e, rfl, hy2, kyV_ok e, .inl ⟨_, rfl⟩, _, rfl, ?_⟩
        obtain ⟨gs, rfl⟩ := kyV_tup.mp ct
        by_cases cu : kyV C e = .ty "tuple"
        · refine ifT cu ?_
          obtain ⟨hs', rfl⟩ := kyV_tup.mp cu
          cases hx with
          | @tup p1 ts _ t1 i1 =>
            cases hy with
            | @tup p2 us _ t2 i2 =>
              have k1 := i1.len
              have k2 := i2.len
              refine ⟨_, rfl, p1, ts, rfl, .inr (SqT.of (sm2 _ _ t1)), _, rfl, p2, us, rfl, .inr (SqT.of (sm2 _ _ t2)), rfl, _, rfl, ?_⟩
              by_cases cl : gs.length = hs'.length
              · refine bF (by rw [k1, k2, cl]; simp) ?_
                have hsp : wrdL gs = true := by simpa [wrd] using wd
                have hsp2 : wrdL hs' = true := by simpa [wrd] using we
                obtain ⟨⟨b1, b2⟩, f1, f2, fin⟩ := open_ (sm2 _ _ t1) (sm2 _ _ t2) i1 i2 cl hsp hsp2 (by simp [eqD]) (by simp only [sz]; omega) (by simp only [sz]; omega)
                refine ⟨_, rfl, .inl ⟨rfl, _, SqL.of hl2⟩, _, rfl, l, p1, xs', ts, rfl, rfl, hl2, sm2 _ _ t1, b1, ?_⟩
                exact ⟨_, rfl, .inl ⟨rfl, _, SqL.of f1⟩, _, rfl, r, p2, ys', us, rfl, rfl, f1, f2, b2, fin⟩
              · refine bT (by rw [k1, k2, decide_eq_false (fun z => cl (by have := V.int.inj z; omega))]; rfl) ?_
                exact bad H2 (Same.refl H2) (by simp only [eqD]; exact eqL_len cl)
        · refine ifF cu ?_
          have hnt : (isTu (.tup gs) && isTu e) = false := by cases e <;> first | exact absurd rfl cu | simp [isTu]
          have hna : (isAt (.tup gs) && isAt e) = false := rfl
          refine ⟨_, rfl, x, .tup gs, rfl, hx2, kyV_ok _, .inr rfl, _, rfl, ifF (fun z => nomatch z) ?_⟩
          refine ⟨_, rfl, _, rfl, .tup gs, e, hx2, hy2, wd, we, hnt, hna, fun H3 s3 => ⟨_, rfl, ?_⟩⟩
          cases hq : eqD (.tup gs) e with
          | true => exact bF rfl (good H3 s3 hq)
          | false => exact bT rfl (bad H3 s3 hq)
      · refine ifF ct ?_
        refine ⟨_, rfl, x, d, rfl, hx2, kyV_ok d, .inr rfl, _, rfl, ?_⟩
        by_cases ca : kyV C d = .ref C
        · refine ifT ca ⟨_, rfl, y, e, rfl, hy2, kyV_ok e, .inr rfl, _, rfl, ?_⟩
          obtain ⟨k, gs, rfl⟩ := kyV_atom.mp ca
          by_cases cb : kyV C e = .ref C
          · refine ifT cb ?_
            obtain ⟨k', hs', rfl⟩ := kyV_atom.mp cb
            cases hx with
            | @atom a1 dx1 q1 _ ts _ svu1 u1 v1 i1 gmu1 =>
              cases hy with
              | @atom a2 dx2 q2 _ us _ svu2 u2 v2 i2 gmu2 =>
                refine ⟨_, rfl, a1, dx1, _, rfl, sm2 _ _ u1, rfl, _, rfl, a1, a2, dx1, _, dx2, _, rfl, sm2 _ _ u1, sm2 _ _ u2, ⟨_, rfl, ?_⟩⟩
                by_cases cs : a1 = a2
                · subst cs
                  have eds := Is.uniq (Is.atom u1 v1 i1 gmu1) (Is.atom u2 v2 i2 gmu2)
                  refine bT (by simp) ?_
                  exact good H2 (Same.refl H2) (by rw [eds]; exact eqD_refl we)
                refine bF (by simp [cs]) ?_
                refine ⟨_, rfl, a1, C, dx1, _, _, rfl, sm2 _ _ u1, T.cl.cl, T.cl.nK, rfl, _, rfl, a2, C, dx2, _, _, rfl, sm2 _ _ u2, T.cl.cl, T.cl.nK, rfl, rfl, _, rfl, ?_⟩
                by_cases ck : k = k'
                · refine bF (by rw [ck]; simp) ?_
                  have w1 : wrdL gs = true ∧ isTermK k gs = true := by simpa [wrd] using wd
                  have w2 : wrdL hs' = true ∧ isTermK k hs' = true := by subst ck; simpa [wrd] using we
                  have hlk := term_len w1.2 w2.2
                  obtain ⟨⟨b1, b2⟩, f1, f2, fin⟩ := open_ (sm2 _ _ v1) (sm2 _ _ v2) i1 i2 hlk w1.1 w2.1 (by simp [eqD, ck]) (by simp only [sz]; omega) (by simp only [sz]; omega)
                  refine ⟨_, rfl, .inl ⟨rfl, _, SqL.of hl2⟩, _, rfl, a1, C, dx1, _, _, rfl, sm2 _ _ u1, T.cl.cl, T.cl.nT, rfl, l, q1, xs', ts, rfl, rfl, hl2, sm2 _ _ v1, b1, ?_⟩
                  have n2 : a2 ≠ l := fun z => by have := sm2 _ _ u2; rw [z, hl2] at this; cases this
                  exact ⟨_, rfl, .inl ⟨rfl, _, SqL.of f1⟩, _, rfl, a2, C, dx2, _, _, rfl, by rw [upd_ne n2]; exact sm2 _ _ u2, T.cl.cl, T.cl.nT, rfl, r, q2, ys', us, rfl, rfl, f1, f2, b2, fin⟩
                · refine bT (by rw [decide_eq_false (fun z => ck (V.str.inj z))]; rfl) ?_
                  exact bad H2 (Same.refl H2) (by simp [eqD, ck])
          · refine ifF cb ?_
            have hnt : (isTu (.atom k gs) && isTu e) = false := rfl
            have hna : (isAt (.atom k gs) && isAt e) = false := by cases e <;> first | exact absurd rfl cb | simp [isAt]
            refine ⟨_, rfl, _, rfl, .atom k gs, e, hx2, hy2, wd, we, hnt, hna, fun H3 s3 => ⟨_, rfl, ?_⟩⟩
            cases hq : eqD (.atom k gs) e with
            | true => exact bF rfl (good H3 s3 hq)
            | false => exact bT rfl (bad H3 s3 hq)
        · refine ifF ca ?_
          have hnt : (isTu d && isTu e) = false := by cases d <;> first | rfl | exact absurd rfl ct
          have hna : (isAt d && isAt e) = false := by cases d <;> first | rfl | exact absurd rfl ca
          refine ⟨_, rfl, _, rfl, d, e, hx2, hy2, wd, we, hnt, hna, fun H3 s3 => ⟨_, rfl, ?_⟩⟩
          cases hq : eqD (d) e with
          | true => exact bF rfl (good H3 s3 hq)
          | false => exact bT rfl (bad H3 s3 hq)
end
end Hc

namespace Hc
open PySem PySem.Spec PyProof.Rows L2 Hr
variable [Memo]
section
variable {P : Program} {w : World} {K : PySem.W.Frag} {mg : Str → Option Value} {base : Heap} {f : Addr} {fd : FuncData} {C : Addr}
abbrev s_Atom___eq__ : Stmt := L2.inClass (top 22) 1
theorem sc_Atom___eq__ : FnScope ["self", "other"] ["self", "other"] (C8.fnScope s_Atom___eq__) := C8.fnScope_by (by decide +kernel)
theorem ok_eqN {fI : Addr} {fdI : FuncData} (F : C8.Fun K "__eq__" "Atom.__eq__" s_Atom___eq__ fI fdI) (T : Txt K mg w C) : FnOk P w K mg base C8.CX0 1 fI fdI ["self", "other"] (spEqN C) := by
  refine C8.fn0 F sc_Atom___eq__ (fun vs H Q E h => ?_) (fun cdv A outer s H vs Q E hr h => ?_)
  · obtain ⟨x, y, d, e, rfl, _⟩ := h; rfl
  obtain ⟨x, y, d, e, rfl, hx, hy, hd, he, q⟩ := h
  refine ⟨_, (pss_cons (ps_if (pt_not (pt_val (pe_callB (call_isiA T.cl) rfl T.z_isinstance bt_isinstance (pa_cons (pv 1) (pa_cons (pe_glob (v := .ref C) rfl T.g_Atom rfl) pa_nil))))) (pss_one (ps_ret pe_bl)) pss_nil)
      (pss_one ps_never)), ?_⟩
  refine ⟨_, rfl, y, _, _, _, _, rfl, hy, .own C, kitA T e, _, rfl, ?_⟩
  rw [he]
  exact bT rfl (q H (Same.refl H))
end
end Hc

namespace Hc
open PySem PySem.Spec PyProof.Rows L2 Hr
variable [Memo]
/-- an atom == a word -/
def spEqG (C : Addr) : Sp := fun vs H Q _ => ∃ x y d e, vs = [x, y] ∧ Is C H x d ∧ Is C H y e ∧ isAt d = true ∧ wrd d = true ∧ wrd e = true ∧ sz d ≤ 1000000 ∧ sz e ≤ 1000000 ∧ ∀ H', Same H H' → Q (.bl (eqD d e)) H'
section
variable {P : Program} {w : World} {K : PySem.W.Frag} {mg : Str → Option Value} {base : Heap} {f : Addr} {fd : FuncData} {C : Addr}
theorem ok_eq {fI : Addr} {fdI : FuncData} (F : C8.Fun K "__eq__" "Atom.__eq__" s_Atom___eq__ fI fdI) (T : Txt K mg w C)
    (c__are_equal : C8.Cal P w K mg base 3 "_are_equal" (spAre C) []) : FnOk P w K mg base C8.CX0 4 fI fdI ["self", "other"] (spEqG C) := by
  refine C8.fn0 F sc_Atom___eq__ (fun vs H Q E h => ?_) (fun cdv A outer s H vs Q E hr h => ?_)
  · obtain ⟨x, y, d, e, rfl, _⟩ := h; rfl
  obtain ⟨x, y, d, e, rfl, hx, hy, hd, wd, we, zd, ze, q⟩ := h
  obtain ⟨k, ds, rfl⟩ : ∃ k ds, d = .atom k ds := by cases d <;> first | exact ⟨_, _, rfl⟩ | (simp [isAt] at hd; done)
  refine ⟨_, (pss_cons (ps_if (pt_not (pt_val (pe_callB (call_isiA T.cl) rfl T.z_isinstance bt_isinstance (pa_cons (pv 1) (pa_cons (pe_glob (v := .ref C) rfl T.g_Atom rfl) pa_nil))))) (pss_one (ps_ret pe_bl)) pss_nil)
      (pss_one (ps_ret (pe_and (pe_cmpR op_eq (pe_fld (pv 0) rfl) (pe_fld (pv 1) rfl) (nomark _)) (pe_one (C8.pe_c c__are_equal hr (by first | decide | omega) rfl (pa_cons (pe_fld (pv 0) rfl) (pa_cons (pe_fld (pv 1) rfl) pa_nil)))))))), ?_⟩
  refine ⟨_, rfl, y, _, _, _, _, rfl, hy, .own C, kitA T e, _, rfl, ?_⟩
  cases hA : isAt e with
  | false =>
    have e0 : eqD (.atom k ds) e = false := by cases e <;> first | rfl | (simp [isAt] at hA; done)
    rw [e0] at q
    exact bT rfl (q H (Same.refl H))
  | true =>
    obtain ⟨k', es, rfl⟩ : ∃ k ds, e = .atom k ds := by cases e <;> first | exact ⟨_, _, rfl⟩ | (simp [isAt] at hA; done)
    refine bF rfl ?_
    have w1 : wrdL ds = true ∧ isTermK k ds = true := by simpa [wrd] using wd
    have w2 : wrdL es = true ∧ isTermK k' es = true := by simpa [wrd] using we
    cases hx with
    | @atom a1 dx1 t1 _ xs _ svu1 u1 v1 i1 gmu1 =>
      cases hy with
      | @atom a2 dx2 t2 _ ys _ svu2 u2 v2 i2 gmu2 =>
        refine ⟨_, rfl, a1, C, dx1, _, _, rfl, u1, T.cl.cl, T.cl.nK, rfl, _, rfl, a2, C, dx2, _, _, rfl, u2, T.cl.cl, T.cl.nK, rfl, rfl, _, rfl, ?_⟩
        by_cases ck : k = k'
        · subst ck
          refine bT (by simp) ?_
          refine ⟨_, rfl, a1, C, dx1, _, _, rfl, u1, T.cl.cl, T.cl.nT, rfl, _, rfl, a2, C, dx2, _, _, rfl, u2, T.cl.cl, T.cl.nT, rfl, ?_⟩
          simp only [sz] at zd ze
          refine ⟨_, _, ds, es, rfl, .tup v1 i1, .tup v2 i2, term_len w1.2 w2.2, w1.1, w2.1, by omega, by omega, fun H' s' => ?_⟩
          have e0 : eqD (.atom k ds) (.atom k es) = eqL ds es := by simp [eqD]
          rw [e0] at q
          exact q H' s'
        · refine bF (by simpa using ck) ?_
          have e0 : eqD (.atom k ds) (.atom k' es) = false := by simp [eqD, ck]
          rw [e0] at q
          exact q H (Same.refl H)
end
end Hc

namespace Hc
open PySem PySem.Spec PyProof.Rows L2 Hr PySem.SeqAt
variable [Memo]
mutual
/-- how deep tuples lie in one another -/
def dep : D → Nat
  | .tup ds => depL ds + 1
  | _ => 0
def depL : List D → Nat
  | [] => 0
  | d :: ds => max (dep d) (depL ds)
end
theorem depL_mem : ∀ {ds : List D} {d : D}, d ∈ ds → dep d ≤ depL ds
  | x :: ds, d, h => by
    simp only [depL]
    rcases List.mem_cons.mp h with rfl | h
    · omega
    · have := depL_mem h; omega
theorem szL_mem : ∀ {ds : List D} {d : D}, d ∈ ds → sz d ≤ szL ds
  | x :: ds, d, h => by
    simp only [szL]
    rcases List.mem_cons.mp h with rfl | h
    · omega
    · have := szL_mem h; omega
theorem wrdL_mem : ∀ {ds : List D} {d : D}, wrdL ds = true → d ∈ ds → wrd d = true
  | x :: ds, d, w, h => by
    simp only [wrdL, Bool.and_eq_true] at w
    rcases List.mem_cons.mp h with rfl | h
    · exact w.1
    · exact wrdL_mem w.2 h
section
variable {prog : Program} {w : World} {A : Around} {E : Value → Shared → Prop} {s : Shared}
def noFl : Value → Bool
  | .none => true | .int _ _ => true | .str _ _ => true | .ref _ => true | _ => false
theorem eqB_of_rc {u v : Value} {Q : Bool → Shared → Prop} (hne : (u == v) = true → False) (h : wpAny (model prog w) A (richCompare .Eq u v) (fun z s' => ∃ r, z = .bool r ∧ Q r s') E s) (hf : noFl u = true := by rfl) : wpAny (model prog w) A (eqBool u v) Q E s := by
  have go : wpAny (model prog w) A (do truthOfDropped (← richCompare .Eq u v)) Q E s := by
    refine wpAny_bind (wpAny_mono h (fun z s' hz => ?_) fun _ _ x => x)
    obtain ⟨r, rfl, q⟩ := hz
    exact wpAny_truthy_bool q
  cases u <;> first
    | (simp [noFl] at hf; done)
    | (unfold eqBool
       refine wpAny_holding ?_
       exact wpAny_ite_split (fun hab => (hne hab).elim) (fun _ => go))
end
section
variable {X : Cx} {n : Nat} {C : Addr}
/-- == of two words that are not both tuples -/
theorem eqMix (O : OwnS X.prog X.w X.K X.mg X.base n C (spEqG C)) (o : Oth X.K C) {A : Around} (sb : Sub X n A) {pins : List (Addr × Obj)} {s : Shared} {σ : L2.St} {H : Hp} {x y : V} {v u : Value} {d e : D} (I : Inv X pins σ H s) (rx : RelV x v) (ry : RelV y u)
    (hx : Is C H x d) (hy : Is C H y e) (wd : wrd d = true) (we : wrd e = true) (zd : sz d ≤ 1000000) (ze : sz e ≤ 1000000) (ht : (isTu d && isTu e) = false) : wpAny (model X.prog X.w) A (eqBool v u) (fun r s' => r = eqD d e ∧ LoopS X pins σ H s') X.xe s := by
  have hu := sb.room.units0
  have here : LoopS X pins σ H s := ⟨H, I, Same.refl H⟩
  have own : ∀ {a dx : Addr} {fs : List (Str × V)} {y : V} {v : Value} {d e : D}, H a = some (.ins C dx fs) → Is C H (.ref a) d → Is C H y e → RelV y v → isAt d = true → wrd d = true → wrd e = true → sz d ≤ 1000000 → sz e ≤ 1000000 → Own X.prog X.w A X.xe a v (eqD d e) (LoopS X pins σ H) s :=
    fun u1 h1 h2 rv d1 wd we zd ze => own_run O sb I u1 rv ⟨_, _, _, _, rfl, h1, h2, d1, wd, we, zd, ze, fun H' s' => ⟨rfl, s'⟩⟩
  have inst : ∀ {a dx : Addr} {fs : List (Str × V)}, H a = some (.ins C dx fs) → ∃ od, PySem.W.InstAt s.heap a (PySem.W.instObj C dx) C (some od) := fun u1 => by
    obtain ⟨mA, J, _⟩ := ins_get I.hok u1
    obtain ⟨od, J, _⟩ := J.look
    exact ⟨od, J⟩
  have tups : ∀ {a : Addr} {xs : List V}, H a = some (.tup xs) → ∃ its : Array Value, s.heap.IsTuple a its := fun h => by
    obtain ⟨its, r, e, z⟩ := I.tuple (SqT.of h)
    exact ⟨_, e⟩
  have comm : isAt d = false → isAt e = true → eqD e d = eqD d e := fun h1 h2 => by
    cases d <;> cases e <;> first | rfl | (simp [isAt] at h1; done) | (simp [isAt] at h2; done)
  have left : ∀ {a dx : Addr} {fs : List (Str × V)} {T : String}, H a = some (.ins C dx fs) → x = .ref a → s.TypeIs u T → (T = "NoneType" ∨ T = "int" ∨ T = "str" ∨ T = "tuple") → isAt d = true → wpAny (model X.prog X.w) A (richCompare .Eq v u) (fun z s' => ∃ r, z = .bool r ∧ r = eqD d e ∧ LoopS X pins σ H s') X.xe s := fun {a dx fs T} u1 hxa ht1 hT d1 => by
    subst hxa
    cases rx
    obtain ⟨od, J⟩ := inst u1
    exact rc_left (op := .Eq) hu I.kIn J ht1 hT (try_eq (own u1 hx hy ry d1 wd we zd ze)) (fun s' j => ⟨_, rfl, rfl, j⟩)
  have right : ∀ {c dy : Addr} {gs : List (Str × V)} {T id : String}, H c = some (.ins C dy gs) → y = .ref c → s.TypeIs v T → PySem.W.subIn X.K (.ref C) (.type T) = some false → oneThing? .Eq v (.ref c) = none → Slot T (cmpInfo .Eq).2.1 id →
      wpAny (model X.prog X.w) A (call (.builtin id) [v, .ref c]) (fun z s' => z = .notImplemented ∧ s' = s) X.xe s → isAt e = true → isAt d = false → wpAny (model X.prog X.w) A (richCompare .Eq v u) (fun z s' => ∃ r, z = .bool r ∧ r = eqD d e ∧ LoopS X pins σ H s') X.xe s := fun {c dy gs T id} u1 hyc ht1 hT hone sl dec e1 d1 => by
    subst hyc
    cases ry
    obtain ⟨od, J⟩ := inst u1
    exact rc_right (op := .Eq) hu I.kIn J ht1 hT hone sl dec (try_eq (own u1 hy hx rx e1 we wd ze zd)) (fun s' j => ⟨_, rfl, comm d1 e1, j⟩)
  have flat : flatV x = true → flatV y = true → eqV x y = eqD d e → wpAny (model X.prog X.w) A (eqBool v u) (fun r s' => r = eqD d e ∧ LoopS X pins σ H s') X.xe s := fun h1 h2 he => eqAt_V (A := A) (s := s) rx ry h1 h2 X.prog X.w X.xe _ ⟨he, here⟩
  cases hx with
  | bl b => cases wd
  | lst _ _ => cases wd
  | dct _ => cases wd
  | @atom a1 dx1 t1 k1 xs1 ds1 svu1 u1 v1 i1 gmu1 =>
    cases hy with
    | bl b => cases we
    | lst _ _ => cases we
    | dct _ => cases we
    | non => cases rx; cases ry; exact eqB_of_rc (fun z => nomatch (eq_of_beq z)) (left u1 rfl rfl (.inl rfl) rfl)
    | int j => cases rx; obtain ⟨t, rfl⟩ := ry; exact eqB_of_rc (fun z => nomatch (eq_of_beq z)) (left u1 rfl rfl (.inr (.inl rfl)) rfl)
    | str z => cases rx; obtain ⟨t, rfl⟩ := ry; exact eqB_of_rc (fun z => nomatch (eq_of_beq z)) (left u1 rfl rfl (.inr (.inr (.inl rfl))) rfl)
    | @tup t2 _ _ h2 i2 =>
      cases rx
      cases ry
      obtain ⟨its, oo, ho, hc, _⟩ := tups h2
      refine eqB_of_rc (fun z => ?_) (left u1 rfl ⟨oo, ho, hc⟩ (.inr (.inr (.inr rfl))) rfl)
      have e1 := Value.ref.inj (eq_of_beq z)
      rw [e1, h2] at u1; cases u1
    | @atom a2 dx2 t2 k2 xs2 ds2 svu2 u2 v2 i2 gmu2 =>
      cases rx
      cases ry
      by_cases hac : a1 = a2
      · subst hac
        have ed := Is.uniq (Is.atom u1 v1 i1 gmu1) (Is.atom u2 v2 i2 gmu2)
        rw [← ed, eqD_refl wd]
        exact SeqAt.EqAt.same (A := A) (s := s) (.ref a1) X.prog X.w X.xe _ ⟨rfl, here⟩
      · refine eqB_of_rc (fun z => hac (Value.ref.inj (eq_of_beq z))) ?_
        obtain ⟨od, J⟩ := inst u1
        obtain ⟨od2, J2⟩ := inst u2
        have ow := try_eq (own u1 (.atom u1 v1 i1 gmu1) (.atom u2 v2 i2 gmu2) (rfl : RelV (.ref a2) (.ref a2)) rfl wd we zd ze)
        unfold richCompare
        simp only [oneThing_ref]
        refine wpAny_holding (wpAny_bind (wpAny_cRoomFor hu ?_))
        refine wpAny_bind (J.type.here (wpAny_bind (J2.type.here ?_)))
        split
        · rename_i z
          exact absurd z (by simp)
        · refine wpAny_bind (wpAny_pure ?_)
          simp only [Bool.false_eq_true, if_false]
          refine wpAny_bind (wpAny_mono ow (fun r s' z => ?_) fun _ _ z => z)
          obtain ⟨rfl, j⟩ := z
          exact wpAny_pure ⟨_, rfl, rfl, j⟩
  | non =>
    cases hy with
    | bl b => cases we
    | lst _ _ => cases we
    | dct _ => cases we
    | non => exact flat rfl rfl rfl
    | int j => exact flat rfl rfl rfl
    | str z => exact flat rfl rfl rfl
    | tup h2 i2 =>
      cases rx
      cases ry
      obtain ⟨its, hi⟩ := tups h2
      exact EqAt.none_tuple hi hu _ _ _ _ ⟨rfl, here⟩
    | @atom c dy _ _ _ _ svu2 u2 _ _ gmu2 =>
      cases rx
      have r := right u2 rfl (T := "NoneType") rfl o.sN rfl F.slot_NoneType_eq (call_gives F.slot_NoneType_eq rfl F.entry_NoneType_eq (F.args_NoneType_eq_2 _ _) (NoneType___eq___none_ref_0 c) ⟨rfl, rfl⟩) rfl rfl
      cases ry
      exact eqB_of_rc (fun z => nomatch (eq_of_beq z)) r
  | int i =>
    cases hy with
    | bl b => cases we
    | lst _ _ => cases we
    | dct _ => cases we
    | non => exact flat rfl rfl rfl
    | int j => exact flat rfl rfl (by simp only [eqV, eqD]; exact Bool.eq_iff_iff.mpr (by simp))
    | str z => exact flat rfl rfl rfl
    | tup h2 i2 =>
      obtain ⟨t, rfl⟩ := rx
      cases ry
      obtain ⟨its, hi⟩ := tups h2
      exact EqAt.int_tuple i t hi hu _ _ _ _ ⟨rfl, here⟩
    | @atom c dy _ _ _ _ svu2 u2 _ _ gmu2 =>
      obtain ⟨t, rfl⟩ := rx
      obtain ⟨od, J⟩ := inst u2
      have r := right u2 rfl (T := "int") rfl o.sI rfl F.slot_int_eq (call_meets F.slot_int_eq rfl F.entry_int_eq (F.args_int_eq_2 _ _) (int_eq_inst i t c C dy) ⟨J.at_, rfl, rfl⟩) rfl rfl
      cases ry
      exact eqB_of_rc (fun z => nomatch (eq_of_beq z)) r
  | str z0 =>
    cases hy with
    | bl b => cases we
    | lst _ _ => cases we
    | dct _ => cases we
    | non => exact flat rfl rfl rfl
    | int j => exact flat rfl rfl rfl
    | str z => exact flat rfl rfl (by simp only [eqV, eqD]; exact Bool.eq_iff_iff.mpr (by simp))
    | tup h2 i2 =>
      obtain ⟨t, rfl⟩ := rx
      cases ry
      obtain ⟨its, hi⟩ := tups h2
      exact EqAt.str_tuple z0 t hi hu _ _ _ _ ⟨rfl, here⟩
    | @atom c dy _ _ _ _ svu2 u2 _ _ gmu2 =>
      obtain ⟨t, rfl⟩ := rx
      obtain ⟨od, J⟩ := inst u2
      have r := right u2 rfl (T := "str") rfl o.sS rfl F.slot_str_eq (call_meets F.slot_str_eq rfl F.entry_str_eq (F.args_str_eq_2 _ _) (str_eq_inst z0 t c C dy) ⟨J.at_, rfl, rfl⟩) rfl rfl
      cases ry
      exact eqB_of_rc (fun z => nomatch (eq_of_beq z)) r
  | @tup a1 xs1 ds1 h1 i1 =>
    cases rx
    obtain ⟨its, hi⟩ := tups h1
    cases hy with
    | bl b => cases we
    | lst _ _ => cases we
    | dct _ => cases we
    | non => cases ry; exact EqAt.tuple_none hi hu _ _ _ _ ⟨rfl, here⟩
    | int j => obtain ⟨t, rfl⟩ := ry; exact EqAt.tuple_int j t hi hu _ _ _ _ ⟨rfl, here⟩
    | str z => obtain ⟨t, rfl⟩ := ry; exact EqAt.tuple_str z t hi hu _ _ _ _ ⟨rfl, here⟩
    | tup h2 i2 => cases ht
    | @atom c dy _ _ _ _ svu2 u2 _ _ gmu2 =>
      obtain ⟨od, J⟩ := inst u2
      obtain ⟨⟨cls, dd, data, sl⟩, ho, hc, k, hd⟩ := id hi
      simp only at hc hd
      subst hc hd
      have r := right u2 rfl (T := "tuple") ⟨_, ho, rfl⟩ o.sT (oneThing_ref _ _ _) F.slot_tuple_eq (GQ.call_here F.slot_tuple_eq ⟨_, ho, rfl⟩ F.entry_tuple_eq (F.args_tuple_eq_2 _ _) (tup_eq_inst (PySem.W.looks_subIn I.kIn o.sT) J.at_ ho ⟨rfl, rfl⟩)) rfl rfl
      cases ry
      refine eqB_of_rc (fun z => ?_) r
      have e1 := Value.ref.inj (eq_of_beq z)
      rw [e1, u2] at h1; cases h1
end
end Hc

namespace Hc
open PySem PySem.Spec PyProof.Rows L2 Hr PySem.SeqAt
variable [Memo]
theorem eqL_all : ∀ {ds es : List D} (bs : Nat → Bool), (∀ i d e, ds[i]? = some d → es[i]? = some e → bs i = eqD d e) → allP bs ds.length es.length = eqL ds es
  | [], [], bs, _ => rfl
  | [], _ :: _, bs, _ => by simp [allP, eqL]
  | _ :: _, [], bs, _ => by simp [allP, eqL]
  | d :: ds, e :: es, bs, h => by
    have h0 := h 0 d e rfl rfl
    have ih := eqL_all (ds := ds) (es := es) (fun i => bs (i + 1)) fun i d' e' h1 h2 => h (i + 1) d' e' (by simpa using h1) (by simpa using h2)
    simp only [eqL]
    rw [← ih, ← h0]
    unfold allP
    simp only [List.length_cons]
    have hm : min (ds.length + 1) (es.length + 1) = min ds.length es.length + 1 := by omega
    rw [hm, List.range_succ_eq_map, List.all_cons, List.all_map]
    have : (ds.length + 1 == es.length + 1) = (ds.length == es.length) := by simp
    rw [this, Bool.and_assoc]
    rfl
section
variable {X : Cx} {n : Nat} {C : Addr}
/-- what is asked of two words that are compared -/
structure W2 (C : Addr) (H : Hp) (x y : V) (d e : D) : Prop where
  x : Is C H x d
  y : Is C H y e
  wd : wrd d = true
  we : wrd e = true
  zd : sz d ≤ 1000000
  ze : sz e ≤ 1000000
theorem W2.same {H H' : Hp} {x y : V} {d e : D} (w : W2 C H x y d e) (s : Same H H') : W2 C H' x y d e := ⟨w.x.same s, w.y.same s, w.wd, w.we, w.zd, w.ze⟩
/-- == of two words -/
theorem eqW (O : OwnS X.prog X.w X.K X.mg X.base n C (spEqG C)) (o : Oth X.K C) : ∀ (N : Nat) {A : Around} (sb : Sub X (N + n) A) {pins : List (Addr × Obj)} {s : Shared} {σ : L2.St} {H : Hp} {x y : V} {v u : Value} {d e : D}, dep d ≤ N → Inv X pins σ H s → RelV x v → RelV y u → W2 C H x y d e →
    wpAny (model X.prog X.w) A (eqBool v u) (fun r s' => r = eqD d e ∧ LoopS X pins σ H s') X.xe s := by
  intro N
  induction N with
  | zero =>
    intro A sb pins s σ H x y v u d e hd I rx ry w
    have ht : isTu d = false := by cases d <;> first | rfl | (simp [dep] at hd; done)
    exact eqMix O o (sb.mono (by omega)) I rx ry w.x w.y w.wd w.we w.zd w.ze (by rw [ht]; rfl)
  | succ N ih =>
    intro A sb pins s σ H x y v u d e hd I rx ry w
    by_cases ht : (isTu d && isTu e) = false
    · exact eqMix O o (sb.mono (by omega)) I rx ry w.x w.y w.wd w.we w.zd w.ze ht
    · have ht2 : isTu d = true ∧ isTu e = true := by simpa using ht
      obtain ⟨ds, rfl⟩ : ∃ ds, d = .tup ds := by cases d <;> first | exact ⟨_, rfl⟩ | (simp [isTu] at ht2; done)
      obtain ⟨es, rfl⟩ : ∃ es, e = .tup es := by cases e <;> first | exact ⟨_, rfl⟩ | (simp [isTu] at ht2; done)
      have hx := w.x
      have hy := w.y
      have wd := w.wd
      have we := w.we
      have zd := w.zd
      have ze := w.ze
      simp only [wrd] at wd we
      simp only [sz] at zd ze
      cases hx with
      | @tup a xs _ h1 i1 =>
      cases hy with
      | @tup b ys _ h2 i2 =>
      cases rx
      cases ry
      have here : LoopS X pins σ H s := ⟨H, I, Same.refl H⟩
      by_cases hab : a = b
      · subst hab
        have ed := Is.uniq w.x w.y
        rw [← ed, eqD_refl w.wd]
        exact SeqAt.EqAt.same (A := A) (s := s) (.ref a) X.prog X.w X.xe _ ⟨rfl, here⟩
      · refine eqB_of_rc (fun z => hab (Value.ref.inj (eq_of_beq z))) ?_
        obtain ⟨its, r, eT, z⟩ := I.tuple (SqT.of h1)
        obtain ⟨its2, r2, eT2, z2⟩ := I.tuple (SqT.of h2)
        have l1 := r.length
        have l2 := r2.length
        have l3 := i1.len
        have l4 := i2.len
        obtain ⟨⟨cls, dd, data, sl⟩, ho, hc, n1, hd1⟩ := id eT
        obtain ⟨⟨cls2, dd2, data2, sl2⟩, ho2, hc2, n2, hd2⟩ := id eT2
        simp only at hc hd1 hc2 hd2
        subst hc hd1 hc2 hd2
        have hdep : depL ds ≤ N := by simp only [dep] at hd; omega
        have sb1 : Sub X (N + n + 1) A := sb.mono (by omega)
        -- the pairs
        have pair : ∀ i (k1 : i < its.toArray.size) (k2 : i < its2.toArray.size) s1, LoopS X pins σ H s1 → wpAny (model X.prog X.w) A.in1 (eqBool its.toArray[i] its2.toArray[i]) (fun r s' => r = (match ds[i]?, es[i]? with | some d, some e => eqD d e | _, _ => false) ∧ LoopS X pins σ H s') X.xe s1 := fun i k1 k2 s1 j => by
          obtain ⟨H1, I1, e1⟩ := j
          have k1' : i < its.length := by simpa using k1
          have k2' : i < its2.length := by simpa using k2
          obtain ⟨p, hp, rp⟩ := r.get (List.getElem?_eq_getElem (show i < xs.length by omega))
          obtain ⟨q, hq, rq⟩ := r2.get (List.getElem?_eq_getElem (show i < ys.length by omega))
          rw [List.getElem?_eq_getElem k1'] at hp
          rw [List.getElem?_eq_getElem k2'] at hq
          have ep : its.toArray[i] = p := by simpa using Option.some.inj hp
          have eq : its2.toArray[i] = q := by simpa using Option.some.inj hq
          obtain ⟨d', hd', ix⟩ := i1.at (List.getElem?_eq_getElem (show i < xs.length by omega))
          obtain ⟨e', he', iy⟩ := i2.at (List.getElem?_eq_getElem (show i < ys.length by omega))
          have md := List.mem_of_getElem? hd'
          have me := List.mem_of_getElem? he'
          have s1' := szL_mem md
          have s2' := szL_mem me
          rw [ep, eq, hd', he']
          refine wpAny_mono (ih (A := A.in1) sb1.in1 (Nat.le_trans (depL_mem md) hdep) I1 rp rq ⟨ix.same e1, iy.same e1, wrdL_mem wd md, wrdL_mem we me, by omega, by omega⟩) (fun r s2 q2 => ?_) fun _ _ z => z
          obtain ⟨hr, H2, I2, e2⟩ := q2
          exact ⟨hr, H2, I2, e1.trans e2⟩
        have hall : allP (fun i => match ds[i]?, es[i]? with | some d, some e => eqD d e | _, _ => false) its.toArray.size its2.toArray.size = eqL ds es := by
          rw [List.size_toArray, List.size_toArray, ← l1, ← l2, l3, l4]
          exact eqL_all _ fun i d' e' h1 h2 => by simp only [h1, h2]
        refine wpAny_richCompare_same_room (op := .Eq) ⟨_, ho, rfl⟩ ⟨_, ho2, rfl⟩ F.slot_tuple_eq (GQ.call_here F.slot_tuple_eq ⟨_, ho, rfl⟩ F.entry_tuple_eq (F.args_tuple_eq_2 _ _) ?_) sb.room.units0
        exact tup_eqB (R := wants (fun z s' => z ≠ .notImplemented ∧ ∃ r, z = .bool r ∧ r = eqD (.tup ds) (.tup es) ∧ LoopS X pins σ H s') X.xe) pair (fun s' j => ⟨(fun z => nomatch z), _, rfl, by rw [hall]; rfl, j⟩) ho ho2 here
end
section
variable {X : Cx} {n N : Nat} {C : Addr}
/-- x in l, x not in l: words -/
def rInW (C : Addr) (N : Nat) (g : Bool → Bool) : R2 := fun x y H Q => ∃ l xs ds d, y = .ref l ∧ H l = some (.lst xs) ∧ IsA C H xs ds ∧ Is C H x d ∧ wrd d = true ∧ wrdL ds = true ∧ depL ds ≤ N ∧ sz d ≤ 1000000 ∧ szL ds ≤ 1000000 ∧ ∀ H', Same H H' → Q (.bl (g (ds.any fun e => eqD e d))) H'
theorem asksW (O : OwnS X.prog X.w X.K X.mg X.base n C (spEqG C)) (o : Oth X.K C) {A : Around} {pins : List (Addr × Obj)} {σ : L2.St} {H : Hp} (sb : Sub X (N + n + 1) A) {l : Addr} {xs : List V} {ds : List D} {x : V} {v : Value} {d : D}
    (hl : H l = some (.lst xs)) (hxs : IsA C H xs ds) (hx : Is C H x d) (rx : RelV x v) (wd : wrd d = true) (ws : wrdL ds = true) (hdp : depL ds ≤ N) (zd : sz d ≤ 1000000) (zs : szL ds ≤ 1000000) : Asks X.prog X.w A X.xe l v (LoopS X pins σ H) (ds.map fun e => eqD e d) := by
  refine ⟨fun s1 j => ?_⟩
  obtain ⟨H1, I1, e1⟩ := j
  obtain ⟨z, its, k, r, e⟩ := I1.hok l _ (e1 _ _ hl)
  have hlen := r.length
  have hxl := hxs.len
  refine ⟨its.toArray, k, e, by rw [List.size_toArray, List.length_map]; omega, fun i h h2 => ?_⟩
  have h' : i < its.length := by simpa using h
  have hi : i < xs.length := by omega
  obtain ⟨u, hu, ru⟩ := r.get (List.getElem?_eq_getElem hi)
  rw [List.getElem?_eq_getElem h'] at hu
  have hu2 : its.toArray[i] = u := by simpa using Option.some.inj hu
  obtain ⟨y, hy, hyi⟩ := hxs.at (List.getElem?_eq_getElem hi)
  have my := List.mem_of_getElem? hy
  have hb : (ds.map fun e => eqD e d)[i] = eqD y d := by
    have : (ds.map fun e => eqD e d)[i]? = some (eqD y d) := by rw [List.getElem?_map, hy]; rfl
    rw [List.getElem?_eq_getElem h2] at this
    exact Option.some.inj this
  rw [hu2, hb]
  have sy := szL_mem my
  refine wpAny_mono (eqW O o N sb.in1 (Nat.le_trans (depL_mem my) hdp) I1 ru rx ⟨hyi.same e1, hx.same e1, wrdL_mem ws my, wd, by omega, zd⟩) (fun r s2 q => ?_) fun _ _ x => x
  obtain ⟨hr, H2, I2, e2⟩ := q
  exact ⟨hr, H2, I2, e1.trans e2⟩
theorem op_inW (O : OwnS X.prog X.w X.K X.mg X.base n C (spEqG C)) (o : Oth X.K C) (hr : Room (N + n + 1) X.A) : OpR X (compareOp .In) (rInW C N id) := by
  intro pins s σ H x y v u Q I rx ry h
  obtain ⟨l, xs, ds, d, rfl, hl, hxs, hx, wd, ws, hdp, zd, zs, q⟩ := h
  cases ry
  refine op_in_ (asksW O o ⟨hr, rfl⟩ hl hxs hx rx wd ws hdp zd zs) (s := s) ⟨H, I, Same.refl H⟩ (fun s' j => ?_)
  obtain ⟨H', I', e⟩ := j
  have e9 : ((ds.map fun e => eqD e d).any id) = ds.any fun e => eqD e d := by rw [List.any_map]; rfl
  rw [e9]
  exact ⟨.bl _, H', I', rfl, q H' e⟩
theorem op_notInW (O : OwnS X.prog X.w X.K X.mg X.base n C (spEqG C)) (o : Oth X.K C) (hr : Room (N + n + 1) X.A) : OpR X (compareOp .NotIn) (rInW C N not) := by
  intro pins s σ H x y v u Q I rx ry h
  obtain ⟨l, xs, ds, d, rfl, hl, hxs, hx, wd, ws, hdp, zd, zs, q⟩ := h
  cases ry
  refine op_notIn_ (asksW O o ⟨hr, rfl⟩ hl hxs hx rx wd ws hdp zd zs) (s := s) ⟨H, I, Same.refl H⟩ (fun s' j => ?_)
  obtain ⟨H', I', e⟩ := j
  have e9 : ((ds.map fun e => eqD e d).any id) = ds.any fun e => eqD e d := by rw [List.any_map]; rfl
  rw [e9]
  exact ⟨.bl _, H', I', rfl, q H' e⟩
/-- x == y as an expression, from the == inside a list -/
def rEqW (C : Addr) (N : Nat) : R2 := fun x y H Q => ∃ d e, W2 C H x y d e ∧ dep d ≤ N ∧ ∀ H', Same H H' → Q (.bl (eqD d e)) H'
end
end Hc

namespace Hc
open PySem PySem.Spec PyProof.Rows L2 Hr
variable [Memo]
/-- tuples and atoms stay -/
structure Keep (C : Addr) (H H' : Hp) : Prop where
  tup : ∀ b xs, H b = some (.tup xs) → H' b = some (.tup xs)
  ins : ∀ b dx fs, H b = some (.ins C dx fs) → H' b = some (.ins C dx fs)
theorem Keep.of {C : Addr} {H H' : Hp} (s : Same H H') : Keep C H H' := ⟨fun b _ e => s b _ e, fun b _ _ e => s b _ e⟩
theorem Keep.trans {C : Addr} {H H1 H2 : Hp} (a : Keep C H H1) (b : Keep C H1 H2) : Keep C H H2 := ⟨fun c xs e => b.tup c xs (a.tup c xs e), fun c dx fs e => b.ins c dx fs (a.ins c dx fs e)⟩
theorem Keep.lst {C : Addr} {H : Hp} {l : Addr} {xs ys : List V} (h : H l = some (.lst xs)) : Keep C H (upd H l (.lst ys)) :=
  ⟨fun b _ e => by rw [upd_ne (fun z => by rw [z, h] at e; cases e)]; exact e, fun b _ _ e => by rw [upd_ne (fun z => by rw [z, h] at e; cases e)]; exact e⟩
/-- all but the list at l stays -/
def But (l : Addr) (H H' : Hp) : Prop := ∀ b o, H b = some o → b ≠ l → H' b = some o
theorem But.keep {C l : Addr} {H H' : Hp} {xs : List V} (h : H l = some (.lst xs)) (b : But l H H') : Keep C H H' :=
  ⟨fun c _ e => b c _ e (fun z => by rw [z, h] at e; cases e), fun c _ _ e => b c _ e (fun z => by rw [z, h] at e; cases e)⟩
mutual
/-- no lists and no dicts within -/
def cln : D → Bool
  | .tup ds => clnL ds
  | .atom _ ds => clnL ds
  | .lst _ => false
  | .dct => false
  | _ => true
def clnL : List D → Bool
  | [] => true
  | d :: ds => cln d && clnL ds
end
mutual
theorem Is.keep {C : Addr} {H H' : Hp} (k : Keep C H H') : ∀ {x : V} {d : D}, cln d = true → Is C H x d → Is C H' x d
  | _, _, _, .non => .non
  | _, _, _, .bl b => .bl b
  | _, _, _, .int i => .int i
  | _, _, _, .str s => .str s
  | _, _, c, .tup h t => .tup (k.tup _ _ h) (IsA.keep k (by simpa [cln] using c) t)
  | _, _, c, .lst h t => by simp [cln] at c
  | _, _, c, .dct h => by simp [cln] at c
  | _, _, c, .atom h h2 t g => .atom (k.ins _ _ _ h) (k.tup _ _ h2) (IsA.keep k (by simpa [cln] using c) t) g
theorem IsA.keep {C : Addr} {H H' : Hp} (k : Keep C H H') : ∀ {xs : List V} {ds : List D}, clnL ds = true → IsA C H xs ds → IsA C H' xs ds
  | _, _, _, .nil => .nil
  | _, _, c, .cons h t => by
    simp only [clnL, Bool.and_eq_true] at c
    exact .cons (Is.keep k c.1 h) (IsA.keep k c.2 t)
end
theorem clnL_iff : ∀ {ds : List D}, clnL ds = true ↔ ∀ d ∈ ds, cln d = true
  | [] => by simp [clnL]
  | d :: ds => by simp [clnL, clnL_iff (ds := ds)]
theorem clnL_app (a b : List D) : clnL (a ++ b) = (clnL a && clnL b) := by
  induction a with
  | nil => simp [clnL]
  | cons x a ih => rw [List.cons_append]; simp only [clnL]; rw [ih, Bool.and_assoc]
/-- what is there already is passed over -/
def add1 (ds : List D) (a : D) : List D := if ds.any (fun e => eqD e a) then ds else ds ++ [a]
def addAll (ds ps : List D) : List D := ps.foldl add1 ds
theorem add1_mem {ds : List D} {a e : D} (h : e ∈ add1 ds a) : e ∈ ds ∨ e = a := by
  unfold add1 at h
  split at h
  · exact .inl h
  · simpa using h
theorem addAll_mem : ∀ {ps ds : List D} {e : D}, e ∈ addAll ds ps → e ∈ ds ∨ e ∈ ps
  | [], ds, e, h => .inl h
  | p :: ps, ds, e, h => by
    rcases addAll_mem (ps := ps) (ds := add1 ds p) h with h | h
    · rcases add1_mem h with h | h
      · exact .inl h
      · exact .inr (by rw [h]; exact List.mem_cons_self)
    · exact .inr (List.mem_cons_of_mem _ h)
theorem addAll_app (ds ps qs : List D) : addAll ds (ps ++ qs) = addAll (addAll ds ps) qs := List.foldl_append
theorem add1_len (ds : List D) (a : D) : (add1 ds a).length ≤ ds.length + 1 := by
  unfold add1
  split
  · omega
  · simp
theorem addAll_len : ∀ (ps ds : List D), (addAll ds ps).length ≤ ds.length + ps.length
  | [], ds => Nat.le_refl _
  | p :: ps, ds => by
    have := addAll_len ps (add1 ds p)
    have := add1_len ds p
    show (addAll (add1 ds p) ps).length ≤ _
    simp only [List.length_cons]; omega
mutual
theorem wrd_cln : ∀ {d : D}, wrd d = true → cln d = true
  | .tup ds, h => by simp only [wrd] at h; simp only [cln]; exact wrdL_cln h
  | .atom k ds, h => by simp only [wrd, Bool.and_eq_true] at h; simp only [cln]; exact wrdL_cln h.1
  | .non, _ => rfl
  | .int _, _ => rfl
  | .str _, _ => rfl
  | .bl _, h => by simp [wrd] at h
  | .lst _, h => by simp [wrd] at h
  | .dct, h => by simp [wrd] at h
theorem wrdL_cln : ∀ {ds : List D}, wrdL ds = true → clnL ds = true
  | [], _ => rfl
  | d :: ds, h => by
    simp only [wrdL, Bool.and_eq_true] at h
    simp only [clnL]; rw [wrd_cln h.1, wrdL_cln h.2]; rfl
end
theorem wrdL_iff : ∀ {ds : List D}, wrdL ds = true ↔ ∀ d ∈ ds, wrd d = true
  | [] => by simp [wrdL]
  | d :: ds => by simp [wrdL, wrdL_iff (ds := ds)]
mutual
theorem places_sz : ∀ d : D, szL (places d) ≤ sz d
  | .tup ds => by simp only [places, sz]; have := placesL_sz ds; omega
  | .atom k ds => by simp [places, sz, szL]
  | .non | .bl _ | .int _ | .str _ | .lst _ | .dct => by simp [places, szL]
theorem placesL_sz : ∀ ds : List D, szL (placesL ds) ≤ szL ds
  | [] => Nat.le_refl _
  | d :: ds => by simp only [placesL, szL]; rw [szL_app]; have := places_sz d; have := placesL_sz ds; omega
end
theorem add1_sz (ds : List D) (a : D) : szL (add1 ds a) ≤ szL ds + sz a := by
  unfold add1
  split
  · omega
  · rw [szL_app]; simp [szL]
theorem addAll_sz : ∀ (ps ds : List D), szL (addAll ds ps) ≤ szL ds + szL ps
  | [], ds => Nat.le_refl _
  | p :: ps, ds => by
    have h1 := addAll_sz ps (add1 ds p)
    have h2 := add1_sz ds p
    show szL (addAll (add1 ds p) ps) ≤ _
    simp only [szL]; omega
theorem szL_take (ds : List D) (i : Nat) : szL (ds.take i) ≤ szL ds := by
  have : szL ds = szL (ds.take i) + szL (ds.drop i) := by rw [← szL_app, List.take_append_drop]
  omega
theorem depL_atoms : ∀ {ds : List D}, (∀ d ∈ ds, ∃ k gs, d = .atom k gs) → depL ds = 0
  | [], _ => rfl
  | d :: ds, h => by
    obtain ⟨k, gs, rfl⟩ := h d List.mem_cons_self
    simp only [depL]
    rw [depL_atoms fun e he => h e (List.mem_cons_of_mem _ he)]; rfl
def spAtomsIn (C : Addr) : Sp := fun vs H Q _ => ∃ x d, vs = [x] ∧ Is C H x d ∧ Fit d ∧ (∀ a ∈ places d, wrd a = true) ∧ ∀ H' p xs, Same H H' → H p = none → H' p = some (.lst xs) → IsA C H' xs (addAll [] (places d)) → Q (.ref p) H'
def isMon : D → Bool | .str s => txtOk s && decide (s ≠ "") | _ => false
section
variable {P : Program} {w : World} {K : PySem.W.Frag} {mg : Str → Option Value} {base : Heap} {f : Addr} {fd : FuncData} {C : Addr}
abbrev s_atoms_in : Stmt := top 18
theorem sc_atoms_in : FnScope ["value", "found", "atom"] ["value"] (C8.fnScope s_atoms_in) := C8.fnScope_by (by decide +kernel)
theorem ok_atoms_in (F : C8.Def K mg "atoms_in" s_atoms_in f fd) (b : Binds K fd ["value"] []) (T : Txt K mg w C) (O : OwnS P w K mg base 4 C (spEqG C)) (o : Oth K C) (c__places_of_atoms : C8.Cal P w K mg base 1 "_places_of_atoms" (spPlaces C) []) : C8.Cal P w K mg base 6 "atoms_in" (spAtomsIn C) [] := by
  refine C8.cal0 F b .nil sc_atoms_in (fun vs H Q E h => ?_) (fun cdv A outer s H vs Q E hr h => ?_)
  · obtain ⟨x, d, rfl, _⟩ := h; rfl
  obtain ⟨x, d, rfl, hx, hz, hw, q⟩ := h
  refine ⟨_, (pss_cons (ps_set (i := 1) sc_atoms_in.nd rfl (Or.inl rfl) (pe_lst pa_nil))
      (pss_cons (ps_for PassesOwn.never rfl (pi_list (C8.pe_c c__places_of_atoms hr (by first | decide | omega) rfl (pa_cons (pv 0) pa_nil))) (pg_name (i := 2) sc_atoms_in.nd rfl (Or.inl rfl))
      (pss_one (ps_if (pt_cmpR (op_notInW (N := 0) O o (hr.mono (by decide))) (pv 2) (pv 1) (by with_unfolding_all rfl)) (pss_one (ps_expr (pe_bm PySem.F.plainAttrs_list PySem.F.slot_list_append PySem.F.type_list_append mt_append (pv 1) (pa_cons (pv 2) pa_nil)))) pss_nil)))
      (pss_one (ps_ret (pv 1))))), ?_⟩
  refine ⟨(by show 0 ≤ sizeLine; decide), fun l hl => ?_⟩
  have s0 := same_new (o := .lst []) hl
  refine ⟨_, rfl, x, d, rfl, hx.same s0, hz, fun H1 pl ps s1 hpl hps iA => ?_⟩
  have hl1 : H1 l = some (.lst []) := s1 _ _ upd_same
  have hpl0 : pl ≠ l := fun z => by rw [z, upd_same] at hpl; cases hpl
  have hpsz := places_sz d
  have hfit := hz.1
  have hpll := places_len d
  refine ⟨pl, rfl, ⟨ps, SqL.of hps⟩, for_it (walk_list (xs := ps)) (fun i σ H2 => ∃ v2 ys, σ = [some x, some (.ref l), v2] ∧ But l H1 H2 ∧ H2 l = some (.lst ys) ∧ IsA C H2 ys (addAll [] ((places d).take i))) ⟨none, [], rfl, fun b o e _ => e, hl1, .nil⟩ (fun i σ H2 _ h => ?_) ?_ ?_⟩
  · obtain ⟨_, _, _, b2, _⟩ := h
    exact SqL.of (b2 _ _ hps hpl0)
  · rintro i y σ H2 H3 hi ⟨v2, ys, rfl, b2, hl2, iy⟩ ⟨rfl, hy⟩
    obtain ⟨a, ha, hya⟩ := iA.at hy
    have ma := List.mem_of_getElem? ha
    have wa := hw a ma
    have kp : Keep C H1 H3 := But.keep hl1 b2
    have hya3 : Is C H3 y a := Is.keep kp (wrd_cln wa) hya
    have hmem : ∀ e ∈ addAll [] ((places d).take i), e ∈ places d := fun e he => by
      rcases addAll_mem he with he | he
      · cases he
      · exact List.mem_of_mem_take he
    have hwl : wrdL (addAll [] ((places d).take i)) = true := wrdL_iff.mpr fun e he => hw e (hmem e he)
    have hdl : depL (addAll [] ((places d).take i)) = 0 := depL_atoms fun e he => places_atom d e (hmem e he)
    have h1 := addAll_sz ((places d).take i) []
    have h2 := szL_take (places d) i
    have h3 := szL_mem ma
    simp only [szL] at h1
    have estep : addAll [] ((places d).take (i + 1)) = add1 (addAll [] ((places d).take i)) a := by
      rw [List.take_add_one, ha, addAll_app]; rfl
    refine ⟨_, rfl, _, rfl, l, ys, _, a, rfl, hl2, iy, hya3, wa, hwl, by omega, by omega, by omega, fun H4 s4 => ⟨_, rfl, ?_⟩⟩
    have hll := iy.len
    have hln := len_szL (addAll [] ((places d).take i))
    cases hany : (addAll [] ((places d).take i)).any (fun e => eqD e a) with
    | true =>
      refine bF rfl ⟨_, ys, rfl, fun b o e n => s4 _ _ (b2 b o e n), s4 _ _ hl2, ?_⟩
      rw [estep]
      unfold add1
      rw [if_pos hany]
      exact iy.same s4
    | false =>
      refine bT rfl ?_
      refine ⟨_, rfl, .inl ⟨rfl, _, SqL.of (s4 _ _ hl2)⟩, _, rfl, l, ys, y, rfl, rfl, s4 _ _ hl2, Nat.lt_of_lt_of_le (show ys.length < 1000001 by omega) (by decide), ?_⟩
      refine ⟨_, ys ++ [y], rfl, fun b o e n => by rw [upd_ne n]; exact s4 _ _ (b2 b o e n), upd_same, ?_⟩
      rw [estep]
      unfold add1
      rw [if_neg (by rw [hany]; exact Bool.false_ne_true)]
      have kq : Keep C H3 (upd H4 l (.lst (ys ++ [y]))) := (Keep.of s4).trans (Keep.lst (s4 _ _ hl2))
      exact (IsA.keep kq (wrdL_cln hwl) iy).app (.cons (Is.keep kq (wrd_cln wa) hya3) .nil)
  · rintro σ H2 ⟨v2, ys, rfl, b2, hl2, iy⟩
    have hll := iA.len
    rw [List.take_of_length_le (by omega)] at iy
    refine ⟨_, rfl, q H2 l ys (fun b o e => b2 b o (s1 _ _ (s0 _ _ e)) (ne_of_none e hl)) hl hl2 iy⟩
abbrev s_is_host_word : Stmt := top 16
theorem sc_is_host_word : FnScope ["value"] ["value"] (C8.fnScope s_is_host_word) := C8.fnScope_by (by decide +kernel)
theorem ok_is_host_word (F : C8.Def K mg "is_host_word" s_is_host_word f fd) (b : Binds K fd ["value"] []) (T : Txt K mg w C) (c__is_within : C8.Cal P w K mg base 2 "_is_within" (spWithin C) []) : C8.Cal P w K mg base 3 "is_host_word" (spB C Fit (okW 10 36 0)) [] := by
  refine C8.cal0 F b .nil sc_is_host_word (fun vs H Q E h => ?_) (fun cdv A outer s H vs Q E hr h => ?_)
  · obtain ⟨x, d, rfl, _⟩ := h; rfl
  obtain ⟨x, d, rfl, hx, hz, q⟩ := h
  refine ⟨_, (pss_one (ps_ret (C8.pe_c c__is_within hr (by first | decide | omega) rfl (pa_cons (pv 0) (pa_cons (C8.pe_gc rfl T.c_MOST_DEEP_HOST) (pa_cons (C8.pe_gc rfl T.c_MOST_RANK_HOST) pa_nil)))))), ?_⟩
  exact ⟨x, rfl, x, d, 10, 36, rfl, hx, hz, q⟩
abbrev s_is_monitor : Stmt := top 17
theorem sc_is_monitor : FnScope ["value"] ["value"] (C8.fnScope s_is_monitor) := C8.fnScope_by (by decide +kernel)
theorem ok_is_monitor (F : C8.Def K mg "is_monitor" s_is_monitor f fd) (b : Binds K fd ["value"] []) (T : Txt K mg w C) (c_is_text : C8.Cal P w K mg base 1 "is_text" (spB C (fun d => ∀ s, d = .str s → s.length ≤ sizeLine) isTxt) []) : C8.Cal P w K mg base 2 "is_monitor" (spB C (fun d => ∀ s, d = .str s → s.length ≤ sizeLine) isMon) [] := by
  refine C8.cal0 F b .nil sc_is_monitor (fun vs H Q E h => ?_) (fun cdv A outer s H vs Q E hr h => ?_)
  · obtain ⟨x, d, rfl, _⟩ := h; rfl
  obtain ⟨x, d, rfl, hx, hz, q⟩ := h
  refine ⟨_, (pss_one (ps_ret (pe_and (C8.pe_c c_is_text hr (by first | decide | omega) rfl (pa_cons (pv 0) pa_nil)) (pe_one (pe_cmpR op_ne (pv 0) pe_str (nomark _)))))), ?_⟩
  refine ⟨_, rfl, x, d, rfl, hx, hz, fun H1 s1 => ⟨_, rfl, ?_⟩⟩
  have q := q H1 s1
  cases ht : isTxt d with
  | false =>
    have e : isMon d = false := by cases d <;> first | rfl | (simp only [isTxt] at ht; simp [isMon, ht])
    rw [e] at q
    exact iteF q
  | true =>
    obtain ⟨z, rfl⟩ : ∃ z, d = .str z := by cases d <;> first | exact ⟨_, rfl⟩ | (simp [isTxt] at ht; done)
    cases hx
    simp only [isTxt] at ht
    refine iteT ⟨_, rfl, rfl, ?_⟩
    have e : isMon (.str z) = !decide (V.str z = V.str "") := by simp [isMon, ht]
    rw [e] at q
    exact q
end
end Hc

namespace Hc
open PySem PySem.Spec PyProof.Rows L2 Hr
variable [Memo]
def inn : D → Option (List D)
  | .tup ds => some ds
  | .atom k ds => if k = "token" ∨ k = "ticket" then some ds else none
  | _ => none
def hid (k : Str) : Bool := decide (k = "seal" ∨ k = "page")
def wo : D → D
  | .atom k ds => if hid k = true then .atom k (ds.take 3 ++ [.non]) else .atom k ds
  | d => d
mutual
def stripD : D → D
  | .tup ds => .tup (stripL ds)
  | .atom k ds => if k = "token" ∨ k = "ticket" then .atom k (stripL ds) else wo (.atom k ds)
  | d => d
def stripL : List D → List D
  | [] => []
  | d :: ds => stripD d :: stripL ds
end
theorem stripL_len : ∀ ds : List D, (stripL ds).length = ds.length
  | [] => rfl
  | d :: ds => by simp only [stripL, List.length_cons]; rw [stripL_len ds]
theorem inVab (k p q : Str) : inV (.str k) [.str p, .str q] = (decide (k = p) || decide (k = q)) := by
  have e : ∀ a b : Str, eqV (.str a) (.str b) = decide (b = a) := fun a b => by
    simp only [eqV]
    by_cases h : a = b
    · subst h; simp
    · rw [decide_eq_false (fun z => h z.symm)]; exact beq_eq_false_iff_ne.mpr h
  show ([V.str p, .str q].any fun y => eqV y (.str k)) = _
  rw [List.any_cons, List.any_cons, e, e]
  simp
/-- an atom made -/
theorem made3 {C t : Addr} {H : Hp} {k : Str} {xs : List V} {ds : List D} (ht : H t = some (.tup xs)) (ix : IsA C H xs ds) (ok : isTermK k ds = true) (hrk : rank (.atom k ds) ≤ mostR k) (hz : Fit (.tup ds)) {x dx : Addr} (hx : H x = none) (hdx : H dx = none) (hne : dx ≠ x) {Q2 : VK}
    (q : ∀ H', Same H H' → Is C H' (.ref x) (.atom k ds) → Q2 .non H') : spInit C (.ref x :: ([.str k, .ref t] ++ [])) (upd (upd H dx (.own x)) x (.ins C dx [])) Q2 C8.E0 := by
  have s1 : Same H (upd (upd H dx (.own x)) x (.ins C dx [])) := same_put (same_new hdx) hx
  refine ⟨x, dx, k, t, ds, rfl, upd_same, (Is.tup ht ix).same s1, ok, hrk, hz, fun H' e1 e2 => ?_⟩
  have s2 : Same H H' := fun b o e => e2 b o (s1 b o e) (ne_of_none e hx)
  exact q H' s2 (.atom e1 (s2 _ _ ht) (ix.same s2))
theorem new_tup {C u : Addr} {H : Hp} {xs : List V} {ds : List D} (hu : H u = none) (ix : IsA C H xs ds) : Is C (upd H u (.tup xs)) (.ref u) (.tup ds) := .tup upd_same (ix.same (same_new hu))
theorem hid_term {k : Str} {ds : List D} (hk : hid k = true) (h : isTermK k ds = true) : ∃ a b c e, ds = [a, b, c, e] ∧ isTermK k [a, b, c, .non] = true := by
  have hf : formsOf k = some (["text", "number", "number", "hidden"] : List Str) := by
    unfold hid at hk
    rcases of_decide_eq_true hk with rfl | rfl <;> decide +kernel
  unfold isTermK at h ⊢
  rw [hf] at h ⊢
  simp only [Bool.and_eq_true, decide_eq_true_eq] at h
  obtain ⟨hl, ha⟩ := h
  match ds, hl with
  | [a, b, c, e], _ =>
    refine ⟨a, b, c, e, rfl, ?_⟩
    simp only [List.zip_cons_cons, List.zip_nil_right, List.all_cons, List.all_nil, Bool.and_true, Bool.and_eq_true] at ha ⊢
    refine ⟨rfl, ha.1, ha.2.1, ha.2.2.1, by decide +kernel⟩
end Hc

namespace Hc
open PySem PySem.Spec PyProof.Rows L2 Hr
variable [Memo]
theorem hid_tt {k : Str} (h : hid k = true) : ¬ (k = "token" ∨ k = "ticket") := by
  unfold hid at h
  rcases of_decide_eq_true h with rfl | rfl <;> decide +kernel
theorem rank_hid {k : Str} (h : hid k = true) (ds : List D) : rank (.atom k ds) = 1 := by
  unfold hid at h
  simp only [rank]; rw [if_pos (of_decide_eq_true h)]
theorem rank_nohid {k : Str} (h : hid k = false) (ds : List D) : rank (.atom k ds) = rankL ds + 1 := by
  unfold hid at h
  simp only [rank]; rw [if_neg (of_decide_eq_false h)]
theorem nohid_tt {k : Str} (h : k = "token" ∨ k = "ticket") : hid k = false := by
  rcases h with rfl | rfl <;> decide +kernel
theorem wo_rank (k : Str) (ds : List D) : rank (wo (.atom k ds)) = rank (.atom k ds) := by
  simp only [wo]
  split
  · rename_i h; rw [rank_hid h, rank_hid h]
  · rfl
mutual
theorem rank_strip : ∀ d : D, rank (stripD d) ≤ rank d
  | .tup ds => by simp only [stripD, rank]; exact rankL_strip ds
  | .atom k ds => by
    simp only [stripD]
    split
    · rename_i h
      rw [rank_nohid (nohid_tt h), rank_nohid (nohid_tt h)]
      have := rankL_strip ds; omega
    · rw [wo_rank]; exact Nat.le_refl _
  | .non => Nat.le_refl _
  | .bl _ => Nat.le_refl _
  | .int _ => Nat.le_refl _
  | .str _ => Nat.le_refl _
  | .lst _ => Nat.le_refl _
  | .dct => Nat.le_refl _
theorem rankL_strip : ∀ ds : List D, rankL (stripL ds) ≤ rankL ds
  | [] => Nat.le_refl _
  | d :: ds => by simp only [stripL, rankL]; have := rank_strip d; have := rankL_strip ds; omega
end
theorem strip_atom (k : Str) (ds : List D) : ∃ es, stripD (.atom k ds) = .atom k es := by
  simp only [stripD]
  split
  · exact ⟨_, rfl⟩
  · simp only [wo]; split <;> exact ⟨_, rfl⟩
mutual
theorem okW_strip (md mr : Nat) : ∀ (d : D) (j : Nat), okW md mr j d = true → okW md mr j (stripD d) = true
  | .tup ds, j, h => by
    simp only [okW, Bool.and_eq_true] at h
    simp only [stripD, okW, Bool.and_eq_true]
    exact ⟨h.1, okA_strip md mr ds (j + 1) h.2⟩
  | .atom k ds, j, h => by
    simp only [okW, decide_eq_true_eq] at h
    obtain ⟨es, e⟩ := strip_atom k ds
    have hr := rank_strip (.atom k ds)
    rw [e] at hr ⊢
    simp only [okW, decide_eq_true_eq]
    exact Nat.le_trans hr h
  | .non, j, h => h
  | .bl _, j, h => h
  | .int _, j, h => h
  | .str _, j, h => h
  | .lst _, j, h => h
  | .dct, j, h => h
theorem okA_strip (md mr : Nat) : ∀ (ds : List D) (j : Nat), okA md mr j ds = true → okA md mr j (stripL ds) = true
  | [], j, h => h
  | d :: ds, j, h => by
    simp only [okA, Bool.and_eq_true] at h
    simp only [stripL, okA, Bool.and_eq_true]
    exact ⟨okW_strip md mr d j h.1, okA_strip md mr ds j h.2⟩
end
theorem hasF_strip (d : D) (z : Str) (h : hasF d z = true) : hasF (stripD d) z = true := by
  cases d with
  | tup ds => simp only [stripD]; unfold hasF at h ⊢; simpa [stripL_len, isS, isI, isT] using h
  | atom k ds =>
    obtain ⟨es, e⟩ := strip_atom k ds
    rw [e]
    unfold hasF at h ⊢
    simpa [isS, isI, isT] using h
  | _ => exact h
theorem zip_strip : ∀ (ds : List D) (fs : List Str), ((ds.zip fs).all fun p => partOk p.1 p.2) = true → (((stripL ds).zip fs).all fun p => partOk p.1 p.2) = true
  | [], _, _ => by simp [stripL]
  | _ :: _, [], _ => by simp [stripL]
  | d :: ds, f :: fs, h => by
    simp only [List.zip_cons_cons, List.all_cons, Bool.and_eq_true] at h
    simp only [stripL, List.zip_cons_cons, List.all_cons, Bool.and_eq_true]
    refine ⟨?_, zip_strip ds fs h.2⟩
    have h1 := h.1
    simp only [partOk, Bool.and_eq_true] at h1 ⊢
    exact ⟨okW_strip 40 40 d 0 h1.1, hasF_strip d f h1.2⟩
theorem term_strip {k : Str} {ds : List D} (h : isTermK k ds = true) : isTermK k (stripL ds) = true := by
  unfold isTermK at h ⊢
  cases hf : formsOf k with
  | none => rw [hf] at h; cases h
  | some fs =>
    rw [hf] at h
    simp only [Bool.and_eq_true] at h ⊢
    rw [stripL_len]
    exact ⟨h.1, zip_strip ds fs h.2⟩
theorem wo_hid {k : Str} {ds : List D} (hk : hid k = true) (h : isTermK k ds = true) : ∃ a b c e, ds = [a, b, c, e] ∧ wo (.atom k ds) = .atom k [a, b, c, .non] ∧ isTermK k [a, b, c, .non] = true := by
  obtain ⟨a, b, c, e, rfl, ht⟩ := hid_term hk h
  exact ⟨a, b, c, e, rfl, by simp [wo, hk], ht⟩
mutual
theorem wrd_strip : ∀ d : D, wrd d = true → wrd (stripD d) = true ∧ sz (stripD d) ≤ sz d
  | .tup ds, h => by
    simp only [wrd] at h
    have := wrdL_strip ds h
    simp only [stripD, wrd, sz]
    exact ⟨this.1, by omega⟩
  | .atom k ds, h => by
    simp only [wrd, Bool.and_eq_true] at h
    simp only [stripD]
    split
    · have := wrdL_strip ds h.1
      simp only [wrd, sz, Bool.and_eq_true]
      exact ⟨⟨this.1, term_strip h.2⟩, by omega⟩
    · cases hk : hid k with
      | false =>
        have e : wo (.atom k ds) = .atom k ds := by simp [wo, hk]
        rw [e]
        simp only [wrd, Bool.and_eq_true]
        exact ⟨h, Nat.le_refl _⟩
      | true =>
        obtain ⟨a, b, c, e, rfl, ew, ht⟩ := wo_hid hk h.2
        rw [ew]
        have w := h.1
        simp only [wrdL, Bool.and_eq_true] at w
        have := sz_pos e
        refine ⟨by simp only [wrd, wrdL, Bool.and_eq_true]; exact ⟨⟨w.1, w.2.1, w.2.2.1, by simp⟩, ht⟩, by simp only [sz, szL]; omega⟩
  | .non, h => ⟨h, Nat.le_refl _⟩
  | .int _, h => ⟨h, Nat.le_refl _⟩
  | .str _, h => ⟨h, Nat.le_refl _⟩
  | .bl _, h => by simp [wrd] at h
  | .lst _, h => by simp [wrd] at h
  | .dct, h => by simp [wrd] at h
theorem wrdL_strip : ∀ ds : List D, wrdL ds = true → wrdL (stripL ds) = true ∧ szL (stripL ds) ≤ szL ds
  | [], _ => ⟨rfl, Nat.le_refl _⟩
  | d :: ds, h => by
    simp only [wrdL, Bool.and_eq_true] at h
    have h1 := wrd_strip d h.1
    have h2 := wrdL_strip ds h.2
    simp only [stripL, wrdL, szL, Bool.and_eq_true]
    exact ⟨⟨h1.1, h2.1⟩, by omega⟩
end
mutual
theorem txl_strip : ∀ d : D, txl d → txl (stripD d)
  | .tup ds, h => by simp only [txl] at h; simp only [stripD, txl]; exact txlL_strip ds h
  | .atom k ds, h => by
    simp only [txl] at h
    simp only [stripD]
    split
    · simp only [txl]; exact txlL_strip ds h
    · simp only [wo]
      split
      · simp only [txl]
        have : ∀ (l : List D) (n : Nat), txlL l → txlL (l.take n ++ [.non]) := fun l => by
          induction l with
          | nil => intro n _; simp [txlL, txl]
          | cons x r ih =>
            intro n hl
            cases n with
            | zero => simp [txlL, txl]
            | succ n => simp only [txlL] at hl; simp only [List.take_succ_cons, List.cons_append, txlL]; exact ⟨hl.1, ih n hl.2⟩
        exact this ds 3 h
      · simp only [txl]; exact h
  | .non, h => h
  | .bl _, h => h
  | .int _, h => h
  | .str _, h => h
  | .lst _, h => h
  | .dct, h => h
theorem txlL_strip : ∀ ds : List D, txlL ds → txlL (stripL ds)
  | [], h => h
  | d :: ds, h => by
    simp only [txlL] at h
    simp only [stripL, txlL]
    exact ⟨txl_strip d h.1, txlL_strip ds h.2⟩
end
end Hc

namespace Hc
open PySem PySem.Spec PyProof.Rows L2 Hr
variable [Memo]
mutual
/-- the atoms' ranks are what their kinds bear -/
def rkk : D → Bool
  | .tup ds => rkkL ds
  | .atom k ds => decide (rank (.atom k ds) ≤ mostR k) && rkkL ds
  | _ => true
def rkkL : List D → Bool
  | [] => true
  | d :: ds => rkk d && rkkL ds
end
theorem rkkL_mem : ∀ {ds : List D} {d : D}, rkkL ds = true → d ∈ ds → rkk d = true
  | x :: ds, d, w, h => by
    simp only [rkkL, Bool.and_eq_true] at w
    rcases List.mem_cons.mp h with rfl | h
    · exact w.1
    · exact rkkL_mem w.2 h
/-- a part as it is met -/
structure PartOk (d : D) : Prop where
  w : wrd d = true
  r : rkk d = true
  t : txl d
  z : sz d ≤ 1000000
theorem PartOk.inn {d e : D} {ds : List D} (h : PartOk d) (hi : Hc.inn d = some ds) (he : e ∈ ds) : PartOk e := by
  have key : wrdL ds = true ∧ txlL ds ∧ szL ds < sz d ∧ rkkL ds = true := by
    cases d with
    | tup gs =>
      simp only [Hc.inn, Option.some.injEq] at hi
      subst hi
      exact ⟨by simpa [wrd] using h.w, by simpa [txl] using h.t, by simp only [sz]; omega, by simpa [rkk] using h.r⟩
    | atom k gs =>
      simp only [Hc.inn] at hi
      split at hi
      · cases hi
        have := h.w
        simp only [wrd, Bool.and_eq_true] at this
        have r := h.r
        simp only [rkk, Bool.and_eq_true] at r
        exact ⟨this.1, by simpa [txl] using h.t, by simp only [sz]; omega, r.2⟩
      · cases hi
    | _ => cases hi
  have := szL_mem he
  exact ⟨wrdL_mem key.1 he, rkkL_mem key.2.2.2 he, txlL_mem key.2.1 he, by have := h.z; omega⟩
theorem inn_sz {d : D} {ds : List D} (hi : inn d = some ds) : szL ds + 1 = sz d := by
  cases d with
  | tup gs => simp only [inn, Option.some.injEq] at hi; subst hi; rfl
  | atom k gs =>
    simp only [inn] at hi
    split at hi
    · cases hi; rfl
    · cases hi
  | _ => cases hi
end Hc

namespace Hc
open PySem PySem.Spec PyProof.Rows L2 Hr
variable [Memo]
theorem ru {k : Nat} {A : Around} (r : Room k A) : A.units + 1 < cLine := by have := r.units; omega
def kD (c : Addr) (r m : Int) : List (Key × V) := [(.inr "cells", .ref c), (.inr "rest", .int r), (.inr "mixed", .int m)]
theorem n_rc : ¬ (("cells" : Str) = "rest") := by decide +kernel
theorem n_mc : ¬ (("cells" : Str) = "mixed") := by decide +kernel
theorem n_mr : ¬ (("rest" : Str) = "mixed") := by decide +kernel
theorem n_cr : ¬ (("rest" : Str) = "cells") := by decide +kernel
theorem n_cm : ¬ (("mixed" : Str) = "cells") := by decide +kernel
theorem n_rm : ¬ (("mixed" : Str) = "rest") := by decide +kernel
section
variable {H : Hp} {d c : Addr} {r m : Int}
theorem dg_cells (h : H d = some (.dK (kD c r m))) : DGet H d (.str "cells") (some (.ref c)) := by
  have := DGet.k (k := .inr "cells") h
  rwa [show valV (kD c r m) (.inr "cells") = some (.ref c) by simp [kD, valV]] at this
theorem dg_rest (h : H d = some (.dK (kD c r m))) : DGet H d (.str "rest") (some (.int r)) := by
  have := DGet.k (k := .inr "rest") h
  rwa [show valV (kD c r m) (.inr "rest") = some (.int r) by simp [kD, valV, n_rc]] at this
theorem dg_mixed (h : H d = some (.dK (kD c r m))) : DGet H d (.str "mixed") (some (.int m)) := by
  have := DGet.k (k := .inr "mixed") h
  rwa [show valV (kD c r m) (.inr "mixed") = some (.int m) by simp [kD, valV, n_mc, n_mr]] at this
theorem dp_rest {v : Int} (h : H d = some (.dK (kD c r m))) : DPut H d (.str "rest") (.int v) (upd H d (.dK (kD c v m))) := by
  have := DPut.k (k := .inr "rest") (v := .int v) h (Nat.lt_of_lt_of_le (show 3 < 1000001 by decide) (by decide))
  rwa [show putK (kD c r m) (.inr "rest") (.int v) = kD c v m by simp [kD, putK, n_rc, n_mr, n_rm]] at this
theorem dp_mixed {v : Int} (h : H d = some (.dK (kD c r m))) : DPut H d (.str "mixed") (.int v) (upd H d (.dK (kD c r v))) := by
  have := DPut.k (k := .inr "mixed") (v := .int v) h (Nat.lt_of_lt_of_le (show 3 < 1000001 by decide) (by decide))
  rwa [show putK (kD c r m) (.inr "mixed") (.int v) = kD c r v by simp [kD, putK, n_mc, n_mr]] at this
end
/-- the drawing dict, its cells -/
def Dr (H : Hp) (d c : Addr) : Prop := (∃ r m, H d = some (.dK (kD c r m))) ∧ ∃ ns : List Int, ns.length ≤ 1000 ∧ H c = some (.lst (ns.map V.int))
/-- all but those two stay -/
def Bu2 (d c : Addr) (H H' : Hp) : Prop := ∀ b o, H b = some o → b ≠ d → b ≠ c → H' b = some o
theorem Bu2.refl {d c : Addr} {H : Hp} : Bu2 d c H H := fun _ _ e _ _ => e
theorem Bu2.of {d c : Addr} {H H' : Hp} (s : Same H H') : Bu2 d c H H' := fun b o e _ _ => s b o e
theorem Bu2.trans {d c : Addr} {H H1 H2 : Hp} (a : Bu2 d c H H1) (b : Bu2 d c H1 H2) : Bu2 d c H H2 := fun x o e n1 n2 => b x o (a x o e n1 n2) n1 n2
theorem Bu2.d {d c : Addr} {H : Hp} {o : HO} : Bu2 d c H (upd H d o) := fun x _ e n _ => by rw [upd_ne n]; exact e
theorem Bu2.c {d c : Addr} {H : Hp} {o : HO} : Bu2 d c H (upd H c o) := fun x _ e _ n => by rw [upd_ne n]; exact e
theorem Dr.ne {H : Hp} {d c : Addr} (h : Dr H d c) : d ≠ c := fun z => by
  obtain ⟨⟨r, m, h1⟩, ns, _, h2⟩ := h
  rw [z, h2] at h1; cases h1
theorem Dr.keep {C : Addr} {H H' : Hp} {d c : Addr} (h : Dr H d c) (b : Bu2 d c H H') : Keep C H H' := by
  obtain ⟨⟨r, m, h1⟩, ns, _, h2⟩ := h
  exact ⟨fun x _ e => b x _ e (fun z => by rw [z, h1] at e; cases e) (fun z => by rw [z, h2] at e; cases e), fun x _ _ e => b x _ e (fun z => by rw [z, h1] at e; cases e) (fun z => by rw [z, h2] at e; cases e)⟩
theorem Dr.same {H H' : Hp} {d c : Addr} (s : Same H H') (h : Dr H d c) : Dr H' d c := by
  obtain ⟨⟨r, m, h1⟩, ns, hn, h2⟩ := h
  exact ⟨⟨r, m, s _ _ h1⟩, ns, hn, s _ _ h2⟩
/-- what is none of the two stays none -/
theorem Dr.off {H : Hp} {d c : Addr} (h : Dr H d c) {p : Addr} (hp : H p = none) : p ≠ d ∧ p ≠ c := by
  obtain ⟨⟨r, m, h1⟩, ns, hn, h2⟩ := h
  exact ⟨fun z => (by rw [z, h1] at hp; cases hp), fun z => (by rw [z, h2] at hp; cases hp)⟩
def spDraw : Sp := fun vs H Q _ => ∃ d c many, vs = [.ref d, .int many] ∧ Dr H d c ∧ 0 < many ∧ many < 1073741824 ∧ ∀ H' r, Dr H' d c → Bu2 d c H H' → 0 ≤ r → r < many → Q (.int r) H'
def spPick : Sp := fun vs H Q _ => ∃ (d c l : Addr) (xs : List V), vs = [.ref d, .ref l] ∧ Dr H d c ∧ H l = some (.lst xs) ∧ l ≠ c ∧ 0 < xs.length ∧ xs.length < 1000000 ∧ ∀ (H' : Hp) (i : Nat) (x : V), Dr H' d c → Bu2 d c H H' → xs[i]? = some x → Q x H'
section
variable {P : Program} {w : World} {K : PySem.W.Frag} {mg : Str → Option Value} {base : Heap} {f : Addr} {fd : FuncData} {C : Addr}
abbrev s__law_begin : Stmt := top 32
theorem sc__law_begin : FnScope ["script"] ["script"] (C8.fnScope s__law_begin) := C8.fnScope_by (by decide +kernel)
theorem ok__law_begin (F : C8.Def K mg "_law_begin" s__law_begin f fd) (b : Binds K fd ["script"] []) (T : Txt K mg w C) : C8.Cal P w K mg base 1 "_law_begin" (fun vs H Q _ => ∃ (a : Addr) (ns : List Int), vs = [.ref a] ∧ SqL K H a (ns.map V.int) ∧ ns.length ≤ 1000 ∧ ∀ H' d c, Same H H' → H d = none → H c = none → Dr H' d c → Q (.ref d) H') [] := by
  refine C8.cal0 F b .nil sc__law_begin (fun vs H Q E h => ?_) (fun cdv A outer s H vs Q E hr h => ?_)
  · obtain ⟨a, ns, rfl, _⟩ := h; rfl
  obtain ⟨a, ns, rfl, hl, hn, q⟩ := h
  refine ⟨_, (pss_one (ps_ret (pe_disp (pps_cons pe_str (pe_callTy call_list_of rfl T.z_list bt_list (pa_cons (pv 0) pa_nil)) (pps_cons pe_str pe_int (pps_cons pe_str pe_int pps_nil))) rfl rfl (List.cons_ne_nil _ _) (by decide)))), ?_⟩
  intro d hd
  have s1 := same_new (o := .dK []) hd
  refine ⟨_, rfl, a, ns.map V.int, rfl, .inl (hl.ext s1), fun c hc => ?_⟩
  have ndc : d ≠ c := fun z => by rw [← z, upd_same] at hc; cases hc
  refine ⟨by rw [upd_ne ndc]; exact upd_same, kD c 0 1, rfl, by show 3 ≤ 15; decide, ?_⟩
  refine q _ d c (same_put (same_put s1 (s1.free hc)) hd) hd (s1.free hc) ⟨⟨0, 1, ?_⟩, ns, hn, by rw [upd_ne ndc.symm]; exact upd_same⟩
  rw [upd_same]
  refine congrArg (fun l => some (HO.dK l)) ?_
  simp [kD, mergeK, putK, n_rc, n_mc, n_mr]
abbrev s__law_draw : Stmt := top 33
theorem sc__law_draw : FnScope ["draws", "many", "cells", "cell", "value"] ["draws", "many"] (C8.fnScope s__law_draw) := C8.fnScope_by (by decide +kernel)
theorem ok__law_draw (F : C8.Def K mg "_law_draw" s__law_draw f fd) (b : Binds K fd ["draws", "many"] []) (T : Txt K mg w C) : C8.Cal P w K mg base 1 "_law_draw" spDraw [] := by
  refine C8.cal0 F b .nil sc__law_draw (fun vs H Q E h => ?_) (fun cdv A outer s H vs Q E hr h => ?_)
  · obtain ⟨d, c, many, rfl, _⟩ := h; rfl
  obtain ⟨d, c, many, rfl, hD, hm0, hm1, q⟩ := h
  refine ⟨_, (C8.pss_cut (ps_if (PW.pt (pw_and (pt_cmpR op_eq (pe_dget (ru hr) (pv 0) pe_str (fun _ _ => rfl)) pe_int (nomark _)) (pw_and1 (pt_cmpR op_gt (pe_callB call_lenS rfl T.z_len bt_len (pa_cons (pe_dget (ru hr) (pv 0) pe_str (fun _ _ => rfl)) pa_nil)) pe_int (nomark _))))) (pss_cons (ps_set (i := 2) sc__law_draw.nd rfl (Or.inl rfl) (pe_dget (ru hr) (pv 0) pe_str (fun _ _ => rfl)))
      (pss_cons (ps_set (i := 3) sc__law_draw.nd rfl (Or.inl rfl) (pe_callB call_abs rfl T.z_abs bt_abs (pa_cons (pe_bm PySem.F.plainAttrs_list PySem.F.slot_list_pop PySem.F.type_list_pop mt_popAt (pv 2) (pa_cons pe_int pa_nil)) pa_nil)))
      (pss_cons (ps_if (pt_cmpR op_ge (pv 3) (pe_op op_pow pe_int pe_int) (nomark _)) (pss_one (ps_dput (ru hr) (pv 0) pe_str (pv 3) rfl)) pss_nil)
      (pss_one (ps_dput (ru hr) (pv 0) pe_str (pe_op op_mod (pe_callTy call_int1 rfl T.z_int bt_int (pa_cons (pe_op op_add (pe_op op_add (pe_op op_mul (pe_dget (ru hr) (pv 0) pe_str (fun _ _ => rfl)) pe_int) (pv 3)) pe_int) pa_nil)) pe_int) rfl))))) pss_nil)
      (pss_cons (ps_if (pt_cmpR op_gt (pe_dget (ru hr) (pv 0) pe_str (fun _ _ => rfl)) pe_int (nomark _)) (pss_cons (ps_set (i := 4) sc__law_draw.nd rfl (Or.inl rfl) (pe_op op_mod (pe_callTy call_int1 rfl T.z_int bt_int (pa_cons (pe_dget (ru hr) (pv 0) pe_str (fun _ _ => rfl)) pa_nil)) (pv 1)))
      (pss_cons (ps_dput (ru hr) (pv 0) pe_str (pe_op op_fdiv (pe_dget (ru hr) (pv 0) pe_str (fun _ _ => rfl)) (pv 1)) rfl)
      (pss_one (ps_ret (pv 4))))) pss_nil)
      (pss_cons (ps_dput (ru hr) (pv 0) pe_str (pe_op op_mod (pe_callTy call_int1 rfl T.z_int bt_int (pa_cons (pe_op op_add (pe_op op_mul (pe_dget (ru hr) (pv 0) pe_str (fun _ _ => rfl)) pe_int) pe_int) pa_nil)) pe_int) rfl)
      (pss_one (ps_ret (pe_op op_mod (pe_callTy call_int1 rfl T.z_int bt_int (pa_cons (pe_op op_fdiv (pe_dget (ru hr) (pv 0) pe_str (fun _ _ => rfl)) pe_int) pa_nil)) (pv 1))))))), ?_⟩
  obtain ⟨⟨r0, m0, hd⟩, ns, hn, hc⟩ := id hD
  have ndc := hD.ne
  refine ⟨fun σ H1 => ∃ v2 v3, σ = [some (.ref d), some (.int many), v2, v3, none] ∧ Dr H1 d c ∧ Bu2 d c H H1, ?_, ?_⟩
  · have fin : ∃ v2 v3, (L2.start ["draws", "many", "cells", "cell", "value"] [.ref d, .int many] : L2.St) = [some (.ref d), some (.int many), v2, v3, none] ∧ Dr H d c ∧ Bu2 d c H H := ⟨none, none, rfl, hD, Bu2.refl⟩
    refine ⟨_, rfl, d, _, rfl, dg_rest hd, rfl, _, rfl, ?_⟩
    by_cases c1 : r0 = 0
    · refine ifT (by rw [c1]) ⟨_, rfl, d, _, rfl, dg_cells hd, c, _, rfl, .inl (SqL.of hc), _, _, rfl, rfl, _, rfl, ?_⟩
      cases ns with
      | nil => exact ifF (by simp) fin
      | cons n ns =>
        refine ifT (by simp) ?_
        refine ⟨_, rfl, d, _, rfl, dg_cells hd, ?_⟩
        refine ⟨_, rfl, .inl ⟨rfl, _, SqL.of hc⟩, c, _, 0, 0, .int n, rfl, rfl, hc, by decide, by decide, PySem.StrLaws.seqIndex_nonneg (by omega) (by simp), rfl, n, rfl, ?_⟩
        have hd1 : (upd H c (.lst (ns.map V.int))) d = some (.dK (kD c r0 m0)) := by rw [upd_ne ndc]; exact hd
        have hc1 : (upd H c (.lst (ns.map V.int))) c = some (.lst (ns.map V.int)) := upd_same
        have b1 : Bu2 d c H (upd H c (.lst (ns.map V.int))) := Bu2.c
        have hn1 : ns.length ≤ 1000 := by simp at hn; omega
        show _
        have hEr : (List.map V.int (n :: ns)).eraseIdx 0 = ns.map V.int := rfl
        rw [hEr]
        generalize (upd H c (.lst (ns.map V.int))) = H1 at hd1 hc1 b1
        -- behind the test of the cell
        have go : ∀ (H2 : Hp) (r m : Int) (v2 : Option V) (cell : Int), H2 d = some (.dK (kD c r m)) → H2 c = some (.lst (ns.map V.int)) → Bu2 d c H H2 → ∀ x, ∃ (v2 v3 : Option V), ([some (.ref d), some (.int many), some (.ref c), some (.int cell), none] : L2.St) = [some (.ref d), some (.int many), v2, v3, none] ∧ Dr (upd H2 d (.dK (kD c r x))) d c ∧ Bu2 d c H (upd H2 d (.dK (kD c r x))) := fun H2 r m v2 cell e1 e2 b2 x =>
          ⟨_, _, rfl, ⟨⟨r, x, upd_same⟩, ns, hn1, by rw [upd_ne ndc.symm]; exact e2⟩, b2.trans Bu2.d⟩
        refine ⟨_, rfl, _, _, rfl, rfl, ⟨by decide, by decide, by decide⟩, _, _, rfl, rfl, _, rfl, ite2 (fun _ => ?_) (fun _ => ?_)⟩
        · refine ⟨_, rfl, _, rfl, d, _, rfl, dp_rest hd1, ?_⟩
          exact ⟨_, rfl, d, _, rfl, dg_mixed upd_same, _, _, rfl, rfl, .inr ⟨by decide, by decide⟩, _, rfl, _, _, rfl, rfl, _, _, rfl, rfl, .inl ⟨_, rfl, _, _, rfl, rfl, (show (0 : Int) < 2147483647 by decide), _, rfl, d, _, rfl, dp_mixed upd_same, go _ _ _ none _ upd_same (by rw [upd_ne ndc.symm]; exact hc1) (b1.trans Bu2.d) _⟩⟩
        · exact ⟨_, rfl, d, _, rfl, dg_mixed hd1, _, _, rfl, rfl, .inr ⟨by decide, by decide⟩, _, rfl, _, _, rfl, rfl, _, _, rfl, rfl, .inl ⟨_, rfl, _, _, rfl, rfl, (show (0 : Int) < 2147483647 by decide), _, rfl, d, _, rfl, dp_mixed hd1, go _ _ _ none _ hd1 hc1 b1 _⟩⟩
    · exact ifF (by simpa using c1) fin
  · rintro σ H1 ⟨v2, v3, rfl, hD1, b1⟩
    obtain ⟨⟨r, m, e1⟩, ns1, hn1, e2⟩ := id hD1
    refine ⟨_, rfl, d, _, rfl, dg_rest e1, _, _, rfl, rfl, _, rfl, ite2 (fun _ => ?_) (fun _ => ?_)⟩
    · refine ⟨_, rfl, d, _, rfl, dg_rest e1, .inl ⟨_, rfl, _, rfl, _, _, rfl, rfl, hm0, ?_⟩⟩
      refine ⟨_, rfl, d, _, rfl, dg_rest e1, _, rfl, _, _, rfl, rfl, ⟨hm0, hm1⟩, _, rfl, d, _, rfl, dp_rest e1, _, rfl, ?_⟩
      exact q _ _ ⟨⟨_, m, upd_same⟩, ns1, hn1, by rw [upd_ne ndc.symm]; exact e2⟩ (b1.trans Bu2.d) (Int.emod_nonneg _ (by omega)) (Int.emod_lt_of_pos _ hm0)
    · refine ⟨_, rfl, d, _, rfl, dg_mixed e1, _, _, rfl, rfl, .inr ⟨by decide, by decide⟩, _, _, rfl, rfl, .inl ⟨_, rfl, _, _, rfl, rfl, (show (0 : Int) < 2147483629 by decide), ?_⟩⟩
      refine ⟨_, rfl, d, _, rfl, dp_mixed e1, ?_⟩
      refine ⟨_, rfl, d, _, rfl, dg_mixed upd_same, _, _, rfl, rfl, ⟨by decide, by decide⟩, .inl ⟨_, rfl, _, rfl, _, _, rfl, rfl, hm0, ?_⟩⟩
      exact q _ _ ⟨⟨r, _, upd_same⟩, ns1, hn1, by rw [upd_ne ndc.symm]; exact e2⟩ (b1.trans Bu2.d) (Int.emod_nonneg _ (by omega)) (Int.emod_lt_of_pos _ hm0)
abbrev s__law_pick : Stmt := top 34
theorem sc__law_pick : FnScope ["draws", "row"] ["draws", "row"] (C8.fnScope s__law_pick) := C8.fnScope_by (by decide +kernel)
theorem ok__law_pick (F : C8.Def K mg "_law_pick" s__law_pick f fd) (b : Binds K fd ["draws", "row"] []) (T : Txt K mg w C) (c__law_draw : C8.Cal P w K mg base 1 "_law_draw" spDraw []) : C8.Cal P w K mg base 2 "_law_pick" spPick [] := by
  refine C8.cal0 F b .nil sc__law_pick (fun vs H Q E h => ?_) (fun cdv A outer s H vs Q E hr h => ?_)
  · obtain ⟨d, c, l, xs, rfl, _⟩ := h; rfl
  obtain ⟨d, c, l, xs, rfl, hD, hl, hlc, h0, h1, q⟩ := h
  have hld : l ≠ d := fun z => by
    obtain ⟨⟨r, m, hd⟩, _⟩ := hD
    rw [z, hd] at hl; cases hl
  refine ⟨_, (pss_one (ps_ret (pe_ix ix_list (pv 1) (C8.pe_c c__law_draw hr (by first | decide | omega) rfl (pa_cons (pv 0) (pa_cons (pe_callB call_lenS rfl T.z_len bt_len (pa_cons (pv 1) pa_nil)) pa_nil))) (fun _ _ => rfl)))), ?_⟩
  refine ⟨_, rfl, _, rfl, _, rfl, l, xs, rfl, .inl (SqL.of hl), d, c, _, rfl, hD, by omega, by omega, fun H1 r hD1 b1 g0 g1 => ?_⟩
  have hlt : r.toNat < xs.length := by omega
  have hx : xs[r.toNat]? = some xs[r.toNat] := List.getElem?_eq_getElem hlt
  have hr2 : ((r.toNat : Nat) : Int) = r := by omega
  refine ⟨l, xs, r, _, rfl, rfl, SqL.of (b1 _ _ hl hld hlc), (show atI xs r = some xs[r.toNat] by have := atI_nat hx; rwa [hr2] at this), q H1 _ _ hD1 b1 hx⟩
end
end Hc

namespace Hc
open PySem PySem.Spec PyProof.Rows L2 Hr
variable [Memo]
def isBl : D → Bool | .bl _ => true | _ => false
def isIn : D → Bool | .int _ => true | .bl _ => true | _ => false
def isSt : D → Bool | .str _ => true | _ => false
def spAgree : Sp := fun vs H Q _ => ∃ a b, vs = [.bl a, .bl b] ∧ Q (.bl (decide (V.bl a = V.bl b))) H
section
variable {P : Program} {w : World} {K : PySem.W.Frag} {mg : Str → Option Value} {base : Heap} {f : Addr} {fd : FuncData} {C : Addr}
theorem kitB (T : Txt K mg w C) (b : Bool) : PySem.W.kitOne K (kyU C (.bl b)) (.type "bool") = some true := by rw [T.kit (.bl b) "bool" (by simp)]; simp
theorem kitBo (T : Txt K mg w C) (d : D) : PySem.W.kitOne K (kyU C d) (.type "bool") = some (isBl d) := by rw [T.kit d "bool" (by simp)]; cases d <;> simp [isBl]
theorem kitIn (T : Txt K mg w C) (d : D) : PySem.W.kitOne K (kyU C d) (.type "int") = some (isIn d) := by rw [T.kit d "int" (by simp)]; cases d <;> simp [isIn]
theorem kitSt (T : Txt K mg w C) (d : D) : PySem.W.kitOne K (kyU C d) (.type "str") = some (isSt d) := by rw [T.kit d "str" (by simp)]; cases d <;> simp [isSt]
theorem kitTu (T : Txt K mg w C) (d : D) : PySem.W.kitOne K (kyU C d) (.type "tuple") = some (isTu d) := by rw [T.kit d "tuple" (by simp)]; cases d <;> simp [isTu]
abbrev s__law_agree : Stmt := top 46
theorem sc__law_agree : FnScope ["actual", "due"] ["actual", "due"] (C8.fnScope s__law_agree) := C8.fnScope_by (by decide +kernel)
theorem ok__law_agree (F : C8.Def K mg "_law_agree" s__law_agree f fd) (b : Binds K fd ["actual", "due"] []) (T : Txt K mg w C) : C8.Cal P w K mg base 1 "_law_agree" spAgree [] := by
  refine C8.cal0 F b .nil sc__law_agree (fun vs H Q E h => ?_) (fun cdv A outer s H vs Q E hr h => ?_)
  · obtain ⟨a, b, rfl, _⟩ := h; rfl
  obtain ⟨a, b, rfl, q⟩ := h
  refine ⟨_, (pss_one (ps_ret (pe_and (pe_callB (call_isiA T.cl) rfl T.z_isinstance bt_isinstance (pa_cons (pv 0) (pa_cons (pe_bltn (v := .ty "bool") rfl T.z_bool bt_bool rfl) pa_nil))) (pe_one (pe_cmpR op_eq (pv 0) (pv 1) (nomark _)))))), ?_⟩
  exact ⟨_, rfl, _, .bl _, _, _, _, rfl, .bl _, .ty _, kitB T _, _, rfl, iteT ⟨_, rfl, _, rfl, rfl, q⟩⟩
abbrev s__law_is_word : Stmt := top 40
theorem sc__law_is_word : FnScope ["value", "room", "char", "part"] ["value", "room"] (C8.fnScope s__law_is_word) := C8.fnScope_by (by decide +kernel)
def lawW : Nat → D → Bool
  | _, .non => true
  | _, .atom _ _ => true
  | _, .int i => decide (-2147483648 ≤ i) && decide (i ≤ 2147483647)
  | _, .str s => decide (s.length < 25) && s.cps.toList.all sgn
  | 0, .tup _ => false
  | n + 1, .tup ds => ds.all (lawW n)
  | _, _ => false
def spLW (C : Addr) (n : Nat) : Sp := fun vs H Q _ => ∃ x k d, vs = [x, .int (k : Nat)] ∧ k < n ∧ Is C H x d ∧ Fit d ∧ ∀ H', Same H H' → Q (.bl (lawW k d)) H'
theorem ok__law_is_word (F : C8.Def K mg "_law_is_word" s__law_is_word f fd) (b : Binds K fd ["value", "room"] []) (T : Txt K mg w C) : ∀ n, C8.Cal P w K mg base (n + 1) "_law_is_word" (spLW C n) [] := by
  intro n
  induction n with
  | zero =>
    refine C8.cal0 F b .nil sc__law_is_word (fun vs H Q E h => ?_) (fun cdv A outer s H vs Q E hr h => ?_)
    · obtain ⟨x, k, d, _, h, _⟩ := h; omega
    · obtain ⟨x, k, d, _, h, _⟩ := h; omega
  | succ n ih =>
    have c__law_is_word := ih
    refine C8.cal0 F b .nil sc__law_is_word (fun vs H Q E h => ?_) (fun cdv A outer s H vs Q E hr h => ?_)
    · obtain ⟨x, k, d, rfl, _⟩ := h; rfl
    obtain ⟨x, k, d, rfl, hk, hx, hz, q⟩ := h
    refine ⟨_, (pss_cons (ps_if (PW.pt (pw_or (pt_cmpR op_isN (pv 0) pe_non (nomark _)) (pw_or1 (pt_val (pe_callB (call_isiA T.cl) rfl T.z_isinstance bt_isinstance (pa_cons (pv 0) (pa_cons (pe_glob (v := .ref C) rfl T.g_Atom rfl) pa_nil))))))) (pss_one (ps_ret pe_bl)) pss_nil)
      (pss_cons (ps_if (pt_val (pe_callB (call_isiA T.cl) rfl T.z_isinstance bt_isinstance (pa_cons (pv 0) (pa_cons (pe_bltn (v := .ty "bool") rfl T.z_bool bt_bool rfl) pa_nil)))) (pss_one (ps_ret pe_bl)) pss_nil)
      (pss_cons (ps_if (pt_val (pe_callB (call_isiA T.cl) rfl T.z_isinstance bt_isinstance (pa_cons (pv 0) (pa_cons (pe_bltn (v := .ty "int") rfl T.z_int bt_int rfl) pa_nil)))) (pss_one (ps_ret (pe_chain op_le op_le (pe_un un_neg pe_int) (pv 0) pe_int))) pss_nil)
      (pss_cons (ps_if (pt_val (pe_callB (call_isiA T.cl) rfl T.z_isinstance bt_isinstance (pa_cons (pv 0) (pa_cons (pe_bltn (v := .ty "str") rfl T.z_str bt_str rfl) pa_nil)))) (pss_one (ps_ret (pe_and (pe_cmpR op_lt (pe_callB call_len_str rfl T.z_len bt_len (pa_cons (pv 0) pa_nil)) pe_int (nomark _)) (pe_one (pe_cmpR op_eq (pe_callB call_lenS rfl T.z_len bt_len (pa_cons (pe_lc (own := [("char", 2)]) (g := gName 2) rfl sc__law_is_word.nd (pi_str (pv 0)) (blkOk_by (own := [("char", 2)]) (N := ["value", "room", "char", "part"]) (sc := C8.fnScope s__law_is_word) (by decide +kernel)) (fun _ _ _ _ _ => (pg_name (i := 2) sc__law_is_word.nd rfl (Or.inl rfl))) (fun _ _ _ _ _ => (pts_one (PW.pt (pw_or (pt_cmpR op_lt_str (pv 2) pe_str (nomark _)) (pw_or1 (pt_cmpR op_gt_str (pv 2) pe_str (nomark _))))))) (fun _ _ _ _ _ => (pv 2))) pa_nil)) pe_int (nomark _)))))) pss_nil)
      (pss_cons (ps_if (PW.pt (pw_or (pt_not (pt_val (pe_callB (call_isiA T.cl) rfl T.z_isinstance bt_isinstance (pa_cons (pv 0) (pa_cons (pe_bltn (v := .ty "tuple") rfl T.z_tuple bt_tuple rfl) pa_nil))))) (pw_or1 (pt_cmpR op_eq (pv 1) pe_int (nomark _))))) (pss_one (ps_ret pe_bl)) pss_nil)
      (pss_one (ps_ret (pe_cmpR op_eq (pe_callB call_lenS rfl T.z_len bt_len (pa_cons (pe_lc (own := [("part", 3)]) (g := gName 3) rfl sc__law_is_word.nd (pi_tup (pv 0)) (blkOk_by (own := [("part", 3)]) (N := ["value", "room", "char", "part"]) (sc := C8.fnScope s__law_is_word) (by decide +kernel)) (fun _ _ _ _ _ => (pg_name (i := 3) sc__law_is_word.nd rfl (Or.inl rfl))) (fun _ _ _ _ _ => (pts_one (pt_not (pt_val (C8.pe_c c__law_is_word hr (Nat.le_refl _) rfl (pa_cons (pv 3) (pa_cons (pe_op op_sub (pv 1) pe_int) pa_nil))))))) (fun _ _ _ _ _ => (pv 3))) pa_nil)) pe_int (nomark _))))))))), ?_⟩
    have q0 := q H (Same.refl H)
    refine ⟨_, rfl, rfl, _, rfl, ?_⟩
    by_cases hn : x = .non
    · subst hn
      cases hx
      have e : lawW k .non = true := by cases k <;> rfl
      rw [e] at q0
      exact ifT rfl (iteT q0)
    refine ifF hn ⟨_, rfl, x, _, _, _, _, rfl, hx, .own C, kitA T d, _, rfl, ?_⟩
    cases hA : isAt d with
    | true =>
      have e : lawW k d = true := by cases d <;> first | (simp [isAt] at hA; done) | (cases k <;> rfl)
      rw [e] at q0
      exact iteT q0
    | false =>
      refine iteF ⟨_, rfl, x, _, _, _, _, rfl, hx, .ty _, kitBo T d, _, rfl, ?_⟩
      cases hd : isBl d with
      | true =>
        obtain ⟨bb, rfl⟩ : ∃ bb, d = .bl bb := by cases d <;> first | exact ⟨_, rfl⟩ | (simp [isBl] at hd; done)
        have e : lawW k (.bl bb) = false := by cases k <;> rfl
        rw [e] at q0
        exact iteT q0
      | false =>
        refine iteF ⟨_, rfl, x, _, _, _, _, rfl, hx, .ty _, kitIn T d, _, rfl, ?_⟩
        by_cases hi : ∃ i, d = .int i
        · obtain ⟨i, rfl⟩ := hi
          cases hx
          have e : lawW k (.int i) = (decide (-2147483648 ≤ i) && decide (i ≤ 2147483647)) := by cases k <;> rfl
          rw [e] at q0
          refine iteT ⟨2147483648, rfl, _, rfl, _, _, rfl, rfl, _, rfl, ite2 (fun c => ?_) (fun c => ?_)⟩
          · refine ⟨_, _, rfl, rfl, ?_⟩
            rw [show decide (-2147483648 ≤ i) = true from c, Bool.true_and] at q0
            exact q0
          · rw [show decide (-2147483648 ≤ i) = false from by simpa using c, Bool.false_and] at q0
            exact q0
        · have e1 : isIn d = false := by cases d <;> first | rfl | exact absurd ⟨_, rfl⟩ hi | (simp [isBl] at hd; done)
          rw [e1]
          refine iteF ⟨_, rfl, x, _, _, _, _, rfl, hx, .ty _, kitSt T d, _, rfl, ?_⟩
          by_cases hs : ∃ z, d = .str z
          · obtain ⟨z, rfl⟩ := hs
            cases hx
            have e : lawW k (.str z) = (decide (z.length < 25) && z.cps.toList.all sgn) := by cases k <;> rfl
            rw [e] at q q0
            have hzl : z.length ≤ sizeLine := by simpa [txl] using hz.2
            refine iteT ⟨_, rfl, z, rfl, hzl, _, _, rfl, rfl, _, rfl, ite2 (fun c => ?_) (fun c => ?_)⟩
            · have hl : z.length < 25 := by simp at c; omega
              rw [decide_eq_true hl, Bool.true_and] at q
              refine ⟨_, rfl, z, rfl, fun Dl hDl => ?_⟩
              refine lc_it (walk_str (z := z)) (fun i H' => Same H H' ∧ ∃ acc, H' Dl = some (.lst acc) ∧ acc.length = ((z.cps.toList.take i).filter (fun c => !sgn c)).length) ⟨same_new hDl, [], upd_same, rfl⟩ (fun _ _ _ _ => trivial) ?_ ?_
              · rintro i y H0 H1 hi' ⟨s1, acc, hl', hn'⟩ ⟨rfl, c, hc, rfl⟩
                have hc' : z.cps.toList[i]? = some c := by rw [Array.getElem?_toList]; exact hc
                have hle : ((z.cps.toList.take i).filter (fun c => !sgn c)).length ≤ 24 := by
                  refine Nat.le_trans (List.length_filter_le _ _) ?_
                  have h1 : z.cps.size = z.length := rfl
                  rw [List.length_take, Array.length_toList]; omega
                have hstep : (z.cps.toList.take (i + 1)).filter (fun c => !sgn c) = (z.cps.toList.take i).filter (fun c => !sgn c) ++ [c].filter (fun c => !sgn c) := by
                  rw [List.take_add_one, hc', List.filter_append]; rfl
                have bad : sgn c = false → ∃ acc, H1 Dl = some (.lst acc) ∧ acc.length < sizeLine ∧ Same H (upd H1 Dl (.lst (acc ++ [.str ⟨#[c]⟩]))) ∧ ∃ acc2, (upd H1 Dl (.lst (acc ++ [.str ⟨#[c]⟩]))) Dl = some (.lst acc2) ∧ acc2.length = ((z.cps.toList.take (i + 1)).filter (fun c => !sgn c)).length := fun hsg => by
                  refine ⟨acc, hl', small1000 (by omega), same_put s1 hDl, acc ++ [.str ⟨#[c]⟩], upd_same, ?_⟩
                  rw [hstep, List.length_append, List.length_append, hn']
                  simp [hsg]
                refine ⟨rfl, _, rfl, _, _, rfl, rfl, _, rfl, ?_⟩
                have e32 : decide (([c] : List Nat) < [32]) = decide (c < 32) := lt_one _ _
                have e126 : decide (([126] : List Nat) < [c]) = decide (126 < c) := lt_one _ _
                by_cases c1 : c < 32
                · refine bT (e32.trans (decide_eq_true c1)) (iteT ⟨_, rfl, bad ?_⟩)
                  unfold sgn; rw [decide_eq_false (by omega)]; rfl
                · refine bF (e32.trans (decide_eq_false c1)) ⟨_, rfl, _, _, rfl, rfl, _, rfl, ?_⟩
                  by_cases c2 : 126 < c
                  · refine bT (e126.trans (decide_eq_true c2)) ⟨_, rfl, bad ?_⟩
                    unfold sgn; rw [decide_eq_false (show ¬ c ≤ 126 by omega), Bool.and_false]
                  · refine bF (e126.trans (decide_eq_false c2)) ⟨s1, acc, hl', ?_⟩
                    rw [hstep, hn']
                    have : sgn c = true := by unfold sgn; rw [decide_eq_true (show 32 ≤ c by omega), decide_eq_true (show c ≤ 126 by omega)]; rfl
                    simp [this]
              · rintro H1 ⟨s1, acc, hl', hn'⟩
                have ea : z.cps.toList.take z.cps.size = z.cps.toList := List.take_of_length_le (by rw [Array.length_toList]; exact Nat.le_refl _)
                rw [ea] at hn'
                have q1 := q H1 s1
                have eq1 : z.cps.toList.all sgn = decide (V.int ((acc.length : Nat) : Int) = V.int 0) := by
                  rw [hn']
                  cases hall : z.cps.toList.all sgn with
                  | true =>
                    have : z.cps.toList.filter (fun c => !sgn c) = [] := List.filter_eq_nil_iff.mpr fun a ha => by rw [List.all_eq_true.mp hall a ha]; decide
                    rw [this]; rfl
                  | false =>
                    symm
                    refine decide_eq_false fun zz => ?_
                    have h0 : (z.cps.toList.filter (fun c => !sgn c)).length = 0 := by have := V.int.inj zz; omega
                    have := List.filter_eq_nil_iff.mp (List.eq_nil_of_length_eq_zero h0)
                    have ht : z.cps.toList.all sgn = true := List.all_eq_true.mpr fun a ha => by simpa using this a ha
                    rw [ht] at hall; cases hall
                rw [eq1] at q1
                exact ⟨Dl, acc, rfl, .inl (SqL.of hl'), rfl, q1⟩
            · have hl : ¬ z.length < 25 := by simp at c; omega
              rw [decide_eq_false hl, Bool.false_and] at q0
              exact q0
          · have e2 : isSt d = false := by cases d <;> first | rfl | exact absurd ⟨_, rfl⟩ hs
            rw [e2]
            refine iteF ⟨_, rfl, x, _, _, _, _, rfl, hx, .ty _, kitTu T d, _, rfl, ?_⟩
            cases hT : isTu d with
            | false =>
              have e : lawW k d = false := by cases d <;> first | (simp [isAt] at hA; done) | (simp [isTu] at hT; done) | exact absurd ⟨_, rfl⟩ hi | exact absurd ⟨_, rfl⟩ hs | (cases hx; exact absurd rfl hn) | (cases k <;> rfl)
              rw [e] at q0
              exact bT rfl (iteT q0)
            | true =>
              obtain ⟨ds, rfl⟩ : ∃ ds, d = .tup ds := by cases d <;> first | exact ⟨_, rfl⟩ | (simp [isTu] at hT; done)
              refine bF rfl ⟨_, rfl, rfl, _, rfl, ?_⟩
              cases k with
              | zero => exact ifT rfl q0
              | succ k =>
                refine ifF (fun zz => by have := V.int.inj zz; omega) ?_
                have e : lawW (k + 1) (.tup ds) = ds.all (lawW k) := rfl
                rw [e] at q
                cases hx with
                | @tup a xs _ ha ia =>
                have hlen := ia.len
                have hdl := len_szL ds
                have hzz := hz.1
                simp only [sz] at hzz
                refine ⟨_, rfl, a, rfl, ⟨xs, SqT.of ha⟩, fun Dl hDl => ?_⟩
                refine lc_it (walk_tup (xs := xs)) (fun i H' => Same H H' ∧ ∃ acc, H' Dl = some (.lst acc) ∧ acc.length = ((ds.take i).filter (fun e => !lawW k e)).length) ⟨same_new hDl, [], upd_same, rfl⟩ (fun i H' _ h => SqT.of (h.1 _ _ ha)) ?_ ?_
                · rintro i y H0 H1 hi' ⟨s1, acc, hl', hn'⟩ ⟨rfl, hy⟩
                  obtain ⟨e, he, hye⟩ := ia.at hy
                  have hle : ((ds.take i).filter (fun e => !lawW k e)).length ≤ ds.length := by
                    refine Nat.le_trans (List.length_filter_le _ _) ?_
                    rw [List.length_take]; omega
                  have hstep : (ds.take (i + 1)).filter (fun e => !lawW k e) = (ds.take i).filter (fun e => !lawW k e) ++ [e].filter (fun e => !lawW k e) := by
                    rw [List.take_add_one, he, List.filter_append]; rfl
                  refine ⟨rfl, _, rfl, _, rfl, _, _, rfl, rfl, y, k, e, by simp, by omega, hye.same s1, hz.part (List.mem_of_getElem? he), fun H2 s2 => ⟨_, rfl, ?_⟩⟩
                  cases hw : lawW k e with
                  | true =>
                    refine bF rfl ⟨s1.trans s2, acc, s2 _ _ hl', ?_⟩
                    rw [hstep, hn']; simp [hw]
                  | false =>
                    refine bT rfl ⟨_, rfl, acc, s2 _ _ hl', Nat.lt_of_lt_of_le (show acc.length < 1000001 by omega) (by decide), same_put (s1.trans s2) hDl, acc ++ [y], upd_same, ?_⟩
                    rw [hstep, List.length_append, List.length_append, hn']; simp [hw]
                · rintro H1 ⟨s1, acc, hl', hn'⟩
                  rw [List.take_of_length_le (by omega)] at hn'
                  have q1 := q H1 s1
                  have eq1 : ds.all (lawW k) = decide (V.int ((acc.length : Nat) : Int) = V.int 0) := by
                    rw [hn']
                    cases hall : ds.all (lawW k) with
                    | true =>
                      have : ds.filter (fun e => !lawW k e) = [] := List.filter_eq_nil_iff.mpr fun a ha => by rw [List.all_eq_true.mp hall a ha]; decide
                      rw [this]; rfl
                    | false =>
                      symm
                      refine decide_eq_false fun zz => ?_
                      have h0 : (ds.filter (fun e => !lawW k e)).length = 0 := by have := V.int.inj zz; omega
                      have := List.filter_eq_nil_iff.mp (List.eq_nil_of_length_eq_zero h0)
                      have ht : ds.all (lawW k) = true := List.all_eq_true.mpr fun a ha => by simpa using this a ha
                      rw [ht] at hall; cases hall
                  rw [eq1] at q1
                  exact ⟨Dl, acc, rfl, .inl (SqL.of hl'), rfl, q1⟩
end
end Hc

namespace Hc
open PySem PySem.Spec PyProof.Rows L2 Hr
variable [Memo]
section
variable {P : Program} {w : World} {K : PySem.W.Frag} {mg : Str → Option Value} {base : Heap} {f : Addr} {fd : FuncData} {C : Addr}
abbrev s__law_rank : Stmt := top 44
theorem sc__law_rank : FnScope ["word", "part"] ["word"] (C8.fnScope s__law_rank) := C8.fnScope_by (by decide +kernel)
/-- how deep tuples and atoms lie in one another -/
theorem dummy0 : True := trivial
mutual
def full : D → Nat
  | .tup ds => fullL ds + 1
  | .atom _ ds => fullL ds + 2
  | _ => 0
def fullL : List D → Nat
  | [] => 0
  | d :: ds => max (full d) (fullL ds)
end
theorem fullL_mem : ∀ {ds : List D} {d : D}, d ∈ ds → full d ≤ fullL ds
  | x :: ds, d, h => by
    simp only [fullL]
    rcases List.mem_cons.mp h with rfl | h
    · omega
    · have := fullL_mem h; omega
theorem rankL_ge : ∀ {ds : List D} {d : D}, d ∈ ds → rank d ≤ rankL ds
  | x :: ds, d, h => by
    simp only [rankL]
    rcases List.mem_cons.mp h with rfl | h
    · omega
    · have := rankL_ge h; omega
theorem rankL_in : ∀ {ds : List D}, rankL ds = 0 ∨ ∃ d ∈ ds, rank d = rankL ds
  | [] => .inl rfl
  | d :: ds => by
    simp only [rankL]
    rcases rankL_in (ds := ds) with h | ⟨e, he, h⟩
    · by_cases c : rank d = 0
      · left; omega
      · right; exact ⟨d, List.mem_cons_self, by omega⟩
    · by_cases c : rank d ≤ rankL ds
      · right; exact ⟨e, List.mem_cons_of_mem _ he, by omega⟩
      · right; exact ⟨d, List.mem_cons_self, by omega⟩
def spLR (C : Addr) (n : Nat) : Sp := fun vs H Q _ => ∃ x d, vs = [x] ∧ Is C H x d ∧ full d < n ∧ sz d ≤ 1000000 ∧ ∀ H', Same H H' → Q (.int ((rank d : Nat) : Int)) H'
theorem ok__law_rank (F : C8.Def K mg "_law_rank" s__law_rank f fd) (b : Binds K fd ["word"] []) (T : Txt K mg w C) : ∀ n, C8.Cal P w K mg base (n + 1) "_law_rank" (spLR C n) [] := by
  intro n
  induction n with
  | zero =>
    refine C8.cal0 F b .nil sc__law_rank (fun vs H Q E h => ?_) (fun cdv A outer s H vs Q E hr h => ?_)
    · obtain ⟨x, d, _, _, h, _⟩ := h; omega
    · obtain ⟨x, d, _, _, h, _⟩ := h; omega
  | succ n ih =>
    have c__law_rank := ih
    refine C8.cal0 F b .nil sc__law_rank (fun vs H Q E h => ?_) (fun cdv A outer s H vs Q E hr h => ?_)
    · obtain ⟨x, d, rfl, _⟩ := h; rfl
    obtain ⟨x, d, rfl, hx, hf, hz, q⟩ := h
    refine ⟨_, (pss_cons (ps_if (PW.pt (pw_and (pt_val (pe_callB (call_isiA T.cl) rfl T.z_isinstance bt_isinstance (pa_cons (pv 0) (pa_cons (pe_glob (v := .ref C) rfl T.g_Atom rfl) pa_nil)))) (pw_and1 (pt_cmpR op_in_seq (pe_fld (pv 0) rfl) (pe_lst (pa_cons pe_str (pa_cons pe_str pa_nil))) (by with_unfolding_all rfl))))) (pss_one (ps_ret pe_int)) pss_nil)
      (pss_cons (ps_if (pt_val (pe_callB (call_isiA T.cl) rfl T.z_isinstance bt_isinstance (pa_cons (pv 0) (pa_cons (pe_glob (v := .ref C) rfl T.g_Atom rfl) pa_nil)))) (pss_one (ps_ret (pe_op op_add pe_int (C8.pe_c c__law_rank hr (Nat.le_refl _) rfl (pa_cons (pe_fld (pv 0) rfl) pa_nil))))) pss_nil)
      (pss_cons (ps_if (pt_val (pe_callB (call_isiA T.cl) rfl T.z_isinstance bt_isinstance (pa_cons (pv 0) (pa_cons (pe_bltn (v := .ty "tuple") rfl T.z_tuple bt_tuple rfl) pa_nil)))) (pss_one (ps_ret (pe_callB (cr_max rfl) rfl T.z_max bt_max (pa_cons (pe_op op_cat (pe_lst (pa_cons pe_int pa_nil)) (pe_lc (own := [("part", 1)]) (g := gName 1) rfl sc__law_rank.nd (pi_tup (pv 0)) (blkOk_by (own := [("part", 1)]) (N := ["word", "part"]) (sc := C8.fnScope s__law_rank) (by decide +kernel)) (fun _ _ _ _ _ => (pg_name (i := 1) sc__law_rank.nd rfl (Or.inl rfl))) (fun _ _ _ _ _ => pts_nil) (fun _ _ _ _ _ => (C8.pe_c c__law_rank hr (Nat.le_refl _) rfl (pa_cons (pv 1) pa_nil))))) pa_nil)))) pss_nil)
      (pss_one (ps_ret pe_int))))), ?_⟩
    refine ⟨_, rfl, x, _, _, _, _, rfl, hx, .own C, kitA T d, _, rfl, ?_⟩
    cases hA : isAt d with
    | true =>
      obtain ⟨k, ds, rfl⟩ : ∃ k ds, d = .atom k ds := by cases d <;> first | exact ⟨_, _, rfl⟩ | (simp [isAt] at hA; done)
      have hx0 := hx
      cases hx with
      | @atom a dx t _ xs _ svu1 u1 v1 i1 gmu1 =>
      refine iteT ⟨_, rfl, a, C, dx, _, _, rfl, u1, T.cl.cl, T.cl.nK, rfl, (by show 2 ≤ sizeLine; decide), fun m hm => ?_⟩
      have s1 := same_new (o := .lst [.str "seal", .str "page"]) hm
      refine ⟨m, _, rfl, .inl (SqL.of upd_same), rfl, rfl, _, rfl, ?_⟩
      show (if (inV (.str k) [.str "seal", .str "page"]) = true then _ else _)
      rw [inVab]
      by_cases c : k = "seal" ∨ k = "page"
      · refine bT (by simpa using c) ?_
        have e : rank (.atom k ds) = 1 := by simp only [rank]; rw [if_pos c]
        rw [e] at q
        exact q _ s1
      · refine bF (by simpa using c) ⟨_, rfl, .ref a, _, _, _, _, rfl, hx0.same s1, .own C, kitA T _, _, rfl, iteT ?_⟩
        refine ⟨_, rfl, a, C, dx, _, _, rfl, s1 _ _ u1, T.cl.cl, T.cl.nT, rfl, .ref t, .tup ds, rfl, (Is.tup v1 i1).same s1, by simp only [full] at hf ⊢; omega, by simp only [sz] at hz ⊢; omega, fun H2 s2 => ⟨_, _, rfl, rfl, ?_⟩⟩
        have q2 := q H2 (s1.trans s2)
        have e : ((rank (.atom k ds) : Nat) : Int) = 1 + ((rank (.tup ds) : Nat) : Int) := by
          have : rank (.atom k ds) = rankL ds + 1 := by simp only [rank]; rw [if_neg c]
          rw [this]; simp only [rank]; omega
        rw [e] at q2
        exact q2
    | false =>
      refine iteF ⟨_, rfl, x, _, _, _, _, rfl, hx, .own C, kitA T d, _, rfl, ?_⟩
      rw [hA]
      refine iteF ⟨_, rfl, x, _, _, _, _, rfl, hx, .ty _, kitTu T d, _, rfl, ?_⟩
      cases hT : isTu d with
      | false =>
        have e : rank d = 0 := by cases d <;> first | rfl | (simp [isAt] at hA; done) | (simp [isTu] at hT; done)
        have q0 := q H (Same.refl H)
        rw [e] at q0
        exact iteF q0
      | true =>
        obtain ⟨ds, rfl⟩ : ∃ ds, d = .tup ds := by cases d <;> first | exact ⟨_, rfl⟩ | (simp [isTu] at hT; done)
        cases hx with
        | @tup a xs _ ha ia =>
        have hlen := ia.len
        have hdl := len_szL ds
        simp only [sz] at hz
        simp only [full] at hf
        refine iteT ⟨(by show 1 ≤ sizeLine; decide), fun z0 hz0 => ?_⟩
        have s0 := same_new (o := .lst [.int 0]) hz0
        refine ⟨_, rfl, a, rfl, ⟨xs, SqT.of (s0 _ _ ha)⟩, fun Dl hDl => ?_⟩
        have hz1 : (upd H z0 (.lst [.int 0])) z0 = some (.lst [.int 0]) := upd_same
        have ia0 := ia.same s0
        have ha0 := s0 _ _ ha
        generalize upd H z0 (.lst [.int 0]) = H0 at s0 hz1 ia0 ha0 hDl ⊢
        refine lc_it (walk_tup (xs := xs)) (fun i H' => Same H0 H' ∧ H' Dl = some (.lst ((ds.take i).map fun e => V.int ((rank e : Nat) : Int)))) ⟨same_new hDl, upd_same⟩ (fun i H' _ h => SqT.of (h.1 _ _ ha0)) ?_ ?_
        · rintro i y H1 H2 hi' ⟨s1, hl'⟩ ⟨rfl, hy⟩
          obtain ⟨e, he, hye⟩ := ia0.at hy
          have me := List.mem_of_getElem? he
          have f1 := fullL_mem me
          have f2 := szL_mem me
          refine ⟨rfl, yes ?_⟩
          refine ⟨_, rfl, y, e, rfl, hye.same s1, by omega, by omega, fun H3 s3 => ⟨_, s3 _ _ hl', Nat.lt_of_lt_of_le (show _ < 1000001 by rw [List.length_map, List.length_take]; omega) (by decide), same_put (s1.trans s3) hDl, ?_⟩⟩
          rw [upd_same, List.take_add_one, he, List.map_append]; rfl
        · rintro H1 ⟨s1, hl'⟩
          rw [List.take_of_length_le (by omega)] at hl'
          refine ⟨z0, Dl, _, _, rfl, rfl, s1 _ _ hz1, hl', Nat.le_trans (show _ ≤ 1000001 by rw [List.length_map, List.length_singleton]; omega) (by decide), fun p hp => ?_⟩
          have s2 := same_new (o := .lst ([V.int 0] ++ ds.map fun e => V.int ((rank e : Nat) : Int))) hp
          refine ⟨p, 0 :: ds.map (fun e => ((rank e : Nat) : Int)), rfl, SqL.of (by rw [upd_same, List.map_cons, List.map_map]; rfl), by simp, fun m hm hall => ?_⟩
          have q2 := q _ ((s0.trans s1).trans s2)
          have em : m = ((rank (.tup ds) : Nat) : Int) := by
            simp only [rank]
            have h0 := hall 0 List.mem_cons_self
            rcases List.mem_cons.mp hm with rfl | hm
            · rcases rankL_in (ds := ds) with h | ⟨e, he, h⟩
              · rw [h]; rfl
              · have := hall _ (List.mem_cons_of_mem _ (List.mem_map.mpr ⟨e, he, rfl⟩))
                omega
            · obtain ⟨e, he, rfl⟩ := List.mem_map.mp hm
              have h1 := rankL_ge he
              rcases rankL_in (ds := ds) with h | ⟨e', he', h⟩
              · omega
              · have := hall _ (List.mem_cons_of_mem _ (List.mem_map.mpr ⟨e', he', rfl⟩))
                omega
          rw [em]
          exact q2
end
end Hc

namespace Hc
open PySem PySem.Spec PyProof.Rows L2 Hr
variable [Memo]
theorem strip_nohid {k : Str} {ds : List D} (hk : hid k = false) (h : isTermK k ds = true) : stripD (.atom k ds) = .atom k (stripL ds) := by
  simp only [stripD]
  split
  · rfl
  · rename_i hn
    have e : wo (.atom k ds) = .atom k ds := by simp [wo, hk]
    rw [e]
    have hf : k = "challenge" := by
      have hh : ¬ (k = "seal" ∨ k = "page") := by unfold hid at hk; exact of_decide_eq_false hk
      unfold isTermK formsOf at h
      by_cases c1 : k = "token"
      · exact absurd (.inl c1) hn
      by_cases c2 : k = "challenge"
      · exact c2
      by_cases c3 : k = "seal"
      · exact absurd (.inl c3) hh
      by_cases c4 : k = "page"
      · exact absurd (.inr c4) hh
      by_cases c5 : k = "ticket"
      · exact absurd (.inr c5) hn
      rw [if_neg c1, if_neg c2, if_neg c3, if_neg c4, if_neg c5] at h
      cases h
    subst hf
    unfold isTermK at h
    rw [show formsOf "challenge" = some (["text", "number"] : List Str) by decide +kernel] at h
    simp only [Bool.and_eq_true, decide_eq_true_eq] at h
    obtain ⟨hl, ha⟩ := h
    match ds, hl with
    | [a, b], _ =>
      simp only [List.zip_cons_cons, List.zip_nil_right, List.all_cons, List.all_nil, Bool.and_true, Bool.and_eq_true, partOk] at ha
      have h1 : isS a = true := by have := ha.1.2; unfold hasF at this; simpa using this
      have h2 : isI b = true := by
        have := ha.2.2
        have n1 : ¬ (("number" : Str) = "text") := by decide +kernel
        unfold hasF at this; rw [if_neg n1] at this; simpa using this
      cases a <;> first | (simp [isS] at h1; done) | skip
      cases b <;> first | (simp [isI] at h2; done) | rfl
theorem PartOk.term {k : Str} {ds : List D} (h : PartOk (.atom k ds)) : PartOk (.tup ds) := by
  have w := h.w
  have r := h.r
  have z := h.z
  simp only [wrd, Bool.and_eq_true] at w
  simp only [rkk, Bool.and_eq_true] at r
  simp only [sz] at z
  exact ⟨by simpa [wrd] using w.1, by simpa [rkk] using r.2, by simpa [txl] using h.t, by simp only [sz]; omega⟩
def spLS (C : Addr) (n : Nat) : Sp := fun vs H Q _ => ∃ x d, vs = [x] ∧ Is C H x d ∧ full d < n ∧ PartOk d ∧ ∀ H' v, Same H H' → Is C H' v (stripD d) → Q v H'
section
variable {P : Program} {w : World} {K : PySem.W.Frag} {mg : Str → Option Value} {base : Heap} {f : Addr} {fd : FuncData} {C : Addr}
abbrev s__law_stripped : Stmt := top 43
theorem sc__law_stripped : FnScope ["word", "part"] ["word"] (C8.fnScope s__law_stripped) := C8.fnScope_by (by decide +kernel)
theorem ok__law_stripped (F : C8.Def K mg "_law_stripped" s__law_stripped f fd) (b : Binds K fd ["word"] []) (T : Txt K mg w C) (k_Atom : C8.Mak P w K mg base 5 "Atom" C (spInit C) []) : ∀ n, C8.Cal P w K mg base (n + 7) "_law_stripped" (spLS C n) [] := by
  intro n
  induction n with
  | zero =>
    refine C8.cal0 F b .nil sc__law_stripped (fun vs H Q E h => ?_) (fun cdv A outer s H vs Q E hr h => ?_)
    · obtain ⟨x, d, _, _, h, _⟩ := h; omega
    · obtain ⟨x, d, _, _, h, _⟩ := h; omega
  | succ n ih =>
    have c__law_stripped := ih
    refine C8.cal0 F b .nil sc__law_stripped (fun vs H Q E h => ?_) (fun cdv A outer s H vs Q E hr h => ?_)
    · obtain ⟨x, d, rfl, _⟩ := h; rfl
    obtain ⟨x, d, rfl, hx, hf, hp, q⟩ := h
    refine ⟨_, (pss_cons (ps_if (pt_val (pe_callB (call_isiA T.cl) rfl T.z_isinstance bt_isinstance (pa_cons (pv 0) (pa_cons (pe_glob (v := .ref C) rfl T.g_Atom rfl) pa_nil)))) (pss_cons (ps_if (pt_cmpR op_in_seq (pe_fld (pv 0) rfl) (pe_lst (pa_cons pe_str (pa_cons pe_str pa_nil))) (by with_unfolding_all rfl)) (pss_one (ps_ret (C8.pe_mk k_Atom hr (by first | decide | omega) rfl (pa_cons (pe_fld (pv 0) rfl) (pa_cons (pe_tup (pa_cons (pe_ix ix_tup (pe_fld (pv 0) rfl) pe_int (fun _ _ => rfl)) (pa_cons (pe_ix ix_tup (pe_fld (pv 0) rfl) pe_int (fun _ _ => rfl)) (pa_cons (pe_ix ix_tup (pe_fld (pv 0) rfl) pe_int (fun _ _ => rfl)) (pa_cons pe_non pa_nil))))) pa_nil))))) pss_nil)
      (pss_one (ps_ret (C8.pe_mk k_Atom hr (by first | decide | omega) rfl (pa_cons (pe_fld (pv 0) rfl) (pa_cons (C8.pe_c c__law_stripped hr (Nat.le_refl _) rfl (pa_cons (pe_fld (pv 0) rfl) pa_nil)) pa_nil)))))) pss_nil)
      (pss_cons (ps_if (pt_val (pe_callB (call_isiA T.cl) rfl T.z_isinstance bt_isinstance (pa_cons (pv 0) (pa_cons (pe_bltn (v := .ty "tuple") rfl T.z_tuple bt_tuple rfl) pa_nil)))) (pss_one (ps_ret (pe_callTy call_tuple_of rfl T.z_tuple bt_tuple (pa_cons (pe_lc (own := [("part", 1)]) (g := gName 1) rfl sc__law_stripped.nd (pi_tup (pv 0)) (blkOk_by (own := [("part", 1)]) (N := ["word", "part"]) (sc := C8.fnScope s__law_stripped) (by decide +kernel)) (fun _ _ _ _ _ => (pg_name (i := 1) sc__law_stripped.nd rfl (Or.inl rfl))) (fun _ _ _ _ _ => pts_nil) (fun _ _ _ _ _ => (C8.pe_c c__law_stripped hr (Nat.le_refl _) rfl (pa_cons (pv 1) pa_nil)))) pa_nil)))) pss_nil)
      (pss_one (ps_ret (pv 0))))), ?_⟩
    refine ⟨_, rfl, x, _, _, _, _, rfl, hx, .own C, kitA T d, _, rfl, ?_⟩
    cases hA : isAt d with
    | true =>
      obtain ⟨k, ds, rfl⟩ : ∃ k ds, d = .atom k ds := by cases d <;> first | exact ⟨_, _, rfl⟩ | (simp [isAt] at hA; done)
      have w1 : wrdL ds = true ∧ isTermK k ds = true := by simpa [wrd] using hp.w
      have r1 : rank (.atom k ds) ≤ mostR k ∧ rkkL ds = true := by simpa [rkk] using hp.r
      have hz := hp.z
      simp only [sz] at hz
      cases hx with
      | @atom a dx t _ xs _ svu1 u1 v1 i1 gmu1 =>
      refine iteT ⟨_, rfl, a, C, dx, _, _, rfl, u1, T.cl.cl, T.cl.nK, rfl, (by show 2 ≤ sizeLine; decide), fun m hm => ?_⟩
      have s1 := same_new (o := .lst [.str "seal", .str "page"]) hm
      refine ⟨m, _, rfl, .inl (SqL.of upd_same), rfl, rfl, _, rfl, ?_⟩
      show (if (inV (.str k) [.str "seal", .str "page"]) = true then _ else _)
      rw [inVab]
      have u2 := s1 _ _ u1
      have v2 := s1 _ _ v1
      have i2 := i1.same s1
      by_cases c : k = "seal" ∨ k = "page"
      · have hk : hid k = true := by unfold hid; exact decide_eq_true c
        refine bT (by simpa using c) ?_
        obtain ⟨a1, b1, c1, e1, rfl, hterm⟩ := hid_term hk w1.2
        cases i2 with
        | @cons xa _ _ _ ia i2 => cases i2 with
        | @cons xb _ _ _ ib i2 => cases i2 with
        | @cons xc _ _ _ ic i2 => cases i2 with
        | @cons xe _ _ _ ie i2 =>
        cases i2
        refine ⟨_, rfl, a, C, dx, _, _, rfl, u2, T.cl.cl, T.cl.nK, rfl, ?_⟩
        refine ⟨_, rfl, a, C, dx, _, _, rfl, u2, T.cl.cl, T.cl.nT, rfl, t, [xa, xb, xc, xe], 0, xa, rfl, rfl, SqT.of v2, rfl, ?_⟩
        refine ⟨_, rfl, a, C, dx, _, _, rfl, u2, T.cl.cl, T.cl.nT, rfl, t, [xa, xb, xc, xe], 1, xb, rfl, rfl, SqT.of v2, rfl, ?_⟩
        refine ⟨_, rfl, a, C, dx, _, _, rfl, u2, T.cl.cl, T.cl.nT, rfl, t, [xa, xb, xc, xe], 2, xc, rfl, rfl, SqT.of v2, rfl, ?_⟩
        refine ⟨(by show 4 ≤ sizeLine; decide), fun r hr' => ?_⟩
        have s4 := same_new (o := .tup [xa, xb, xc, .non]) hr'
        intro y dy hy hdy hney
        have hrk : rank (.atom k [a1, b1, c1, .non]) ≤ mostR k := by
          rw [rank_hid hk]
          unfold mostR
          split <;> omega
        have hfit : Fit (.tup [a1, b1, c1, .non]) := by
          have z2 := hp.t
          have he := sz_pos e1
          simp only [szL] at hz
          refine ⟨by simp only [sz, szL]; omega, ?_⟩
          simp only [txl, txlL] at z2 ⊢
          exact ⟨z2.1, z2.2.1, z2.2.2.1, trivial, trivial⟩
        refine made3 (ds := [a1, b1, c1, .non]) upd_same (.cons (ia.same s4) (.cons (ib.same s4) (.cons (ic.same s4) (.cons .non .nil)))) hterm hrk hfit hy hdy hney fun H6 s6 ix6 => ⟨rfl, q H6 _ ((s1.trans s4).trans s6) ?_⟩
        have e : stripD (.atom k [a1, b1, c1, e1]) = .atom k [a1, b1, c1, .non] := by
          simp only [stripD]; rw [if_neg (hid_tt hk)]; simp [wo, hk]
        rw [e]; exact ix6
      · have hk : hid k = false := by unfold hid; exact decide_eq_false c
        refine bF (by simpa using c) ?_
        refine ⟨_, rfl, a, C, dx, _, _, rfl, u2, T.cl.cl, T.cl.nK, rfl, ?_⟩
        refine ⟨_, rfl, a, C, dx, _, _, rfl, u2, T.cl.cl, T.cl.nT, rfl, .ref t, .tup ds, rfl, .tup v2 i2, by simp only [full] at hf ⊢; omega, hp.term, fun H2 v s2 iv => ?_⟩
        have es : stripD (.tup ds) = .tup (stripL ds) := rfl
        rw [es] at iv
        cases iv with
        | @tup t2 ys _ h2 j2 =>
        intro y dy hy hdy hney
        have hrs := rank_strip (.atom k ds)
        have e := strip_nohid hk w1.2
        rw [e] at hrs
        have zs := (wrdL_strip ds w1.1).2
        have hfit : Fit (.tup (stripL ds)) := ⟨by simp only [sz]; omega, by simp only [txl]; exact txlL_strip ds (by simpa [txl] using hp.t)⟩
        refine made3 h2 j2 (term_strip w1.2) (by omega) hfit hy hdy hney fun H6 s6 ix6 => ⟨rfl, q H6 _ ((s1.trans s2).trans s6) ?_⟩
        rw [e]; exact ix6
    | false =>
      refine iteF ⟨_, rfl, x, _, _, _, _, rfl, hx, .ty _, kitTu T d, _, rfl, ?_⟩
      cases hT : isTu d with
      | false =>
        have e : stripD d = d := by cases d <;> first | rfl | (simp [isAt] at hA; done) | (simp [isTu] at hT; done)
        refine iteF ⟨_, rfl, q H x (Same.refl H) ?_⟩
        rw [e]; exact hx
      | true =>
        obtain ⟨ds, rfl⟩ : ∃ ds, d = .tup ds := by cases d <;> first | exact ⟨_, rfl⟩ | (simp [isTu] at hT; done)
        cases hx with
        | @tup a xs _ ha ia =>
        have hlen := ia.len
        have hdl := len_szL ds
        have hz := hp.z
        simp only [sz] at hz
        simp only [full] at hf
        have wds : wrdL ds = true := by simpa [wrd] using hp.w
        refine iteT ⟨_, rfl, a, rfl, ⟨xs, SqT.of ha⟩, fun Dl hDl => ?_⟩
        refine lc_it (walk_tup (xs := xs)) (fun i H' => Same H H' ∧ ∃ acc, H' Dl = some (.lst acc) ∧ IsA C H' acc ((stripL ds).take i)) ⟨same_new hDl, [], upd_same, .nil⟩ (fun i H' _ h => SqT.of (h.1 _ _ ha)) ?_ ?_
        · rintro i y H1 H2 hi' ⟨s1, acc, hl', iacc⟩ ⟨rfl, hy⟩
          obtain ⟨e, he, hye⟩ := ia.at hy
          have me := List.mem_of_getElem? he
          have f1 := fullL_mem me
          have hse : (stripL ds)[i]? = some (stripD e) := by
            have key : ∀ (l : List D) (j : Nat) (e : D), l[j]? = some e → (stripL l)[j]? = some (stripD e) := fun l => by
              induction l with
              | nil => intro j e h; simp at h
              | cons z l ih =>
                intro j e h
                cases j with
                | zero => simp at h; subst h; rfl
                | succ j => simp only [stripL, List.getElem?_cons_succ]; exact ih j e (by simpa using h)
            exact key ds i e he
          refine ⟨rfl, yes ?_⟩
          have hla := iacc.len
          rw [List.length_take, stripL_len] at hla
          have pe := hp.inn (ds := ds) rfl me
          have wse := (wrd_strip e pe.w).1
          refine ⟨_, rfl, y, e, rfl, hye.same s1, by omega, pe, fun H3 v s3 iv => ⟨acc, s3 _ _ hl', Nat.lt_of_lt_of_le (show acc.length < 1000001 by omega) (by decide), same_put (s1.trans s3) hDl, acc ++ [v], upd_same, ?_⟩⟩
          rw [List.take_add_one, hse]
          have kq : Keep C H3 (upd H3 Dl (.lst (acc ++ [v]))) := Keep.lst (s3 _ _ hl')
          have wt : wrdL ((stripL ds).take i) = true := wrdL_iff.mpr fun z hz' => wrdL_mem (wrdL_strip ds wds).1 (List.mem_of_mem_take hz')
          exact (IsA.keep kq (wrdL_cln wt) (iacc.same s3)).app (.cons (Is.keep kq (wrd_cln wse) iv) .nil)
        · rintro H1 ⟨s1, acc, hl', iacc⟩
          rw [List.take_of_length_le (by rw [stripL_len]; omega)] at iacc
          refine ⟨Dl, acc, rfl, .inl ⟨SqL.of hl', fun t ht => q _ _ (s1.trans (same_new ht)) (new_tup ht iacc)⟩⟩
end
end Hc

namespace Hc
open PySem PySem.Spec PyProof.Rows L2 Hr PySem.SeqAt
variable [Memo]
section
variable {X : Cx} {C : Addr}
/-- == of two words without atoms, not both tuples -/
def rEqS (C : Addr) : R2 := fun x y H Q => ∃ d e, Is C H x d ∧ Is C H y e ∧ wrd d = true ∧ wrd e = true ∧ (isTu d && isTu e) = false ∧ isAt d = false ∧ isAt e = false ∧ Q (.bl (eqD d e)) H
theorem op_eqS (hu : X.A.units < cLine) : OpR X (compareOp .Eq) (rEqS C) := by
  intro pins s σ H x y v u Q I rx ry h
  obtain ⟨d, e, hx, hy, wd, we, ht, a1, a2, q⟩ := h
  have fin : ∀ b, b = eqD d e → EP X pins σ Q (.bool b) s := fun b hb => by rw [hb]; exact ⟨.bl _, H, I, rfl, q⟩
  have flat : scal x y = true → decide (x = y) = eqD d e → wpAny (model X.prog X.w) X.A (compareOp .Eq v u) (EP X pins σ Q) X.xe s := fun hs he => op_eq pins s σ H x y v u Q I rx ry ⟨hs, by rw [he]; exact q⟩
  have tups : ∀ {a : Addr} {xs : List V}, H a = some (.tup xs) → ∃ its : Array Value, s.heap.IsTuple a its := fun h => by
    obtain ⟨its, r, e, z⟩ := I.tuple (SqT.of h)
    exact ⟨_, e⟩
  cases hx with
  | bl b => cases wd
  | lst _ _ => cases wd
  | dct _ => cases wd
  | atom _ _ _ => cases a1
  | non =>
    cases hy with
    | bl b => cases we
    | lst _ _ => cases we
    | dct _ => cases we
    | atom _ _ _ => cases a2
    | non => exact flat rfl (by simp [eqD])
    | int j => exact flat rfl (by simp [eqD])
    | str z => exact flat rfl (by simp [eqD])
    | tup h2 i2 => cases rx; cases ry; obtain ⟨its, hi⟩ := tups h2; exact RcAt.none_tuple hi hu _ _ _ _ (fin _ rfl)
  | int i =>
    cases hy with
    | bl b => cases we
    | lst _ _ => cases we
    | dct _ => cases we
    | atom _ _ _ => cases a2
    | non => exact flat rfl (by simp [eqD])
    | int j => exact flat rfl (by simp [eqD])
    | str z => exact flat rfl (by simp [eqD])
    | tup h2 i2 => obtain ⟨t, rfl⟩ := rx; cases ry; obtain ⟨its, hi⟩ := tups h2; exact RcAt.int_tuple i t hi hu _ _ _ _ (fin _ rfl)
  | str z0 =>
    cases hy with
    | bl b => cases we
    | lst _ _ => cases we
    | dct _ => cases we
    | atom _ _ _ => cases a2
    | non => exact flat rfl (by simp [eqD])
    | int j => exact flat rfl (by simp [eqD])
    | str z => exact flat rfl (by simp [eqD])
    | tup h2 i2 => obtain ⟨t, rfl⟩ := rx; cases ry; obtain ⟨its, hi⟩ := tups h2; exact RcAt.str_tuple z0 t hi hu _ _ _ _ (fin _ rfl)
  | tup h1 i1 =>
    cases rx
    obtain ⟨its, hi⟩ := tups h1
    cases hy with
    | bl b => cases we
    | lst _ _ => cases we
    | dct _ => cases we
    | atom _ _ _ => cases a2
    | non => cases ry; exact RcAt.tuple_none hi hu _ _ _ _ (fin _ rfl)
    | int j => obtain ⟨t, rfl⟩ := ry; exact RcAt.tuple_int j t hi hu _ _ _ _ (fin _ rfl)
    | str z => obtain ⟨t, rfl⟩ := ry; exact RcAt.tuple_str z t hi hu _ _ _ _ (fin _ rfl)
    | tup _ _ => cases ht
end
theorem or2 {t u : TT} {σ : L2.St} {H : Hp} {Q : Bool → Hp → Prop} {b1 b2 : Bool} (h1 : ∀ k : Bool → Hp → Prop, k b1 H → t σ H k) (h2 : ∀ k : Bool → Hp → Prop, k b2 H → u σ H k) (q : Q (b1 || b2) H) : tOr t u σ H Q := by
  refine h1 _ ?_
  cases b1 with
  | true => exact iteT q
  | false => exact iteF (h2 _ q)
theorem and2 {t u : TT} {σ : L2.St} {H : Hp} {Q : Bool → Hp → Prop} {b1 b2 : Bool} (h1 : ∀ k : Bool → Hp → Prop, k b1 H → t σ H k) (h2 : ∀ k : Bool → Hp → Prop, k b2 H → u σ H k) (q : Q (b1 && b2) H) : tAnd t u σ H Q := by
  refine h1 _ ?_
  cases b1 with
  | true => exact iteT (h2 _ q)
  | false => exact iteF q
theorem eqL_idx : ∀ {ds es : List D}, ds.length = es.length → (eqL ds es = true ↔ ∀ (i : Nat) (d e : D), ds[i]? = some d → es[i]? = some e → eqD d e = true)
  | [], [], _ => by simp [eqL]
  | d :: ds, e :: es, h => by
    simp only [eqL, Bool.and_eq_true]
    rw [eqL_idx (by simpa using h)]
    constructor
    · rintro ⟨h1, h2⟩ i d' e' hd he
      cases i with
      | zero => simp at hd he; subst hd; subst he; exact h1
      | succ i => exact h2 i d' e' (by simpa using hd) (by simpa using he)
    · intro hh
      exact ⟨hh 0 d e rfl rfl, fun i d' e' hd he => hh (i + 1) d' e' (by simpa using hd) (by simpa using he)⟩
  | [], _ :: _, h => by simp at h
  | _ :: _, [], h => by simp at h
def spLSame (C : Addr) (n : Nat) : Sp := fun vs H Q _ => ∃ x y d e, vs = [x, y] ∧ Is C H x d ∧ Is C H y e ∧ full d < n ∧ wrd d = true ∧ wrd e = true ∧ sz d ≤ 1000000 ∧ ∀ H', Same H H' → Q (.bl (eqD d e)) H'
section
variable {P : Program} {w : World} {K : PySem.W.Frag} {mg : Str → Option Value} {base : Heap} {f : Addr} {fd : FuncData} {C : Addr}
abbrev s__law_same : Stmt := top 41
theorem sc__law_same : FnScope ["one", "other", "k"] ["one", "other"] (C8.fnScope s__law_same) := C8.fnScope_by (by decide +kernel)
theorem ok__law_same (F : C8.Def K mg "_law_same" s__law_same f fd) (b : Binds K fd ["one", "other"] []) (T : Txt K mg w C) : ∀ n, C8.Cal P w K mg base (n + 1) "_law_same" (spLSame C n) [] := by
  intro n
  induction n with
  | zero =>
    refine C8.cal0 F b .nil sc__law_same (fun vs H Q E h => ?_) (fun cdv A outer s H vs Q E hr h => ?_)
    · obtain ⟨x, y, d, e, _, _, _, h, _⟩ := h; omega
    · obtain ⟨x, y, d, e, _, _, _, h, _⟩ := h; omega
  | succ n ih =>
    have c__law_same := ih
    refine C8.cal0 F b .nil sc__law_same (fun vs H Q E h => ?_) (fun cdv A outer s H vs Q E hr h => ?_)
    · obtain ⟨x, y, d, e, rfl, _⟩ := h; rfl
    obtain ⟨x, y, d, e, rfl, hx, hy, hf, wd, we, hz, q⟩ := h
    have hu := hr.units0
    refine ⟨_, (pss_cons (ps_if (PW.pt (pw_or (pt_val (pe_callB (call_isiA T.cl) rfl T.z_isinstance bt_isinstance (pa_cons (pv 0) (pa_cons (pe_glob (v := .ref C) rfl T.g_Atom rfl) pa_nil)))) (pw_or1 (pt_val (pe_callB (call_isiA T.cl) rfl T.z_isinstance bt_isinstance (pa_cons (pv 1) (pa_cons (pe_glob (v := .ref C) rfl T.g_Atom rfl) pa_nil))))))) (pss_cons (ps_if (PW.pt (pw_or (pt_not (pt_val (pe_callB (call_isiA T.cl) rfl T.z_isinstance bt_isinstance (pa_cons (pv 0) (pa_cons (pe_glob (v := .ref C) rfl T.g_Atom rfl) pa_nil))))) (pw_or1 (pt_not (pt_val (pe_callB (call_isiA T.cl) rfl T.z_isinstance bt_isinstance (pa_cons (pv 1) (pa_cons (pe_glob (v := .ref C) rfl T.g_Atom rfl) pa_nil)))))))) (pss_one (ps_ret pe_bl)) pss_nil)
      (pss_one (ps_ret (pe_and (pe_cmpR op_eq (pe_fld (pv 0) rfl) (pe_fld (pv 1) rfl) (nomark _)) (pe_one (C8.pe_c c__law_same hr (Nat.le_refl _) rfl (pa_cons (pe_fld (pv 0) rfl) (pa_cons (pe_fld (pv 1) rfl) pa_nil)))))))) pss_nil)
      (pss_cons (ps_if (PW.pt (pw_and (pt_val (pe_callB (call_isiA T.cl) rfl T.z_isinstance bt_isinstance (pa_cons (pv 0) (pa_cons (pe_bltn (v := .ty "tuple") rfl T.z_tuple bt_tuple rfl) pa_nil)))) (pw_and1 (pt_val (pe_callB (call_isiA T.cl) rfl T.z_isinstance bt_isinstance (pa_cons (pv 1) (pa_cons (pe_bltn (v := .ty "tuple") rfl T.z_tuple bt_tuple rfl) pa_nil))))))) (pss_cons (ps_if (pt_cmpR op_ne (pe_callB call_lenS rfl T.z_len bt_len (pa_cons (pv 0) pa_nil)) (pe_callB call_lenS rfl T.z_len bt_len (pa_cons (pv 1) pa_nil)) (nomark _)) (pss_one (ps_ret pe_bl)) pss_nil)
      (pss_one (ps_ret (pe_cmpR op_eq (pe_callB call_lenS rfl T.z_len bt_len (pa_cons (pe_lc (own := [("k", 2)]) (tt := tNot (tB (tCall (spLSame C n) [] C8.E0 (tCons (tOp (rIxT K) (tVar 0) (tVar 2)) (tCons (tOp (rIxT K) (tVar 1) (tVar 2)) tNil))))) (g := gName 2) rfl sc__law_same.nd (pi_range1 rfl T.z_range (pa_cons (pe_callB call_lenS rfl T.z_len bt_len (pa_cons (pv 0) pa_nil)) pa_nil)) (blkOk_by (own := [("k", 2)]) (N := ["one", "other", "k"]) (sc := C8.fnScope s__law_same) (by decide +kernel)) (fun _ _ _ _ _ => (pg_name (i := 2) sc__law_same.nd rfl (Or.inl rfl))) (fun _ _ _ _ _ => (pts_one (pt_not (pt_val (C8.pe_c c__law_same hr (Nat.le_refl _) rfl (pa_cons (pe_ix ix_tup (pv 0) (pv 2) (fun _ _ => rfl)) (pa_cons (pe_ix ix_tup (pv 1) (pv 2) (fun _ _ => rfl)) pa_nil))))))) (fun _ _ _ _ _ => (pv 2))) pa_nil)) pe_int (nomark _))))) pss_nil)
      (pss_one (ps_ret (pe_cmpR (op_eqS (C := C) hu) (pv 0) (pv 1) (nomark _)))))), ?_⟩
    refine or2 (b1 := isAt d) (b2 := isAt e) (fun k h => ⟨_, rfl, x, _, _, _, _, rfl, hx, .own C, kitA T d, _, rfl, h⟩) (fun k h => ⟨_, rfl, y, _, _, _, _, rfl, hy, .own C, kitA T e, _, rfl, h⟩) (bcase (fun hb => ?_) (fun hb => ?_))
    · refine or2 (b1 := !isAt d) (b2 := !isAt e) (fun k h => ⟨_, rfl, x, _, _, _, _, rfl, hx, .own C, kitA T d, _, rfl, h⟩) (fun k h => ⟨_, rfl, y, _, _, _, _, rfl, hy, .own C, kitA T e, _, rfl, h⟩) (bcase (fun hc => ?_) (fun hc => ?_))
      · have e0 : eqD d e = false := by cases d <;> cases e <;> first | rfl | (simp [isAt] at hb; done) | (simp [isAt] at hc; done)
        have q0 := q H (Same.refl H)
        rw [e0] at q0
        exact q0
      · have hA : isAt d = true ∧ isAt e = true := by simpa using hc
        obtain ⟨k, ds, rfl⟩ : ∃ k ds, d = .atom k ds := by cases d <;> first | exact ⟨_, _, rfl⟩ | (simp [isAt] at hA; done)
        obtain ⟨k', es, rfl⟩ : ∃ k ds, e = .atom k ds := by cases e <;> first | exact ⟨_, _, rfl⟩ | (simp [isAt] at hA; done)
        have w1 : wrdL ds = true ∧ isTermK k ds = true := by simpa [wrd] using wd
        have w2 : wrdL es = true ∧ isTermK k' es = true := by simpa [wrd] using we
        simp only [sz] at hz
        simp only [full] at hf
        cases hx with
        | @atom a1 dx1 t1 _ xs _ svu1 u1 v1 i1 gmu1 =>
        cases hy with
        | @atom a2 dx2 t2 _ ys _ svu2 u2 v2 i2 gmu2 =>
        refine ⟨_, rfl, a1, C, dx1, _, _, rfl, u1, T.cl.cl, T.cl.nK, rfl, _, rfl, a2, C, dx2, _, _, rfl, u2, T.cl.cl, T.cl.nK, rfl, rfl, _, rfl, ?_⟩
        by_cases ck : k = k'
        · subst ck
          refine bT (by simp) ?_
          refine ⟨_, rfl, a1, C, dx1, _, _, rfl, u1, T.cl.cl, T.cl.nT, rfl, _, rfl, a2, C, dx2, _, _, rfl, u2, T.cl.cl, T.cl.nT, rfl, ?_⟩
          refine ⟨_, _, .tup ds, .tup es, rfl, .tup v1 i1, .tup v2 i2, by simp only [full]; omega, by simpa [wrd] using w1.1, by simpa [wrd] using w2.1, by simp only [sz]; omega, fun H' s' => ?_⟩
          have e0 : eqD (.atom k ds) (.atom k es) = eqD (.tup ds) (.tup es) := by simp [eqD]
          have q1 := q H' s'
          rw [e0] at q1
          exact q1
        · refine bF (by simpa using ck) ?_
          have e0 : eqD (.atom k ds) (.atom k' es) = false := by simp [eqD, ck]
          have q0 := q H (Same.refl H)
          rw [e0] at q0
          exact q0
    · have hA : isAt d = false ∧ isAt e = false := by simpa using hb
      unfold tNext
      dsimp only
      refine and2 (b1 := isTu d) (b2 := isTu e) (fun k h => ⟨_, rfl, x, _, _, _, _, rfl, hx, .ty _, kitTu T d, _, rfl, h⟩) (fun k h => ⟨_, rfl, y, _, _, _, _, rfl, hy, .ty _, kitTu T e, _, rfl, h⟩) (bcase (fun hc => ?_) (fun hc => ?_))
      · have hT : isTu d = true ∧ isTu e = true := by simpa using hc
        obtain ⟨ds, rfl⟩ : ∃ ds, d = .tup ds := by cases d <;> first | exact ⟨_, rfl⟩ | (simp [isTu] at hT; done)
        obtain ⟨es, rfl⟩ : ∃ ds, e = .tup ds := by cases e <;> first | exact ⟨_, rfl⟩ | (simp [isTu] at hT; done)
        have wds : wrdL ds = true := by simpa [wrd] using wd
        have wes : wrdL es = true := by simpa [wrd] using we
        simp only [sz] at hz
        simp only [full] at hf
        cases hx with
        | @tup a xs _ ha ia =>
        cases hy with
        | @tup b' ys _ hb' ib =>
        have l1 := ia.len
        have l2 := ib.len
        have hdl := len_szL ds
        refine ⟨_, rfl, a, xs, rfl, .inr (SqT.of ha), _, rfl, b', ys, rfl, .inr (SqT.of hb'), rfl, _, rfl, ?_⟩
        by_cases cl : ds.length = es.length
        · refine bF (by rw [l1, l2, cl]; simp) ?_
          refine ⟨_, rfl, a, xs, rfl, .inr (SqT.of ha), _, rfl, by omega, by omega, fun Dl hDl => ?_⟩
          have hn : ((xs.length : Nat) : Int).toNat = xs.length := by omega
          refine lc_it (walk_range (lo := 0) (n := ((xs.length : Nat) : Int).toNat)) (fun i H' => Same H H' ∧ ∃ acc, H' Dl = some (.lst acc) ∧ acc.length ≤ i ∧ (acc.length = 0 ↔ ∀ j, j < i → ∀ d e, ds[j]? = some d → es[j]? = some e → eqD d e = true)) ⟨same_new hDl, [], upd_same, Nat.le_refl _, by simp⟩ (fun _ _ _ _ => trivial) ?_ ?_
          · rintro i z H1 H2 hi' ⟨s1, acc, hl', hle, hiff⟩ ⟨rfl, rfl⟩
            have hi2 : i < xs.length := by omega
            obtain ⟨dd, hd, hdx⟩ := ia.at (List.getElem?_eq_getElem hi2)
            obtain ⟨ee, he, hey⟩ := ib.at (List.getElem?_eq_getElem (show i < ys.length by omega))
            have md := List.mem_of_getElem? hd
            have f1 := fullL_mem md
            have f2 := szL_mem md
            have ax : atI xs (0 + ((i : Nat) : Int)) = some xs[i] := by rw [Int.zero_add]; exact atI_nat (List.getElem?_eq_getElem hi2)
            have ay : atI ys (0 + ((i : Nat) : Int)) = some ys[i] := by rw [Int.zero_add]; exact atI_nat (List.getElem?_eq_getElem (show i < ys.length by omega))
            refine ⟨rfl, ?_⟩
            refine ⟨_, rfl, _, rfl, a, xs, _, _, rfl, rfl, SqT.of (s1 _ _ ha), ax, ?_⟩
            refine ⟨_, rfl, _, rfl, b', ys, _, _, rfl, rfl, SqT.of (s1 _ _ hb'), ay, ?_⟩
            refine ⟨_, _, dd, ee, rfl, hdx.same s1, hey.same s1, by omega, wrdL_mem wds md, wrdL_mem wes (List.mem_of_getElem? he), by omega, fun H3 s3 => ⟨_, rfl, ?_⟩⟩
            cases hq : eqD dd ee with
            | true =>
              refine bF rfl ⟨s1.trans s3, acc, s3 _ _ hl', by omega, ?_⟩
              rw [hiff]
              constructor
              · intro hh j hj d e h1 h2
                rcases Nat.lt_succ_iff_lt_or_eq.mp hj with h | rfl
                · exact hh j h d e h1 h2
                · rw [hd] at h1; rw [he] at h2; cases h1; cases h2; exact hq
              · intro hh j hj; exact hh j (by omega)
            | false =>
              refine bT rfl ⟨_, rfl, acc, s3 _ _ hl', Nat.lt_of_lt_of_le (show acc.length < 1000001 by omega) (by decide), same_put (s1.trans s3) hDl, _, upd_same, by simp; omega, ?_⟩
              constructor
              · intro h; simp at h
              · intro hh; have := hh i (by omega) dd ee hd he; rw [hq] at this; cases this
          · rintro H1 ⟨s1, acc, hl', hle, hiff⟩
            have q1 := q H1 s1
            have eq1 : eqD (.tup ds) (.tup es) = decide (V.int ((acc.length : Nat) : Int) = V.int 0) := by
              simp only [eqD]
              have key : eqL ds es = true ↔ acc.length = 0 := by
                rw [eqL_idx cl, hiff]
                constructor
                · intro hh j _ d e h1 h2; exact hh j d e h1 h2
                · intro hh j d e h1 h2
                  have : j < ds.length := (List.getElem?_eq_some_iff.mp h1).1
                  exact hh j (by omega) d e h1 h2
              cases hE : eqL ds es with
              | true => rw [key.mp hE]; rfl
              | false =>
                symm
                refine decide_eq_false fun zz => ?_
                have h0 : acc.length = 0 := by have := V.int.inj zz; omega
                rw [key.mpr h0] at hE; cases hE
            rw [eq1] at q1
            exact ⟨Dl, acc, rfl, .inl (SqL.of hl'), rfl, q1⟩
        · refine bT (by rw [l1, l2, decide_eq_false (fun z => cl (by have := V.int.inj z; omega))]; rfl) ?_
          have e0 : eqD (.tup ds) (.tup es) = false := by simp only [eqD]; exact eqL_len cl
          have q0 := q H (Same.refl H)
          rw [e0] at q0
          exact q0
      · exact ⟨_, rfl, _, rfl, d, e, hx, hy, wd, we, hc, hA.1, hA.2, q H (Same.refl H)⟩
end
end Hc

namespace Hc
open PySem PySem.Spec PyProof.Rows L2 Hr
variable [Memo]
def spLA (C : Addr) (M n : Nat) : Sp := fun vs H Q _ => ∃ x l xs ds d, vs = [x, .ref l] ∧ H l = some (.lst xs) ∧ IsA C H xs ds ∧ Is C H x d ∧ dep d < n ∧ wrd d = true ∧ (∀ a ∈ ds ++ places d, wrd a = true ∧ full a < M ∧ sz a ≤ 1000000) ∧ ds.length + sz d ≤ 1000000 ∧
  ∀ H' ys, But l H H' → H' l = some (.lst ys) → IsA C H' ys (addAll ds (places d)) → Q (.ref l) H'
section
variable {P : Program} {w : World} {K : PySem.W.Frag} {mg : Str → Option Value} {base : Heap} {f : Addr} {fd : FuncData} {C : Addr}
abbrev s__law_atoms : Stmt := top 42
theorem sc__law_atoms : FnScope ["value", "found", "one", "part"] ["value", "found"] (C8.fnScope s__law_atoms) := C8.fnScope_by (by decide +kernel)
theorem ok__law_atoms (M : Nat) (F : C8.Def K mg "_law_atoms" s__law_atoms f fd) (b : Binds K fd ["value", "found"] []) (T : Txt K mg w C) (c__law_same : C8.Cal P w K mg base (M + 1) "_law_same" (spLSame C M) []) : ∀ n, C8.Cal P w K mg base (n + M + 2) "_law_atoms" (spLA C M n) [] := by
  intro n
  induction n with
  | zero =>
    rw [show 0 + M + 2 = (M + 1) + 1 by omega]
    refine C8.cal0 F b .nil sc__law_atoms (fun vs H Q E h => ?_) (fun cdv A outer s H vs Q E hr h => ?_)
    · obtain ⟨x, l, xs, ds, d, _, _, _, _, h, _⟩ := h; omega
    · obtain ⟨x, l, xs, ds, d, _, _, _, _, h, _⟩ := h; omega
  | succ n ih =>
    have c__law_atoms := ih
    rw [show n + 1 + M + 2 = (n + M + 2) + 1 by omega]
    refine C8.cal0 F b .nil sc__law_atoms (fun vs H Q E h => ?_) (fun cdv A outer s H vs Q E hr h => ?_)
    · obtain ⟨x, l, xs, ds, d, rfl, _⟩ := h; rfl
    obtain ⟨x, l, xs, ds, d, rfl, hl, ix, hx, hf, wd, hw, hz, q⟩ := h
    refine ⟨_, (pss_cons (ps_if (pt_val (pe_callB (call_isiA T.cl) rfl T.z_isinstance bt_isinstance (pa_cons (pv 0) (pa_cons (pe_glob (v := .ref C) rfl T.g_Atom rfl) pa_nil)))) (pss_one (ps_if (pt_cmpR op_eq (pe_callB call_lenS rfl T.z_len bt_len (pa_cons (pe_lc (own := [("one", 2)]) (g := gName 2) rfl sc__law_atoms.nd (pi_list (pv 1)) (blkOk_by (own := [("one", 2)]) (N := ["value", "found", "one", "part"]) (sc := C8.fnScope s__law_atoms) (by decide +kernel)) (fun _ _ _ _ _ => (pg_name (i := 2) sc__law_atoms.nd rfl (Or.inl rfl))) (fun _ _ _ _ _ => (pts_one (pt_val (C8.pe_c c__law_same hr (by omega) rfl (pa_cons (pv 2) (pa_cons (pv 0) pa_nil)))))) (fun _ _ _ _ _ => (pv 2))) pa_nil)) pe_int (nomark _)) (pss_one (ps_expr (pe_bm PySem.F.plainAttrs_list PySem.F.slot_list_append PySem.F.type_list_append mt_append (pv 1) (pa_cons (pv 0) pa_nil)))) pss_nil)) (pss_one (ps_if (pt_val (pe_callB (call_isiA T.cl) rfl T.z_isinstance bt_isinstance (pa_cons (pv 0) (pa_cons (pe_bltn (v := .ty "tuple") rfl T.z_tuple bt_tuple rfl) pa_nil)))) (pss_one (ps_for PassesOwn.never rfl (pi_tup (pv 0)) (pg_name (i := 3) sc__law_atoms.nd rfl (Or.inl rfl))
      (pss_one (ps_expr (C8.pe_c c__law_atoms hr (Nat.le_refl _) rfl (pa_cons (pv 3) (pa_cons (pv 1) pa_nil))))))) pss_nil)))
      (pss_one (ps_ret (pv 1)))), ?_⟩
    refine ⟨_, rfl, x, _, _, _, _, rfl, hx, .own C, kitA T d, _, rfl, ?_⟩
    have hlen := ix.len
    have hszp := sz_pos d
    cases hA : isAt d with
    | true =>
      obtain ⟨k, gs, rfl⟩ : ∃ k ds, d = .atom k ds := by cases d <;> first | exact ⟨_, _, rfl⟩ | (simp [isAt] at hA; done)
      have hpl : places (.atom k gs) = [.atom k gs] := rfl
      rw [hpl] at hw q
      refine iteT ⟨_, rfl, l, rfl, ⟨xs, SqL.of hl⟩, fun Dl hDl => ?_⟩
      refine lc_it (walk_list (xs := xs)) (fun i H' => Same H H' ∧ ∃ acc, H' Dl = some (.lst acc) ∧ acc.length ≤ i ∧ (acc.length = 0 ↔ ((ds.take i).any fun e => eqD e (.atom k gs)) = false)) ⟨same_new hDl, [], upd_same, Nat.le_refl _, by simp⟩ (fun i H' _ h => SqL.of (h.1 _ _ hl)) ?_ ?_
      · rintro i y H1 H2 hi' ⟨s1, acc, hl', hle, hiff⟩ ⟨rfl, hy⟩
        obtain ⟨e, he, hye⟩ := ix.at hy
        have we := hw e (List.mem_append_left _ (List.mem_of_getElem? he))
        have hstep : ((ds.take (i + 1)).any fun e => eqD e (.atom k gs)) = (((ds.take i).any fun e => eqD e (.atom k gs)) || eqD e (.atom k gs)) := by
          rw [List.take_add_one, he, List.any_append]; simp
        refine ⟨rfl, ?_⟩
        refine ⟨_, rfl, _, rfl, _, _, e, .atom k gs, rfl, hye.same s1, hx.same s1, we.2.1, we.1, wd, we.2.2, fun H3 s3 => ⟨_, rfl, ?_⟩⟩
        cases hq : eqD e (.atom k gs) with
        | true =>
          refine bT rfl ⟨_, rfl, acc, s3 _ _ hl', Nat.lt_of_lt_of_le (show acc.length < 1000001 by omega) (by decide), same_put (s1.trans s3) hDl, _, upd_same, by simp; omega, ?_⟩
          rw [hstep, hq]; simp
        | false =>
          refine bF rfl ⟨s1.trans s3, acc, s3 _ _ hl', by omega, ?_⟩
          rw [hstep, hq, Bool.or_false]; exact hiff
      · rintro H1 ⟨s1, acc, hl', hle, hiff⟩
        rw [List.take_of_length_le (by omega)] at hiff
        refine ⟨Dl, acc, rfl, .inl (SqL.of hl'), rfl, _, rfl, ?_⟩
        have hl1 := s1 _ _ hl
        have ix1 := ix.same s1
        have hx1 := hx.same s1
        have hadd : addAll ds [.atom k gs] = add1 ds (.atom k gs) := rfl
        have wds : wrdL ds = true := wrdL_iff.mpr fun a ha => (hw a (List.mem_append_left _ ha)).1
        cases hany : ds.any fun e => eqD e (.atom k gs) with
        | false =>
          refine bT (decide_eq_true (by rw [hiff.mpr hany]; rfl)) ?_
          refine ⟨_, rfl, .inl ⟨rfl, _, SqL.of hl1⟩, _, rfl, l, xs, x, rfl, rfl, hl1, Nat.lt_of_lt_of_le (show xs.length < 1000001 by omega) (by decide), _, rfl, q _ (xs ++ [x]) (fun b o e n => by rw [upd_ne n]; exact s1 _ _ e) upd_same ?_⟩
          rw [hadd]
          unfold add1
          rw [if_neg (by rw [hany]; exact Bool.false_ne_true)]
          have kq : Keep C H1 (upd H1 l (.lst (xs ++ [x]))) := Keep.lst hl1
          exact (IsA.keep kq (wrdL_cln wds) ix1).app (.cons (Is.keep kq (wrd_cln wd) hx1) .nil)
        | true =>
          have hne : acc.length ≠ 0 := fun z => by rw [hiff.mp z] at hany; cases hany
          refine bF (decide_eq_false fun z => hne (by have := V.int.inj z; omega)) ⟨_, rfl, q H1 xs (fun b o e _ => s1 _ _ e) hl1 ?_⟩
          rw [hadd]
          unfold add1
          rw [if_pos hany]
          exact ix1
    | false =>
      refine iteF ⟨_, rfl, x, _, _, _, _, rfl, hx, .ty _, kitTu T d, _, rfl, ?_⟩
      cases hT : isTu d with
      | false =>
        have e : places d = [] := by cases d <;> first | rfl | (simp [isAt] at hA; done) | (simp [isTu] at hT; done)
        rw [e] at q
        exact iteF ⟨_, rfl, q H xs (fun b o e _ => e) hl ix⟩
      | true =>
        obtain ⟨gs, rfl⟩ : ∃ ds, d = .tup ds := by cases d <;> first | exact ⟨_, rfl⟩ | (simp [isTu] at hT; done)
        have hpl : places (.tup gs) = placesL gs := rfl
        rw [hpl] at hw q
        simp only [sz] at hz
        simp only [dep] at hf
        have wgs : wrdL gs = true := by simpa [wrd] using wd
        have wds : wrdL ds = true := wrdL_iff.mpr fun a ha => (hw a (List.mem_append_left _ ha)).1
        cases hx with
        | @tup a ys _ ha ia =>
        have hgl := ia.len
        have hal : a ≠ l := fun z => by rw [z, hl] at ha; cases ha
        refine iteT ⟨_, rfl, a, rfl, ⟨ys, SqT.of ha⟩, for_it (walk_tup (xs := ys)) (fun i σ H1 => ∃ v3 zs, σ = [some (.ref a), some (.ref l), none, v3] ∧ But l H H1 ∧ H1 l = some (.lst zs) ∧ IsA C H1 zs (addAll ds (placesL (gs.take i)))) ⟨none, xs, rfl, fun b o e _ => e, hl, by simpa [placesL, addAll] using ix⟩ (fun i σ H1 _ h => ?_) ?_ ?_⟩
        · obtain ⟨_, _, _, b2, _⟩ := h
          exact SqT.of (b2 _ _ ha hal)
        · rintro i y σ H1 H2 hi' ⟨v3, zs, rfl, b1, hl1, iz⟩ ⟨rfl, hy⟩
          obtain ⟨g, hg, hyg⟩ := ia.at hy
          have mg := List.mem_of_getElem? hg
          have k1 : Keep C H H2 := But.keep hl b1
          have wg := wrdL_mem wgs mg
          have dg := depL_mem mg
          have hsum : szL (gs.take i) + sz g ≤ szL gs := by
            have h1 : szL gs = szL (gs.take (i + 1)) + szL (gs.drop (i + 1)) := by rw [← szL_app, List.take_append_drop]
            have h2 : szL (gs.take (i + 1)) = szL (gs.take i) + sz g := by rw [List.take_add_one, hg, szL_app]; simp [szL]
            omega
          have hal2 := addAll_len (placesL (gs.take i)) ds
          have hpl2 := placesL_len (gs.take i)
          refine ⟨_, rfl, _, rfl, y, l, zs, _, g, rfl, hl1, iz, Is.keep k1 (wrd_cln wg) hyg, by omega, wg, fun a' ha' => ?_, by omega, fun H3 zs' b3 hl3 iz3 => ?_⟩
          · rcases List.mem_append.mp ha' with h | h
            · rcases addAll_mem h with h | h
              · exact hw a' (List.mem_append_left _ h)
              · refine hw a' (List.mem_append_right _ ?_)
                have : placesL gs = placesL (gs.take i) ++ placesL (gs.drop i) := by rw [← placesL_app, List.take_append_drop]
                rw [this]; exact List.mem_append_left _ h
            · refine hw a' (List.mem_append_right _ ?_)
              have key : ∀ (l : List D), g ∈ l → a' ∈ placesL l := fun l => by
                induction l with
                | nil => intro h; cases h
                | cons z l ih =>
                  intro hm
                  simp only [placesL]
                  rcases List.mem_cons.mp hm with rfl | hm
                  · exact List.mem_append_left _ h
                  · exact List.mem_append_right _ (ih hm)
              exact key gs mg
          · refine ⟨_, zs', rfl, fun b o e n => b3 b o (b1 b o e n) n, hl3, ?_⟩
            have : placesL (gs.take (i + 1)) = placesL (gs.take i) ++ places g := by
              rw [List.take_add_one, hg, placesL_app]; simp [placesL]
            rw [this, addAll_app]
            exact iz3
        · rintro σ H1 ⟨v3, zs, rfl, b1, hl1, iz⟩
          rw [List.take_of_length_le (by omega)] at iz
          exact ⟨_, rfl, q H1 zs b1 hl1 iz⟩
end
end Hc

namespace Hc
open PySem PySem.Spec PyProof.Rows L2 Hr
variable [Memo]
theorem pmk_own0 {X : Cx} {C : Addr} {bmB : List Value} {B newId initId : String} {x : Str} {p pos : Pos} (F : ExcBaseFacts B newId initId bmB) (q : PySem.W.excIn X.K C bmB newId = true) (gC : X.mg x = some (.ref C))
    (kC : PySem.W.keepIn X.K (.ref C) = true) (r : Raises X (.ref C)) (hg : Gl X x) (hdb : (x == ("__debug__" : Str)) = false := by decide) :
    PMk X (.Call (.Name x p) [] [] pos) (fun _ H Q => Q (.ref C) none H) := by
  intro pins s σ H Q I h
  refine wpAny_Call_Name_kw (ld_glob I hg gC ?_ hdb)
  refine PySem.W.callWith_K0 I.kIn kC ?_
  obtain ⟨bm, N, nm, qn, bs, hdct, sn, sub, ab, col, dd, k0, k1, k2, k3, k5, mN, hC, hN, hni, T⟩ := exc_obj I.kIn q
  refine wpAny_call_exc_subT F T hC hN hni (fun h' e hm => ?_) (by decide)
  exact mk_of I hm r h (I.hok.gone hm.new)
/-- the class NotValid at V -/
structure NvOk (K : PySem.W.Frag) (mg : Str → Option Value) (V : Addr) (bmB : List Value) (newId : String) : Prop where
  q : PySem.W.excIn K V bmB newId = true
  g : mg "NotValid" = some (.ref V)
  k : PySem.W.keepIn K (.ref V) = true
  e : PySem.W.subIn K (.ref V) (.type "BaseException") = some true
  t : PySem.W.typeIn K (.ref V) = some (.type "type")
/-- a def that may raise -/
theorem fnX {P : Program} {w : World} {K : PySem.W.Frag} {mg : Str → Option Value} {base : Heap} {x qual : Str} {st : Stmt} {f : Addr} {fd : FuncData} {N ps : List Str} {k : Nat} {sp : Sp} (F : C8.Fun K x qual st f fd) (S : FnScope N ps (C8.fnScope st)) (len : ∀ vs H Q E, sp vs H Q E → vs.length = ps.length)
    (hbody : ∀ (cdv : Value) (A : Around) (outer : List Env) (s : Shared) (H : Hp) (vs : List V) (Q : VK) (E : XK), Room k (A.deeper (envOfC qual (C8.fnScope st) s.heap.objs.size f cdv)) → sp vs H Q E →
      ∃ t, PSs (cxOf (L2.CX P w) P w K mg base N qual (C8.fnScope st) f cdv A outer s H E) (C8.fnBody st) t ∧ t { nx := fun _ H' => Q .non H', rt := Q } (L2.start N vs) H) : FnOk P w K mg base (L2.CX P w) (k + 1) f fd ps sp := by
  obtain ⟨oc, od, dV, kV, doc, pm, an, cdv, ct, osl, rfl, lk, hcd⟩ := F.ex
  exact fn_of lk hcd S len fun A outer s H vs Q E hr hsp => hbody cdv A outer s H vs Q E hr hsp
def spInitR (C N : Addr) : Sp := fun vs H _ E => ∃ p dx xk xt dk dt, vs = [.ref p, xk, xt] ∧ H p = some (.ins C dx []) ∧ Is C H xk dk ∧ Is C H xt dt ∧ KindOk dk ∧ Fit dt ∧ (isTermD dk dt = false ∨ ∃ k ds, dk = .str k ∧ dt = .tup ds ∧ isTermK k ds = true ∧ mostR k < rank (.atom k ds)) ∧ ∀ H', Same H H' → E (.ref N) none H'
section
variable {P : Program} {w : World} {K : PySem.W.Frag} {mg : Str → Option Value} {base : Heap} {f : Addr} {fd : FuncData} {C N : Addr} {bmB : List Value} {newId : String}
theorem ok_initX {fI : Addr} {fdI : FuncData} {initId : String} (FB : ExcBaseFacts "ValueError" newId initId bmB) (nv : NvOk K mg N bmB newId) (F : C8.Fun K "__init__" "Atom.__init__" s_Atom___init__ fI fdI) (T : Txt K mg w C)
    (c__is_term : C8.Cal P w K mg base 4 "_is_term" (spTerm C) []) (c__rank_of_atom : C8.Cal P w K mg base 3 "_rank_of_atom" (spRk C) []) (c__most_rank : C8.Cal P w K mg base 1 "_most_rank" spMost []) : FnOk P w K mg base (L2.CX P w) 5 fI fdI ["self", "kind", "term"] (spInitR C N) := by
  refine fnX F sc_Atom___init__ (fun vs H Q E h => ?_) (fun cdv A outer s H vs Q E hr h => ?_)
  · obtain ⟨p, dx, xk, xt, dk, dt, rfl, _⟩ := h; rfl
  obtain ⟨p, dx, xk, xt, dk, dt, rfl, hp, hk, ht, hok, hz, hbad, q⟩ := h
  refine ⟨_, (pss_cons (ps_if (pt_not (pt_val (C8.pe_c c__is_term hr (by first | decide | omega) rfl (pa_cons (pv 1) (pa_cons (pv 2) pa_nil))))) (pss_one (ps_raise rfl (takes_of rfl rfl rfl rfl) (pmk_own0 FB nv.q nv.g nv.k (raises_own nv.e nv.t) rfl))) pss_nil)
      (pss_cons (ps_set (i := 3) sc_Atom___init__.nd rfl (Or.inl rfl) (C8.pe_c c__rank_of_atom hr (by first | decide | omega) rfl (pa_cons (pv 1) (pa_cons (pv 2) pa_nil))))
      (pss_cons (ps_if (pt_cmpR op_gt (pv 3) (C8.pe_c c__most_rank hr (by first | decide | omega) rfl (pa_cons (pv 1) pa_nil)) (nomark _)) (pss_one (ps_raise rfl (takes_of rfl rfl rfl rfl) (pmk_own0 FB nv.q nv.g nv.k (raises_own nv.e nv.t) rfl))) pss_nil)
      (pss_cons (ps_fld (pv 0) (pv 1) rfl)
      (pss_cons (ps_fld (pv 0) (pv 2) rfl)
      (pss_cons (ps_fld (pv 0) (pv 3) rfl)
      (pss_one (ps_fld (pv 0) pe_non rfl)))))))), ?_⟩
  refine ⟨_, rfl, _, rfl, _, _, dk, dt, rfl, hk, ht, hok, hz, fun H1 s1 => ⟨_, rfl, ?_⟩⟩
  rcases hbad with hb | ⟨k, ds, rfl, rfl, hterm, hrk⟩
  · refine bT (by rw [hb]; rfl) ?_
    exact q H1 s1
  · cases hk
    refine bF (by simp only [isTermD, hterm]; rfl) ?_
    have htx := ht.same s1
    obtain ⟨t, rfl⟩ : ∃ t, xt = .ref t := by cases ht; exact ⟨_, rfl⟩
    refine ⟨_, rfl, _, rfl, k, t, ds, rfl, htx, hz, fun H2 s2 => ?_⟩
    refine ⟨_, rfl, _, rfl, k, rfl, _, _, rfl, rfl, _, rfl, ?_⟩
    refine ifT (by omega) ?_
    exact q H2 (s1.trans s2)
end
end Hc

namespace Hc
open PySem PySem.Spec PyProof.Rows L2 Hr
variable [Memo]
open PyProof in
/-- s * n -/
def rSMul : R2 := fun x y H Q => ∃ s n, x = .str s ∧ y = .int n ∧ MulOk s n ∧ Q (.str (Txt.mul s n)) H
open PyProof in
theorem op_smul {X : Cx} : OpR X (binaryOp .Mult) rSMul := by
  intro pins s σ H x y v u Q I rx ry h
  obtain ⟨i, j, rfl, rfl, hz, q⟩ := h
  obtain ⟨t, rfl⟩ := rx
  obtain ⟨t', rfl⟩ := ry
  exact SB.mul hz (fun t' tk => ⟨.str (Txt.mul i j), H, I.tok _, ⟨_, rfl⟩, q⟩)
open PyProof in
theorem smul24 : MulOk "x" 24 := by unfold MulOk; decide +kernel
open PyProof in
theorem smul25 : MulOk "x" 25 := by unfold MulOk; decide +kernel
open PyProof in
theorem smul24v : Txt.mul "x" 24 = "xxxxxxxxxxxxxxxxxxxxxxxx" := by decide +kernel
open PyProof in
theorem smul25v : Txt.mul "x" 25 = "xxxxxxxxxxxxxxxxxxxxxxxxx" := by decide +kernel
end Hc

namespace Hc
open PySem PySem.Spec PyProof.Rows L2 Hr
variable [Memo]
def isLD : HO → Bool | .lst _ => true | .dK _ => true | _ => false
/-- H' without what was a list or a dict in H -/
def nw (H H' : Hp) : Hp := fun b => match H b with | some o => if isLD o = true then none else H' b | none => H' b
theorem nw_le {H H' : Hp} : Same (nw H H') H' := fun x o e => by
  unfold nw at e
  cases h : H x with
  | none => rw [h] at e; exact e
  | some u =>
    rw [h] at e
    by_cases z : isLD u = true
    · simp [z] at e
    · simpa [z] using e
theorem nw_at {H H' : Hp} {b : Addr} {o : HO} (h : H b = none) (e : H' b = some o) : nw H H' b = some o := by
  unfold nw; rw [h]; exact e
theorem nw_ld {H H' : Hp} {b : Addr} {o : HO} (h : H b = some o) (l : isLD o = true) : nw H H' b = none := by
  unfold nw; rw [h]; simp [l]
theorem nw_eq {H H' : Hp} {b : Addr} (h : ∀ o, H b = some o → isLD o = false) : nw H H' b = H' b := by
  unfold nw
  cases e : H b with
  | none => rfl
  | some o => simp [h o e]
theorem nw_bu {d c : Addr} {H H1 H2 : Hp} (hD : Dr H d c) (b : Bu2 d c H1 H2) : Same (nw H H1) (nw H H2) := fun x o e => by
  obtain ⟨⟨r, m, h1⟩, ns, _, h2⟩ := hD
  have nd : x ≠ d := fun z => by rw [z, nw_ld h1 rfl] at e; cases e
  have nc : x ≠ c := fun z => by rw [z, nw_ld h2 rfl] at e; cases e
  have e1 := nw_le _ _ e
  rw [← b _ _ e1 nd nc]
  unfold nw at e ⊢
  rw [e1] at e
  rw [b _ _ e1 nd nc]; exact e
/-- the plain values -/
def plainD : List D := [.non, .int 0, .int 1, .int (-1), .int 2147483647, .int (-2147483648), .int 2147483648, .int (-2147483649), .bl true, .bl false, .lst [.int 0], .str "1", .str "", .str "a", .str "~ z", .str "xxxxxxxxxxxxxxxxxxxxxxxx", .str "xxxxxxxxxxxxxxxxxxxxxxxxx", .str "\t", .str "\n", .lst [.non], .lst [], .lst [.int 1], .dct, .tup [], .int (10 ^ (30 : Int).toNat), .str "None", .lst [.str "a"], .dct]
theorem plain_sz : ∀ x ∈ plainD, sz x ≤ 1000 ∧ txl x := by
  simp only [plainD, List.forall_mem_cons, List.not_mem_nil, sz, szL, txl, txlL]
  refine ⟨?_, ?_, ?_, ?_, ?_, ?_, ?_, ?_, ?_, ?_, ?_, ?_, ?_, ?_, ?_, ?_, ?_, ?_, ?_, ?_, ?_, ?_, ?_, ?_, ?_, ?_, ?_, ?_, by simp⟩ <;> first | decide | (exact ⟨by decide, by decide +kernel⟩) | (exact ⟨by decide, by decide +kernel, trivial⟩)
theorem plain_flat : ∀ x ∈ plainD, full x ≤ 1 ∧ rank x = 0 := by
  simp only [plainD, List.forall_mem_cons, List.not_mem_nil, full, fullL, rank, rankL]
  refine ⟨?_, ?_, ?_, ?_, ?_, ?_, ?_, ?_, ?_, ?_, ?_, ?_, ?_, ?_, ?_, ?_, ?_, ?_, ?_, ?_, ?_, ?_, ?_, ?_, ?_, ?_, ?_, ?_, by simp⟩ <;> first | exact ⟨by decide, trivial⟩ | exact ⟨by decide, rfl⟩ | decide
def spPlain (C : Addr) : Sp := fun vs H Q _ => ∃ (d c : Addr), vs = [.ref d] ∧ Dr H d c ∧ ∀ (H' : Hp) (x : V) (dx : D), Dr H' d c → Bu2 d c H H' → Is C (nw H H') x dx → dx ∈ plainD → Q x H'
theorem newF {H0 H : Hp} {p d c : Addr} {o : HO} (hD : Dr H0 d c) (s : Same H0 H) (h : H p = none) : Same H0 (upd H p o) ∧ nw H0 (upd H p o) p = some o ∧ Same (nw H0 H) (nw H0 (upd H p o)) :=
  ⟨s.trans (same_new h), nw_at (s.free h) upd_same, nw_bu hD (Bu2.of (same_new h))⟩
section
variable {P : Program} {w : World} {K : PySem.W.Frag} {mg : Str → Option Value} {base : Heap} {f : Addr} {fd : FuncData} {C : Addr}
abbrev s__law_plain : Stmt := top 35
theorem sc__law_plain : FnScope ["draws", "rows"] ["draws"] (C8.fnScope s__law_plain) := C8.fnScope_by (by decide +kernel)
theorem ok__law_plain (F : C8.Def K mg "_law_plain" s__law_plain f fd) (b : Binds K fd ["draws"] []) (T : Txt K mg w C) (c__law_pick : C8.Cal P w K mg base 2 "_law_pick" spPick []) : C8.Cal P w K mg base 3 "_law_plain" (spPlain C) [] := by
  refine C8.cal0 F b .nil sc__law_plain (fun vs H Q E h => ?_) (fun cdv A outer s H vs Q E hr h => ?_)
  · obtain ⟨d, c, rfl, _⟩ := h; rfl
  obtain ⟨d, c, rfl, hd, q⟩ := h
  refine ⟨_, (pss_cons (ps_set (i := 1) sc__law_plain.nd rfl (Or.inl rfl) (pe_lst (pa_cons pe_non (pa_cons pe_int (pa_cons pe_int (pa_cons (pe_un un_neg pe_int) (pa_cons pe_int (pa_cons (pe_un un_neg pe_int) (pa_cons pe_int (pa_cons (pe_un un_neg pe_int) (pa_cons pe_bl (pa_cons pe_bl (pa_cons (pe_lst (pa_cons pe_int pa_nil)) (pa_cons pe_str (pa_cons pe_str (pa_cons pe_str (pa_cons pe_str pa_nil)))))))))))))))))
      (pss_cons (ps_set (i := 1) sc__law_plain.nd rfl (Or.inl rfl) (pe_op op_cat (pv 1) (pe_lst (pa_cons (pe_op op_smul pe_str pe_int) (pa_cons (pe_op op_smul pe_str pe_int) (pa_cons pe_str (pa_cons pe_str (pa_cons (pe_lst (pa_cons pe_non pa_nil)) (pa_cons (pe_lst pa_nil) (pa_cons (pe_lst (pa_cons pe_int pa_nil)) (pa_cons pe_dnewK (pa_cons (pe_tup pa_nil) (pa_cons (pe_op op_pow pe_int pe_int) (pa_cons pe_str (pa_cons (pe_lst (pa_cons pe_str pa_nil)) (pa_cons (pe_disp (pps_cons pe_int pe_int pps_nil) rfl rfl (List.cons_ne_nil _ _) (by decide)) pa_nil))))))))))))))))
      (pss_one (ps_ret (C8.pe_c c__law_pick hr (by first | decide | omega) rfl (pa_cons (pv 0) (pa_cons (pv 1) pa_nil))))))), ?_⟩
  refine ⟨_, rfl, _, rfl, _, rfl, (by show 1 ≤ sizeLine; decide), fun p1 h1 => ?_⟩
  obtain ⟨s1, f1, m1⟩ := newF (o := .lst [.int 0]) hd (fun _ _ e => e) h1
  generalize upd H p1 (.lst [.int 0]) = H1 at *
  refine ⟨(by show 15 ≤ sizeLine; decide), fun l1 h2 => ?_⟩
  obtain ⟨s2, f2, m2⟩ := newF (o := .lst [.non, .int 0, .int 1, .int (-1), .int 2147483647, .int (-2147483648), .int 2147483648, .int (-2147483649), .bl true, .bl false, .ref p1, .str "1", .str "", .str "a", .str "~ z"]) hd s1 h2
  generalize upd H1 l1 (.lst [.non, .int 0, .int 1, .int (-1), .int 2147483647, .int (-2147483648), .int 2147483648, .int (-2147483649), .bl true, .bl false, .ref p1, .str "1", .str "", .str "a", .str "~ z"]) = H2 at *
  refine ⟨_, rfl, "x", 24, rfl, rfl, smul24, "x", 25, rfl, rfl, smul25, ?_⟩
  rw [smul24v, smul25v]
  refine ⟨(by show 1 ≤ sizeLine; decide), fun p3 h3 => ?_⟩
  obtain ⟨s3, f3, m3⟩ := newF (o := .lst [.non]) hd s2 h3
  generalize upd H2 p3 (.lst [.non]) = H3 at *
  refine ⟨(by show 0 ≤ sizeLine; decide), fun p4 h4 => ?_⟩
  obtain ⟨s4, f4, m4⟩ := newF (o := .lst []) hd s3 h4
  generalize upd H3 p4 (.lst []) = H4 at *
  refine ⟨(by show 1 ≤ sizeLine; decide), fun p5 h5 => ?_⟩
  obtain ⟨s5, f5, m5⟩ := newF (o := .lst [.int 1]) hd s4 h5
  generalize upd H4 p5 (.lst [.int 1]) = H5 at *
  intro p6 h6
  obtain ⟨s6, f6, m6⟩ := newF (o := .dK []) hd s5 h6
  generalize upd H5 p6 (.dK []) = H6 at *
  refine ⟨(by show 0 ≤ sizeLine; decide), fun p7 h7 => ?_⟩
  obtain ⟨s7, f7, m7⟩ := newF (o := .tup []) hd s6 h7
  generalize upd H6 p7 (.tup []) = H7 at *
  refine ⟨10, 30, rfl, rfl, by unfold CPow; decide, ?_⟩
  refine ⟨(by show 1 ≤ sizeLine; decide), fun p8 h8 => ?_⟩
  obtain ⟨s8, f8, m8⟩ := newF (o := .lst [.str "a"]) hd s7 h8
  generalize upd H7 p8 (.lst [.str "a"]) = H8 at *
  intro p9 h9
  refine ⟨upd_same, [(.inl 1, .int 2)], rfl, by decide, ?_⟩
  rw [upd_upd, show mergeK [] [(Sum.inl 1, V.int 2)] = [(Sum.inl 1, V.int 2)] from rfl]
  obtain ⟨s9, f9, m9⟩ := newF (o := .dK [(.inl 1, .int 2)]) hd s8 h9
  generalize upd H8 p9 (.dK [(.inl 1, .int 2)]) = H9 at *
  refine ⟨(by show 13 ≤ sizeLine; decide), fun l2 ha => ?_⟩
  obtain ⟨sa, fa, ma⟩ := newF (o := .lst [.str "xxxxxxxxxxxxxxxxxxxxxxxx", .str "xxxxxxxxxxxxxxxxxxxxxxxxx", .str "\t", .str "\n", .ref p3, .ref p4, .ref p5, .ref p6, .ref p7, .int (10 ^ (30 : Int).toNat), .str "None", .ref p8, .ref p9]) hd s9 ha
  generalize upd H9 l2 (.lst [.str "xxxxxxxxxxxxxxxxxxxxxxxx", .str "xxxxxxxxxxxxxxxxxxxxxxxxx", .str "\t", .str "\n", .ref p3, .ref p4, .ref p5, .ref p6, .ref p7, .int (10 ^ (30 : Int).toNat), .str "None", .ref p8, .ref p9]) = Ha at *
  refine ⟨l1, l2, _, _, rfl, rfl, nw_le _ _ ((m3.trans (m4.trans (m5.trans (m6.trans (m7.trans (m8.trans (m9.trans ma))))))) _ _ f2), nw_le _ _ fa, (by show 28 ≤ sizeLine; decide), fun l3 hb => ?_⟩
  obtain ⟨sb, fb, mb⟩ := newF (o := .lst ([.non, .int 0, .int 1, .int (-1), .int 2147483647, .int (-2147483648), .int 2147483648, .int (-2147483649), .bl true, .bl false, .ref p1, .str "1", .str "", .str "a", .str "~ z"] ++ [.str "xxxxxxxxxxxxxxxxxxxxxxxx", .str "xxxxxxxxxxxxxxxxxxxxxxxxx", .str "\t", .str "\n", .ref p3, .ref p4, .ref p5, .ref p6, .ref p7, .int (10 ^ (30 : Int).toNat), .str "None", .ref p8, .ref p9])) hd sa hb
  generalize upd Ha l3 (.lst ([.non, .int 0, .int 1, .int (-1), .int 2147483647, .int (-2147483648), .int 2147483648, .int (-2147483649), .bl true, .bl false, .ref p1, .str "1", .str "", .str "a", .str "~ z"] ++ [.str "xxxxxxxxxxxxxxxxxxxxxxxx", .str "xxxxxxxxxxxxxxxxxxxxxxxxx", .str "\t", .str "\n", .ref p3, .ref p4, .ref p5, .ref p6, .ref p7, .int (10 ^ (30 : Int).toNat), .str "None", .ref p8, .ref p9])) = Hb at *
  have na := ma.trans mb
  have n9 := m9.trans na
  have n8 := m8.trans n9
  have n7 := m7.trans n8
  have n6 := m6.trans n7
  have n5 := m5.trans n6
  have n4 := m4.trans n5
  have n3 := m3.trans n4
  have n2 := m2.trans n3
  have hds : IsA C (nw H Hb) ([.non, .int 0, .int 1, .int (-1), .int 2147483647, .int (-2147483648), .int 2147483648, .int (-2147483649), .bl true, .bl false, .ref p1, .str "1", .str "", .str "a", .str "~ z"] ++ [.str "xxxxxxxxxxxxxxxxxxxxxxxx", .str "xxxxxxxxxxxxxxxxxxxxxxxxx", .str "\t", .str "\n", .ref p3, .ref p4, .ref p5, .ref p6, .ref p7, .int (10 ^ (30 : Int).toNat), .str "None", .ref p8, .ref p9]) plainD :=
    .cons .non (.cons (.int _) (.cons (.int _) (.cons (.int _) (.cons (.int _) (.cons (.int _) (.cons (.int _) (.cons (.int _) (.cons (.bl _) (.cons (.bl _) (.cons (.lst (n2 _ _ f1) (.cons (.int _) .nil)) (.cons (.str _) (.cons (.str _) (.cons (.str _) (.cons (.str _)
      (.cons (.str _) (.cons (.str _) (.cons (.str _) (.cons (.str _) (.cons (.lst (n4 _ _ f3) (.cons .non .nil)) (.cons (.lst (n5 _ _ f4) .nil) (.cons (.lst (n6 _ _ f5) (.cons (.int _) .nil)) (.cons (.dct (n7 _ _ f6)) (.cons (.tup (n8 _ _ f7) .nil)
      (.cons (.int _) (.cons (.str _) (.cons (.lst (n9 _ _ f8) (.cons (.str _) .nil)) (.cons (.dct (na _ _ f9)) .nil)))))))))))))))))))))))))))
  obtain ⟨_, nlc⟩ := (hd.same sa).off hb
  refine ⟨_, rfl, _, rfl, d, c, l3, _, rfl, hd.same sb, nw_le _ _ fb, nlc, by show 0 < 28; decide, by show 28 < 1000000; decide, fun H' i x hD' b' hx => ?_⟩
  obtain ⟨dx, hdx, hIs⟩ := hds.at hx
  exact q H' x dx hD' ((Bu2.of sb).trans b') (hIs.same (nw_bu hd b')) (List.mem_of_getElem? hdx)
end
end Hc

namespace Hc
open PySem PySem.Spec PyProof.Rows L2 Hr
variable [Memo]
/-- what is known of a drawn word: n bounds its rank, b its depth, z its parts -/
structure Wo (n b z : Nat) (d : D) : Prop where
  w : wrd d = true
  k : rkk d = true
  r : rank d ≤ n
  t : txl d
  z : sz d ≤ z
  ok : ∀ j, j + b ≤ 38 → okW 40 40 j d = true
structure WoL (n b z : Nat) (ds : List D) : Prop where
  w : wrdL ds = true
  k : rkkL ds = true
  r : rankL ds ≤ n
  t : txlL ds
  z : szL ds ≤ z
  ok : ∀ j, j + b ≤ 38 → okA 40 40 j ds = true
theorem Wo.up {n b z n' b' z' : Nat} {d : D} (h : Wo n b z d) (h1 : n ≤ n') (h2 : b ≤ b') (h3 : z ≤ z') : Wo n' b' z' d :=
  ⟨h.w, h.k, Nat.le_trans h.r h1, h.t, Nat.le_trans h.z h3, fun j hj => h.ok j (by omega)⟩
theorem WoL.up {n b z n' b' z' : Nat} {d : List D} (h : WoL n b z d) (h1 : n ≤ n') (h2 : b ≤ b') (h3 : z ≤ z') : WoL n' b' z' d :=
  ⟨h.w, h.k, Nat.le_trans h.r h1, h.t, Nat.le_trans h.z h3, fun j hj => h.ok j (by omega)⟩
theorem WoL.nil {n b : Nat} : WoL n b 0 [] := ⟨rfl, rfl, Nat.zero_le _, trivial, Nat.le_refl _, fun _ _ => rfl⟩
theorem WoL.cons {n b z y : Nat} {d : D} {ds : List D} (h : Wo n b z d) (q : WoL n b y ds) : WoL n b (z + y) (d :: ds) := by
  refine ⟨?_, ?_, ?_, ?_, ?_, fun j hj => ?_⟩
  · simp only [wrdL, h.w, q.w]; rfl
  · simp only [rkkL, h.k, q.k]; rfl
  · simp only [rankL]; exact Nat.max_le.mpr ⟨h.r, q.r⟩
  · simp only [txlL]; exact ⟨h.t, q.t⟩
  · simp only [szL]; have := h.z; have := q.z; omega
  · simp only [okA, h.ok j hj, q.ok j hj]; rfl
theorem WoL.all {n b z : Nat} : ∀ {ds : List D}, (∀ e ∈ ds, Wo n b z e) → WoL n b (ds.length * z) ds
  | [], _ => WoL.nil.up (Nat.le_refl _) (Nat.le_refl _) (Nat.zero_le _)
  | d :: ds, h => ((WoL.cons (h d List.mem_cons_self) (WoL.all fun e he => h e (List.mem_cons_of_mem _ he)))).up (Nat.le_refl _) (Nat.le_refl _) (by rw [List.length_cons, Nat.add_mul, Nat.one_mul]; omega)
theorem Wo.tup {n b z : Nat} {ds : List D} (h : WoL n b z ds) : Wo n (b + 1) (z + 1) (.tup ds) := by
  refine ⟨?_, ?_, ?_, ?_, ?_, fun j hj => ?_⟩
  · simp only [wrd]; exact h.w
  · simp only [rkk]; exact h.k
  · simp only [rank]; exact h.r
  · simp only [txl]; exact h.t
  · simp only [sz]; have := h.z; omega
  · simp only [okW, h.ok (j + 1) (by omega), Bool.and_true, decide_eq_true_eq]; omega
theorem Wo.non {n b : Nat} : Wo n b 1 .non := ⟨rfl, rfl, Nat.zero_le _, trivial, by simp only [sz]; omega, fun _ _ => rfl⟩
theorem Wo.int {n b : Nat} {i : Int} (h1 : -2147483648 ≤ i) (h2 : i ≤ 2147483647) : Wo n b 1 (.int i) := ⟨rfl, rfl, Nat.zero_le _, trivial, by simp only [sz]; omega, fun j _ => by
  show numOk i = true
  unfold numOk; simp [h1, h2]⟩
theorem Wo.str {n b : Nat} {s : Str} (hl : s.length ≤ 24) (h : ∀ j, okW 40 40 j (.str s) = true) : Wo n b 1 (.str s) := ⟨rfl, rfl, Nat.zero_le _, Nat.le_trans hl (by decide), by simp only [sz]; omega, fun j _ => h j⟩
theorem okA_in {j : Nat} : ∀ {ds : List D} {d : D}, okA 40 40 j ds = true → d ∈ ds → okW 40 40 j d = true
  | x :: ds, d, w, h => by
    simp only [okA, Bool.and_eq_true] at w
    rcases List.mem_cons.mp h with rfl | h
    · exact w.1
    · exact okA_in w.2 h
theorem term_of {k : Str} {fs : List Str} {ds : List D} (h : formsOf k = some fs) (hl : ds.length = fs.length) (ho : okA 40 40 0 ds = true) (hf : ∀ p ∈ ds.zip fs, hasF p.1 p.2 = true) : isTermK k ds = true := by
  unfold isTermK
  rw [h]
  simp only [hl, decide_true, Bool.true_and, List.all_eq_true]
  intro p hp
  unfold partOk
  rw [hf p hp, okA_in ho (List.of_mem_zip hp).1]; rfl
theorem fullL_all {b : Nat} : ∀ {ds : List D}, (∀ e ∈ ds, full e ≤ b) → fullL ds ≤ b
  | [], _ => Nat.zero_le _
  | d :: ds, h => by
    simp only [fullL]
    have h1 := h d List.mem_cons_self
    have h2 := fullL_all fun e he => h e (List.mem_cons_of_mem _ he)
    omega
/-- a term of a kind -/
structure Te (k : Str) (n : Nat) (ds : List D) : Prop where
  i : isTermK k ds = true
  l : WoL n 38 (120 * 5 ^ n + 20) ds
  u : fullL ds ≤ 3 * n + 2
theorem Te.atom {k : Str} {n : Nat} {ds : List D} (h : Te k n ds) (hn : n ≤ 5) : Wo (n + 1) 0 (30 * 5 ^ (n + 1)) (.atom k ds) := by
  have hr : rank (.atom k ds) ≤ n + 1 := by
    simp only [rank]; split
    · omega
    · have := h.l.r; omega
  refine ⟨?_, ?_, hr, ?_, ?_, fun j hj => ?_⟩
  · simp only [wrd, h.l.w, h.i]; rfl
  · have : rank (.atom k ds) ≤ mostR k := by unfold mostR; split <;> omega
    simp only [rkk, decide_eq_true this, h.l.k]; rfl
  · simp only [txl]; exact h.l.t
  · simp only [sz]
    have := h.l.z
    have h2 : 5 ^ (n + 1) = 5 * 5 ^ n := by rw [Nat.pow_succ, Nat.mul_comm]
    have h3 : 0 < 5 ^ n := Nat.pow_pos (by decide)
    omega
  · simp only [okW]; exact decide_eq_true (by omega)
theorem hasF_text (s : Str) : hasF (.str s) "text" = true := by unfold hasF; rw [if_pos rfl]; rfl
theorem hasF_number (i : Int) : hasF (.int i) "number" = true := by unfold hasF; rw [if_neg (by decide +kernel), if_pos rfl]; rfl
theorem hasF_tuple (ds : List D) : hasF (.tup ds) "tuple" = true := by unfold hasF; rw [if_neg (by decide +kernel), if_neg (by decide +kernel), if_pos rfl]; rfl
theorem hasF_hidN : hasF .non "hidden" = true := by unfold hasF; rw [if_neg (by decide +kernel), if_neg (by decide +kernel), if_neg (by decide +kernel), if_pos rfl]
theorem hasF_hidT {ds : List D} (h : ds.length = 4) : hasF (.tup ds) "hidden" = true := by unfold hasF; rw [if_neg (by decide +kernel), if_neg (by decide +kernel), if_neg (by decide +kernel), if_pos rfl]; exact decide_eq_true h
theorem hasF_pages {ds : List D} (h : ds.length = 8) : hasF (.tup ds) "pages" = true := by unfold hasF; rw [if_neg (by decide +kernel), if_neg (by decide +kernel), if_neg (by decide +kernel), if_neg (by decide +kernel), if_pos rfl]; exact decide_eq_true h
theorem hasF_word (d : D) : hasF d "word" = true := by unfold hasF; rw [if_neg (by decide +kernel), if_neg (by decide +kernel), if_neg (by decide +kernel), if_neg (by decide +kernel), if_neg (by decide +kernel)]
section
variable {n : Nat} {a b : Str} {i j : Int} {ms ps ns : List D} {w : D}
theorem p5 (n : Nat) : 0 < 5 ^ n := Nat.pow_pos (by decide)
theorem te_token (ha : Wo n 37 1 (.str a)) (hm : WoL n 37 (2 * (30 * 5 ^ n)) ms) (hw : Wo n 38 (30 * 5 ^ n) w) (um : fullL ms ≤ 3 * n + 1) (uw : full w ≤ 3 * n + 1) : Te "token" n [.str a, .tup ms, w] := by
  have h := p5 n
  have l := WoL.cons (ha.up (Nat.le_refl _) (show 37 ≤ 38 by decide) (Nat.le_refl _)) (WoL.cons (Wo.tup hm) (WoL.cons hw WoL.nil))
  refine ⟨term_of (fs := ["text", "tuple", "word"]) (by decide +kernel) rfl (l.ok 0 (by decide)) ?_, l.up (Nat.le_refl _) (Nat.le_refl _) (by omega), by simp only [fullL, full]; omega⟩
  intro p hp
  simp only [List.zip_cons_cons, List.zip_nil_right, List.mem_cons, List.not_mem_nil, or_false] at hp
  rcases hp with rfl | rfl | rfl
  · exact hasF_text _
  · exact hasF_tuple _
  · exact hasF_word _
theorem te_challenge (ha : Wo n 38 1 (.str a)) (hi : Wo n 38 1 (.int i)) : Te "challenge" n [.str a, .int i] := by
  have h := p5 n
  have l := WoL.cons ha (WoL.cons hi WoL.nil)
  refine ⟨term_of (fs := ["text", "number"]) (by decide +kernel) rfl (l.ok 0 (by decide)) ?_, l.up (Nat.le_refl _) (Nat.le_refl _) (by omega), by simp only [fullL, full]; omega⟩
  intro p hp
  simp only [List.zip_cons_cons, List.zip_nil_right, List.mem_cons, List.not_mem_nil, or_false] at hp
  rcases hp with rfl | rfl
  · exact hasF_text _
  · exact hasF_number _
theorem te_seal {k : Str} (hk : k = "seal" ∨ k = "page") (ha : Wo n 38 1 (.str a)) (hi : Wo n 38 1 (.int i)) (hj : Wo n 38 1 (.int j)) (hw : Wo n 38 (4 * (30 * 5 ^ n) + 1) w) (hh : w = .non ∨ ∃ ds, w = .tup ds ∧ ds.length = 4) (uw : full w ≤ 3 * n + 2) : Te k n [.str a, .int i, .int j, w] := by
  have h := p5 n
  have l := WoL.cons ha (WoL.cons hi (WoL.cons hj (WoL.cons hw WoL.nil)))
  refine ⟨term_of (fs := ["text", "number", "number", "hidden"]) (by rcases hk with rfl | rfl <;> decide +kernel) rfl (l.ok 0 (by decide)) ?_, l.up (Nat.le_refl _) (Nat.le_refl _) (by omega), by simp only [fullL, full]; omega⟩
  intro p hp
  simp only [List.zip_cons_cons, List.zip_nil_right, List.mem_cons, List.not_mem_nil, or_false] at hp
  rcases hp with rfl | rfl | rfl | rfl
  · exact hasF_text _
  · exact hasF_number _
  · exact hasF_number _
  · rcases hh with rfl | ⟨ds, rfl, hl⟩
    · exact hasF_hidN
    · exact hasF_hidT hl
theorem te_ticket (ha : Wo n 38 1 (.str a)) (hi : Wo n 38 1 (.int i)) (hb : Wo n 38 1 (.str b)) (hm : WoL n 37 (2 * (30 * 5 ^ n)) ms) (hp : WoL n 37 8 ps) (hl : ps.length = 8) (hn : WoL n 37 2 ns) (um : fullL ms ≤ 3 * n + 1) (up : fullL ps ≤ 3 * n + 1) (un : fullL ns ≤ 3 * n + 1) : Te "ticket" n [.str a, .int i, .str b, .tup ms, .tup ps, .tup ns] := by
  have h := p5 n
  have l := WoL.cons ha (WoL.cons hi (WoL.cons hb (WoL.cons (Wo.tup hm) (WoL.cons (Wo.tup hp) (WoL.cons (Wo.tup hn) WoL.nil)))))
  refine ⟨term_of (fs := ["text", "number", "text", "tuple", "pages", "tuple"]) (by decide +kernel) rfl (l.ok 0 (by decide)) ?_, l.up (Nat.le_refl _) (Nat.le_refl _) (by omega), by simp only [fullL, full]; omega⟩
  intro p hp
  simp only [List.zip_cons_cons, List.zip_nil_right, List.mem_cons, List.not_mem_nil, or_false] at hp
  rcases hp with rfl | rfl | rfl | rfl | rfl | rfl
  · exact hasF_text _
  · exact hasF_number _
  · exact hasF_text _
  · exact hasF_tuple _
  · exact hasF_pages hl
  · exact hasF_tuple _
end
end Hc

namespace Hc
open PySem PySem.Spec PyProof.Rows L2 Hr
variable [Memo]
/-- one of a fresh row is picked -/
theorem pick_new {H : Hp} {d c l : Addr} {xs : List V} {Q : VK} (hD : Dr H d c) (hl : H l = none) (h0 : 0 < xs.length) (h1 : xs.length < 1000000) (q : ∀ H' x, Dr H' d c → Bu2 d c H H' → x ∈ xs → Q x H') : spPick [.ref d, .ref l] (upd H l (.lst xs)) Q C8.E0 := by
  have s1 := same_new (o := .lst xs) hl
  exact ⟨d, c, l, xs, rfl, hD.same s1, upd_same, (hD.off hl).2, h0, h1, fun H' i x hD' b' hx => q H' x hD' ((Bu2.of s1).trans b') (List.mem_of_getElem? hx)⟩
/-- a row of drawn data -/
theorem drawn_lc {J : It} {n : Nat} {G : Hp → Prop} {Y : Nat → Hp → V → Hp → Prop} (w : Walk J n G Y) {g : TG} {tt : TT} {te : TE} {vs : List Nat} {σ : L2.St} {H2 : Hp} {Dl d c C : Addr} {Qd : Hp → Prop} {good : D → Prop} (hD : Dr H2 d c) (hDl : H2 Dl = none) (hn : n ≤ 1000) (hG : ∀ H, G H)
    (hgd : ∀ e, good e → cln e = true) (hY : ∀ i H x H', Y i H x H' → H' = H)
    (ht : ∀ i x H H3 (R : VK) (N : Hp → Prop), i < n → Y i H x H3 → Dr H3 d c → Bu2 d c H2 H3 → (∀ H5 v w, Dr H5 d c → Bu2 d c H3 H5 → Is C H5 v w → good w → R v H5) → g x (wipe σ vs) H3 fun σ2 H4 => wipe σ2 vs = wipe σ vs ∧ tt σ2 H4 fun b H5 => if b = true then te σ2 H5 R else N H5)
    (hq : ∀ H3 acc ws, Dr H3 d c → Bu2 d c H2 H3 → H3 Dl = some (.lst acc) → IsA C H3 acc ws → ws.length = n → (∀ e ∈ ws, good e) → Qd H3) :
    ∃ W : Nat → Nat → Hp → Prop, (∃ m, W 0 m (upd H2 Dl (.lst []))) ∧ ∀ i m H, W i m H →
      (J.stop i H ∧ Qd H) ∨ (J.go i H ∧ ∃ Nx : Hp → Prop, (∀ H', Nx H' → ∃ m', m' < m ∧ W (i + 1) m' H') ∧ ∀ x H', J.yld i H x H' → g x (wipe σ vs) H' fun σ2 H2 => wipe σ2 vs = wipe σ vs ∧ tt σ2 H2 fun b H3 =>
        if b = true then te σ2 H3 fun y H4 => ∃ acc, H4 Dl = some (.lst acc) ∧ acc.length < sizeLine ∧ Nx (upd H4 Dl (.lst (acc ++ [y]))) else Nx H3) := by
  have hoff := hD.off hDl
  refine lc_it w (fun i H3 => Dr H3 d c ∧ Bu2 d c H2 H3 ∧ ∃ acc ws, H3 Dl = some (.lst acc) ∧ IsA C H3 acc ws ∧ ws.length = i ∧ ∀ e ∈ ws, good e) ⟨hD.same (same_new hDl), Bu2.of (same_new hDl), [], [], upd_same, .nil, rfl, fun e he => by cases he⟩ (fun _ _ _ _ => hG _) ?_ ?_
  · rintro i x H3 H4 hi ⟨hD3, b3, acc, ws, hz, ia, hl, hw⟩ y
    have e := hY _ _ _ _ y
    subst e
    refine ht i x _ _ _ _ hi y hD3 b3 fun H5 v w' hD5 b5 iv hwd => ?_
    have hz5 := b5 _ _ hz hoff.1 hoff.2
    have hal := ia.len
    have ca : clnL ws = true := clnL_iff.mpr fun e he => hgd e (hw e he)
    have ia5 := IsA.keep (hD3.keep b5) ca ia
    refine ⟨acc, hz5, by have : (1000 : Nat) < sizeLine := by decide
                         omega, ?_, fun b o e n1 n2 => ?_, acc ++ [v], ws ++ [w'], upd_same, ?_, by simp [hl], fun e he => ?_⟩
    · obtain ⟨⟨r0, m0, f1⟩, ns, hn, f2⟩ := hD5
      exact ⟨⟨r0, m0, by rw [upd_ne hoff.1.symm]; exact f1⟩, ns, hn, by rw [upd_ne hoff.2.symm]; exact f2⟩
    · rw [upd_ne (ne_of_none e hDl)]
      exact b5 _ _ (b3 _ _ e n1 n2) n1 n2
    · exact (IsA.keep (Keep.lst hz5) ca ia5).app (.cons (Is.keep (Keep.lst hz5) (hgd _ hwd) iv) .nil)
    · rcases List.mem_append.mp he with he | he
      · exact hw e he
      · rw [List.mem_singleton.mp he]; exact hwd
  · rintro H3 ⟨hD3, b3, acc, ws, hz, ia, hl, hw⟩
    exact hq H3 acc ws hD3 b3 hz ia hl hw
end Hc

namespace Hc
open PySem PySem.Spec PyProof.Rows L2 Hr
variable [Memo]
def five (k : Str) : Prop := k = "token" ∨ k = "challenge" ∨ k = "seal" ∨ k = "ticket" ∨ k = "page"
def Wk (k : Nat) (d : D) : Prop := Wo k (k + 1) (30 * 5 ^ k) d ∧ full d ≤ 3 * k + 1
def spWd (C : Addr) (n : Nat) : Sp := fun vs H Q _ => ∃ (d c : Addr) (k : Nat), vs = [.ref d, .int (k : Nat)] ∧ k < n ∧ k ≤ 5 ∧ Dr H d c ∧ ∀ H' v w, Dr H' d c → Bu2 d c H H' → Is C H' v w → Wk k w → Q v H'
def spTm (C : Addr) (n : Nat) : Sp := fun vs H Q _ => ∃ (d c : Addr) (kd : Str) (k : Nat), vs = [.ref d, .str kd, .int (k : Nat)] ∧ five kd ∧ k < n ∧ k ≤ 5 ∧ Dr H d c ∧ ∀ H' t ds, Dr H' d c → Bu2 d c H H' → Is C H' (.ref t) (.tup ds) → Te kd k ds → Q (.ref t) H'
section
variable {P : Program} {w : World} {K : PySem.W.Frag} {mg : Str → Option Value} {base : Heap} {f : Addr} {fd : FuncData} {C : Addr}
abbrev s__law_term : Stmt := top 37
theorem sc__law_term : FnScope ["draws", "kind", "deep", "name", "number", "many", "k", "held", "pages"] ["draws", "kind", "deep"] (C8.fnScope s__law_term) := C8.fnScope_by (by decide +kernel)
theorem ok__law_term (F : C8.Def K mg "_law_term" s__law_term f fd) (b : Binds K fd ["draws", "kind", "deep"] []) (T : Txt K mg w C) (c__law_draw : C8.Cal P w K mg base 1 "_law_draw" spDraw []) (c__law_pick : C8.Cal P w K mg base 2 "_law_pick" spPick []) {m n : Nat} (hm : 5 ≤ m) (c__law_word : C8.Cal P w K mg base m "_law_word" (spWd C n) []) :
    C8.Cal P w K mg base (m + 1) "_law_term" (spTm C n) [] := by
  refine C8.cal0 F b .nil sc__law_term (fun vs H Q E h => ?_) (fun cdv A outer s H vs Q E hr h => ?_)
  · obtain ⟨d, c, kd, k, rfl, _⟩ := h; rfl
  obtain ⟨d, c, kd, k, rfl, hkd, hk, hk5, hD, q⟩ := h
  refine ⟨_, (pss_cons (ps_set (i := 3) sc__law_term.nd rfl (Or.inl rfl) (C8.pe_c c__law_pick hr (by first | decide | omega) rfl (pa_cons (pv 0) (pa_cons (pe_lst (pa_cons pe_str (pa_cons pe_str (pa_cons pe_str pa_nil)))) pa_nil))))
      (pss_cons (ps_set (i := 4) sc__law_term.nd rfl (Or.inl rfl) (C8.pe_c c__law_pick hr (by first | decide | omega) rfl (pa_cons (pv 0) (pa_cons (pe_lst (pa_cons pe_int (pa_cons pe_int (pa_cons pe_int (pa_cons (pe_un un_neg pe_int) pa_nil))))) pa_nil))))
      (pss_cons (ps_set (i := 5) sc__law_term.nd rfl (Or.inl rfl) (pe_callTy call_tuple_of rfl T.z_tuple bt_tuple (pa_cons (pe_lc (own := [("k", 6)]) (g := gName 6) rfl sc__law_term.nd (pi_range1 rfl T.z_range (pa_cons (C8.pe_c c__law_draw hr (by first | decide | omega) rfl (pa_cons (pv 0) (pa_cons pe_int pa_nil))) pa_nil)) (blkOk_by (own := [("k", 6)]) (N := ["draws", "kind", "deep", "name", "number", "many", "k", "held", "pages"]) (sc := C8.fnScope s__law_term) (by decide +kernel)) (fun _ _ _ _ _ => (pg_name (i := 6) sc__law_term.nd rfl (Or.inl rfl))) (fun _ _ _ _ _ => pts_nil) (fun _ _ _ _ _ => (C8.pe_c c__law_word hr (by first | decide | omega) rfl (pa_cons (pv 0) (pa_cons (pv 2) pa_nil))))) pa_nil)))
      (pss_cons (ps_if (pt_cmpR op_eq (pv 1) pe_str (nomark _)) (pss_one (ps_ret (pe_tup (pa_cons (pv 3) (pa_cons (pv 5) (pa_cons (C8.pe_c c__law_word hr (by first | decide | omega) rfl (pa_cons (pv 0) (pa_cons (pv 2) pa_nil))) pa_nil)))))) pss_nil)
      (pss_cons (ps_if (pt_cmpR op_eq (pv 1) pe_str (nomark _)) (pss_one (ps_ret (pe_tup (pa_cons (pv 3) (pa_cons (pv 4) pa_nil))))) pss_nil)
      (pss_cons (ps_if (pt_cmpR op_in_seq (pv 1) (pe_lst (pa_cons pe_str (pa_cons pe_str pa_nil))) (by with_unfolding_all rfl)) (pss_cons (ps_set (i := 7) sc__law_term.nd rfl (Or.inl rfl) (pe_callTy call_tuple_of rfl T.z_tuple bt_tuple (pa_cons (pe_lc (own := [("k", 6)]) (g := gName 6) rfl sc__law_term.nd (pi_range1 rfl T.z_range (pa_cons pe_int pa_nil)) (blkOk_by (own := [("k", 6)]) (N := ["draws", "kind", "deep", "name", "number", "many", "k", "held", "pages"]) (sc := C8.fnScope s__law_term) (by decide +kernel)) (fun _ _ _ _ _ => (pg_name (i := 6) sc__law_term.nd rfl (Or.inl rfl))) (fun _ _ _ _ _ => pts_nil) (fun _ _ _ _ _ => (C8.pe_c c__law_word hr (by first | decide | omega) rfl (pa_cons (pv 0) (pa_cons (pv 2) pa_nil))))) pa_nil)))
      (pss_one (ps_ret (pe_tup (pa_cons (pv 3) (pa_cons (pv 4) (pa_cons (C8.pe_c c__law_draw hr (by first | decide | omega) rfl (pa_cons (pv 0) (pa_cons pe_int pa_nil))) (pa_cons (C8.pe_c c__law_pick hr (by first | decide | omega) rfl (pa_cons (pv 0) (pa_cons (pe_lst (pa_cons pe_non (pa_cons (pv 7) (pa_cons (pv 7) (pa_cons (pv 7) pa_nil))))) pa_nil))) pa_nil)))))))) pss_nil)
      (pss_cons (ps_set (i := 8) sc__law_term.nd rfl (Or.inl rfl) (pe_callTy call_tuple_of rfl T.z_tuple bt_tuple (pa_cons (pe_lc (own := [("k", 6)]) (g := gName 6) rfl sc__law_term.nd (pi_range1 rfl T.z_range (pa_cons pe_int pa_nil)) (blkOk_by (own := [("k", 6)]) (N := ["draws", "kind", "deep", "name", "number", "many", "k", "held", "pages"]) (sc := C8.fnScope s__law_term) (by decide +kernel)) (fun _ _ _ _ _ => (pg_name (i := 6) sc__law_term.nd rfl (Or.inl rfl))) (fun _ _ _ _ _ => pts_nil) (fun _ _ _ _ _ => (C8.pe_c c__law_pick hr (by first | decide | omega) rfl (pa_cons (pv 0) (pa_cons (pe_lst (pa_cons pe_non (pa_cons pe_str (pa_cons pe_str (pa_cons pe_int pa_nil))))) pa_nil))))) pa_nil)))
      (pss_one (ps_ret (pe_tup (pa_cons (pv 3) (pa_cons (pv 4) (pa_cons (C8.pe_c c__law_pick hr (by first | decide | omega) rfl (pa_cons (pv 0) (pa_cons (pe_lst (pa_cons pe_str (pa_cons pe_str pa_nil))) pa_nil))) (pa_cons (pv 5) (pa_cons (pv 8) (pa_cons (pe_callTy call_tuple_of rfl T.z_tuple bt_tuple (pa_cons (pe_lc (own := [("k", 6)]) (g := gName 6) rfl sc__law_term.nd (pi_range1 rfl T.z_range (pa_cons (C8.pe_c c__law_draw hr (by first | decide | omega) rfl (pa_cons (pv 0) (pa_cons pe_int pa_nil))) pa_nil)) (blkOk_by (own := [("k", 6)]) (N := ["draws", "kind", "deep", "name", "number", "many", "k", "held", "pages"]) (sc := C8.fnScope s__law_term) (by decide +kernel)) (fun _ _ _ _ _ => (pg_name (i := 6) sc__law_term.nd rfl (Or.inl rfl))) (fun _ _ _ _ _ => pts_nil) (fun _ _ _ _ _ => (pe_op op_add pe_int (pv 6)))) pa_nil)) pa_nil)))))))))))))))), ?_⟩
  refine ⟨_, rfl, (by show 3 ≤ sizeLine; decide), fun l1 h1 => pick_new hD h1 (by show 0 < 3; decide) (by show 3 < 1000000; decide) fun H1 x1 hD1 b1 hx1 => ?_⟩
  obtain ⟨a, rfl, ha⟩ : ∃ a, x1 = .str a ∧ ∀ n b, Wo n b 1 (.str a) := by
    simp only [List.mem_cons, List.not_mem_nil, or_false] at hx1
    rcases hx1 with rfl | rfl | rfl <;> exact ⟨_, rfl, fun n b => Wo.str (by decide +kernel) fun j => (by show txtOk _ = true; decide +kernel)⟩
  refine ⟨_, rfl, _, rfl, (by show 4 ≤ sizeLine; decide), fun l2 h2 => pick_new hD1 h2 (by show 0 < 4; decide) (by show 4 < 1000000; decide) fun H2 x2 hD2 b2 hx2 => ?_⟩
  obtain ⟨i, rfl, hi⟩ : ∃ i, x2 = .int i ∧ ∀ n b, Wo n b 1 (.int i) := by
    simp only [List.mem_cons, List.not_mem_nil, or_false] at hx2
    rcases hx2 with rfl | rfl | rfl | rfl <;> exact ⟨_, rfl, fun n b => Wo.int (by decide) (by decide)⟩
  refine ⟨_, rfl, d, c, 3, rfl, hD2, by decide, by decide, fun H3 r hD3 b3 g0 g1 => ⟨r, rfl, by omega, by omega, fun Dl hDl => ?_⟩⟩
  refine drawn_lc (walk_range (lo := 0) (n := r.toNat)) hD3 hDl (by omega) (fun _ => trivial) (C := C) (good := Wk k) (fun e h => wrd_cln h.1.w) (fun _ _ _ _ y => y.1) (fun i x H H' R N hi y hD' b' q => ?_) (fun H4 acc ws hD4 b4 hz ia hl hw => ?_)
  · exact ⟨rfl, yes ⟨_, rfl, _, rfl, d, c, k, rfl, hk, hk5, hD', q⟩⟩
  refine ⟨Dl, acc, rfl, .inl ⟨SqL.of hz, fun t ht => ?_⟩⟩
  have hm0 : WoL k 37 (2 * (30 * 5 ^ k)) ws := (WoL.all fun e he => (hw e he).1).up (Nat.le_refl _) (by omega) (Nat.mul_le_mul_right _ (by omega))
  have s5 := same_new (o := .tup acc) ht
  have it := new_tup (C := C) ht ia
  have hD5 := hD4.same s5
  have b5 := (((b1.trans b2).trans b3).trans b4).trans (Bu2.of s5)
  generalize upd H4 t (.tup acc) = H5 at *
  have um0 : fullL ws ≤ 3 * k + 1 := fullL_all fun e he => (hw e he).2
  have cm : cln (.tup ws) = true := wrd_cln (Wo.tup hm0).w
  rcases hkd with rfl | rfl | hkd
  · refine ⟨_, rfl, rfl, _, rfl, ifT rfl ?_⟩
    refine ⟨_, rfl, _, rfl, _, rfl, _, rfl, d, c, k, rfl, hk, hk5, hD5, fun H6 v w hD6 b6 iv hw6 => ⟨(by show 3 ≤ sizeLine; decide), fun t2 ht2 => ?_⟩⟩
    have s6 := same_new (o := .tup [.str a, .ref t, v]) ht2
    refine q _ t2 _ (hD6.same s6) ((b5.trans b6).trans (Bu2.of s6)) (new_tup ht2 (.cons (.str a) (.cons (Is.keep (hD5.keep b6) cm it) (.cons iv .nil)))) (te_token (ha _ _) hm0 (Wo.up hw6.1 (Nat.le_refl _) (by omega) (Nat.le_refl _)) um0 hw6.2)
  · refine ⟨_, rfl, rfl, _, rfl, ifF (fun z => absurd (V.str.inj z) (by decide +kernel)) ?_⟩
    refine ⟨_, rfl, rfl, _, rfl, ifT rfl ?_⟩
    refine ⟨_, rfl, _, rfl, (by show 2 ≤ sizeLine; decide), fun t2 ht2 => ?_⟩
    have s6 := same_new (o := .tup [.str a, .int i]) ht2
    exact q _ t2 _ (hD5.same s6) (b5.trans (Bu2.of s6)) (new_tup ht2 (.cons (.str a) (.cons (.int i) .nil))) (te_challenge (ha _ _) (hi _ _))
  refine ⟨_, rfl, rfl, _, rfl, ifF (fun z => by rcases hkd with rfl | rfl | rfl <;> exact absurd (V.str.inj z) (by decide +kernel)) ?_⟩
  refine ⟨_, rfl, rfl, _, rfl, ifF (fun z => by rcases hkd with rfl | rfl | rfl <;> exact absurd (V.str.inj z) (by decide +kernel)) ?_⟩
  refine ⟨_, rfl, (by show 2 ≤ sizeLine; decide), fun l3 h3 => ?_⟩
  have s6 := same_new (o := .lst [.str "seal", .str "page"]) h3
  refine ⟨l3, [.str "seal", .str "page"], rfl, .inl (SqL.of upd_same), rfl, rfl, _, rfl, ?_⟩
  show (if (inV (.str kd) [.str "seal", .str "page"]) = true then _ else _)
  rw [inV2]
  have hD6 := hD5.same s6
  have b6 := b5.trans (Bu2.of s6)
  have it6 := it.same s6
  generalize upd H5 l3 (.lst [.str "seal", .str "page"]) = H6 at *
  by_cases cc : kd = "seal" ∨ kd = "page"
  · rw [if_pos (by simpa using cc)]
    refine ⟨4, rfl, by decide, by decide, fun D2 hD2' => ?_⟩
    refine drawn_lc (walk_range (lo := 0) (n := 4)) hD6 hD2' (by decide) (fun _ => trivial) (C := C) (good := Wk k) (fun e h => wrd_cln h.1.w) (fun _ _ _ _ y => y.1) (fun i x H H' R N hi y hD' b' q => ?_) (fun H7 acc2 us hD7 b7 hz2 ia2 hl2 hw2 => ?_)
    · exact ⟨rfl, yes ⟨_, rfl, _, rfl, d, c, k, rfl, hk, hk5, hD', q⟩⟩
    refine ⟨D2, acc2, rfl, .inl ⟨SqL.of hz2, fun t2 ht2 => ?_⟩⟩
    have hl4 : us.length = 4 := hl2
    have hu : Wo k 38 (4 * (30 * 5 ^ k) + 1) (.tup us) := Wo.up (Wo.tup (WoL.all fun e he => (hw2 e he).1)) (Nat.le_refl _) (by omega) (by rw [hl4]; omega)
    have uu0 : fullL us ≤ 3 * k + 1 := fullL_all fun e he => (hw2 e he).2
    have it7 := Is.keep (hD6.keep b7) cm it6
    have s8 := same_new (o := .tup acc2) ht2
    have it8 := it7.same s8
    have iu8 := new_tup (C := C) ht2 ia2
    have hD8 := hD7.same s8
    have b8 := (b6.trans b7).trans (Bu2.of s8)
    generalize upd H7 t2 (.tup acc2) = H8 at *
    refine ⟨_, rfl, _, rfl, _, rfl, d, c, 12, rfl, hD8, by decide, by decide, fun H9 r9 hD9 b9 e0 e1 => ?_⟩
    have iu9 := Is.keep (hD8.keep b9) (wrd_cln hu.w) iu8
    refine ⟨_, rfl, _, rfl, _, rfl, _, rfl, (by show 4 ≤ sizeLine; decide), fun l4 hl4' => pick_new hD9 hl4' (by show 0 < 4; decide) (by show 4 < 1000000; decide) fun Ha x hDa ba hx => ⟨(by show 4 ≤ sizeLine; decide), fun t3 ht3 => ?_⟩⟩
    have iua := Is.keep (hD9.keep ba) (wrd_cln hu.w) iu9
    obtain ⟨wd, iw, hwo, huo, hhid⟩ : ∃ wd, Is C Ha x wd ∧ Wo k 38 (4 * (30 * 5 ^ k) + 1) wd ∧ full wd ≤ 3 * k + 2 ∧ (wd = .non ∨ ∃ ds, wd = .tup ds ∧ ds.length = 4) := by
      simp only [List.mem_cons, List.not_mem_nil, or_false, or_self] at hx
      rcases hx with rfl | rfl
      · exact ⟨.non, .non, Wo.up Wo.non (Nat.le_refl _) (Nat.le_refl _) (by omega), Nat.zero_le _, .inl rfl⟩
      · exact ⟨_, iua, hu, (by simp only [full]; omega), .inr ⟨us, rfl, hl4⟩⟩
    have sb := same_new (o := .tup [.str a, .int i, .int r9, x]) ht3
    exact q _ t3 _ (hDa.same sb) (((b8.trans b9).trans ba).trans (Bu2.of sb)) (new_tup ht3 (.cons (.str a) (.cons (.int i) (.cons (.int r9) (.cons iw .nil))))) (te_seal cc (ha _ _) (hi _ _) (Wo.int (by omega) (by omega)) hwo hhid huo)
  · rw [if_neg (by simpa using cc)]
    have hkt : kd = "ticket" := by
      rcases hkd with h | h | h
      · exact absurd (.inl h) cc
      · exact h
      · exact absurd (.inr h) cc
    subst hkt
    refine ⟨8, rfl, by decide, by decide, fun D2 hD2' => ?_⟩
    refine drawn_lc (walk_range (lo := 0) (n := 8)) hD6 hD2' (by decide) (fun _ => trivial) (C := C) (good := fun e => Wo k 36 1 e ∧ full e ≤ 3 * k + 1) (fun e h => wrd_cln h.1.w) (fun _ _ _ _ y => y.1) (fun i x H H' R N hi y hD' b' q => ?_) (fun H7 acc2 us hD7 b7 hz2 ia2 hl2 hw2 => ?_)
    · refine ⟨rfl, yes ⟨_, rfl, (by show 4 ≤ sizeLine; decide), fun l hl => pick_new hD' hl (by show 0 < 4; decide) (by show 4 < 1000000; decide) fun H5 x hD5 b5 hx => ?_⟩⟩
      simp only [List.mem_cons, List.not_mem_nil, or_false] at hx
      rcases hx with rfl | rfl | rfl | rfl
      · exact q H5 _ _ hD5 b5 .non ⟨Wo.non, Nat.zero_le _⟩
      · exact q H5 _ _ hD5 b5 (.str _) ⟨Wo.str (by decide +kernel) fun j => (by show txtOk _ = true; decide +kernel), Nat.zero_le _⟩
      · exact q H5 _ _ hD5 b5 (.str _) ⟨Wo.str (by decide +kernel) fun j => (by show txtOk _ = true; decide +kernel), Nat.zero_le _⟩
      · exact q H5 _ _ hD5 b5 (.int _) ⟨Wo.int (by decide) (by decide), Nat.zero_le _⟩
    refine ⟨D2, acc2, rfl, .inl ⟨SqL.of hz2, fun t2 ht2 => ?_⟩⟩
    have hl8 : us.length = 8 := hl2
    have hu0 : WoL k 37 8 us := (WoL.all fun e he => (hw2 e he).1).up (Nat.le_refl _) (by decide) (by omega)
    have cu : cln (.tup us) = true := wrd_cln (Wo.tup hu0).w
    have uu0 : fullL us ≤ 3 * k + 1 := fullL_all fun e he => (hw2 e he).2
    have it7 := Is.keep (hD6.keep b7) cm it6
    have s8 := same_new (o := .tup acc2) ht2
    have it8 := it7.same s8
    have iu8 := new_tup (C := C) ht2 ia2
    have hD8 := hD7.same s8
    have b8 := (b6.trans b7).trans (Bu2.of s8)
    generalize upd H7 t2 (.tup acc2) = H8 at *
    refine ⟨_, rfl, _, rfl, _, rfl, (by show 2 ≤ sizeLine; decide), fun l5 hl5 => pick_new hD8 hl5 (by show 0 < 2; decide) (by show 2 < 1000000; decide) fun H9 x hD9 b9 hx => ?_⟩
    obtain ⟨a2, rfl, ha2⟩ : ∃ a, x = .str a ∧ ∀ n b, Wo n b 1 (.str a) := by
      simp only [List.mem_cons, List.not_mem_nil, or_false] at hx
      rcases hx with rfl | rfl <;> exact ⟨_, rfl, fun n b => Wo.str (by decide +kernel) fun j => (by show txtOk _ = true; decide +kernel)⟩
    have it9 := Is.keep (hD8.keep b9) cm it8
    have iu9 := Is.keep (hD8.keep b9) cu iu8
    refine ⟨_, rfl, _, rfl, _, rfl, d, c, 3, rfl, hD9, by decide, by decide, fun Ha r2 hDa ba e0 e1 => ⟨r2, rfl, by omega, by omega, fun D3 hD3' => ?_⟩⟩
    have ita := Is.keep (hD9.keep ba) cm it9
    have iua := Is.keep (hD9.keep ba) cu iu9
    refine drawn_lc (walk_range (lo := 0) (n := r2.toNat)) hDa hD3' (by omega) (fun _ => trivial) (C := C) (good := fun e => Wo k 36 1 e ∧ full e ≤ 3 * k + 1) (fun e h => wrd_cln h.1.w) (fun _ _ _ _ y => y.1) (fun i x H H' R N hi y hD' b' q => ?_) (fun Hb acc3 vs3 hDb bb hz3 ia3 hl3 hw3 => ?_)
    · obtain ⟨_, rfl⟩ := y
      have hi2 : i < 3 := by omega
      exact ⟨rfl, yes ⟨_, rfl, _, _, rfl, rfl, q H' _ (.int _) hD' Bu2.refl (.int _) ⟨Wo.int (by omega) (by omega), Nat.zero_le _⟩⟩⟩
    refine ⟨D3, acc3, rfl, .inl ⟨SqL.of hz3, fun t3 ht3 => ⟨(by show 6 ≤ sizeLine; decide), fun t4 ht4 => ?_⟩⟩⟩
    have hn0 : WoL k 37 2 vs3 := (WoL.all fun e he => (hw3 e he).1).up (Nat.le_refl _) (by decide) (by omega)
    have cn : cln (.tup vs3) = true := wrd_cln (Wo.tup hn0).w
    have itb := Is.keep (hDa.keep bb) cm ita
    have iub := Is.keep (hDa.keep bb) cu iua
    have sc := same_new (o := .tup acc3) ht3
    have inc := new_tup (C := C) ht3 ia3
    have sd := same_new (o := .tup [.str a, .int i, .str a2, .ref t, .ref t2, .ref t3]) ht4
    exact q _ t4 _ ((hDb.same sc).same sd) ((((b8.trans b9).trans ba).trans bb).trans (Bu2.of (sc.trans sd)))
      (new_tup ht4 (.cons (.str a) (.cons (.int i) (.cons (.str a2) (.cons (itb.same sc) (.cons (iub.same sc) (.cons inc .nil))))))) (te_ticket (ha _ _) (hi _ _) (ha2 _ _) hm0 hu0 hl8 hn0 um0 uu0 (fullL_all fun e he => (hw3 e he).2))
end
end Hc

namespace Hc
open PySem PySem.Spec PyProof.Rows L2 Hr
variable [Memo]
def spAt (C : Addr) (n : Nat) : Sp := fun vs H Q _ => ∃ (d c : Addr) (k : Nat), vs = [.ref d, .int (k : Nat)] ∧ k < n ∧ k ≤ 4 ∧ Dr H d c ∧ ∀ H' v kd ds, Dr H' d c → Bu2 d c H H' → Is C H' v (.atom kd ds) → Te kd k ds → Q v H'
section
variable {P : Program} {w : World} {K : PySem.W.Frag} {mg : Str → Option Value} {base : Heap} {f : Addr} {fd : FuncData} {C : Addr}
abbrev s__law_atom : Stmt := top 38
theorem sc__law_atom : FnScope ["draws", "deep", "kind"] ["draws", "deep"] (C8.fnScope s__law_atom) := C8.fnScope_by (by decide +kernel)
theorem ok__law_atom (F : C8.Def K mg "_law_atom" s__law_atom f fd) (b : Binds K fd ["draws", "deep"] []) (T : Txt K mg w C) (c__law_pick : C8.Cal P w K mg base 2 "_law_pick" spPick []) (k_Atom : C8.Mak P w K mg base 5 "Atom" C (spInit C) []) {m n : Nat} (hm : 6 ≤ m) (c__law_term : C8.Cal P w K mg base m "_law_term" (spTm C n) []) :
    C8.Cal P w K mg base (m + 1) "_law_atom" (spAt C n) [] := by
  refine C8.cal0 F b .nil sc__law_atom (fun vs H Q E h => ?_) (fun cdv A outer s H vs Q E hr h => ?_)
  · obtain ⟨d, c, k, rfl, _⟩ := h; rfl
  obtain ⟨d, c, k, rfl, hk, hk4, hD, q⟩ := h
  refine ⟨_, (pss_cons (ps_set (i := 2) sc__law_atom.nd rfl (Or.inl rfl) (C8.pe_c c__law_pick hr (by first | decide | omega) rfl (pa_cons (pv 0) (pa_cons (pe_lst (pa_cons pe_str (pa_cons pe_str (pa_cons pe_str (pa_cons pe_str (pa_cons pe_str pa_nil)))))) pa_nil))))
      (pss_one (ps_ret (C8.pe_mk k_Atom hr (by first | decide | omega) rfl (pa_cons (pv 2) (pa_cons (C8.pe_c c__law_term hr (by first | decide | omega) rfl (pa_cons (pv 0) (pa_cons (pv 2) (pa_cons (pv 1) pa_nil)))) pa_nil)))))), ?_⟩
  refine ⟨_, rfl, (by show 5 ≤ sizeLine; decide), fun l1 h1 => pick_new hD h1 (by show 0 < 5; decide) (by show 5 < 1000000; decide) fun H1 x1 hD1 b1 hx1 => ?_⟩
  obtain ⟨kd, rfl, hkd⟩ : ∃ a, x1 = .str a ∧ five a := by
    unfold five
    simp only [List.mem_cons, List.not_mem_nil, or_false] at hx1
    rcases hx1 with rfl | rfl | rfl | rfl | rfl <;> exact ⟨_, rfl, by simp⟩
  refine ⟨_, rfl, _, rfl, _, rfl, _, rfl, d, c, kd, k, rfl, hkd, hk, by omega, hD1, fun H2 t ds hD2 b2 it hte => ?_⟩
  cases it with
  | @tup _ xs _ ht ix =>
    intro x dx hx hdx hne
    have hwo := hte.atom (by omega)
    have hrk : rank (.atom kd ds) ≤ mostR kd := by
      have := hwo.k
      simp only [rkk, Bool.and_eq_true, decide_eq_true_eq] at this
      exact this.1
    have h5 : 5 ^ k ≤ 5 ^ 4 := Nat.pow_le_pow_right (by decide) hk4
    have hfit : Fit (.tup ds) := ⟨by simp only [sz]; have := hte.l.z; omega, by simp only [txl]; exact hte.l.t⟩
    exact made3 ht ix hte.i hrk hfit hx hdx hne fun H' s' ia => ⟨rfl, q H' _ kd ds (hD2.same s') ((b1.trans b2).trans (Bu2.of s')) ia hte⟩
abbrev s__law_word : Stmt := top 36
theorem sc__law_word : FnScope ["draws", "deep", "kind", "k"] ["draws", "deep"] (C8.fnScope s__law_word) := C8.fnScope_by (by decide +kernel)
theorem ok__law_word (F : C8.Def K mg "_law_word" s__law_word f fd) (b : Binds K fd ["draws", "deep"] []) (T : Txt K mg w C) (c__law_draw : C8.Cal P w K mg base 1 "_law_draw" spDraw []) (c__law_pick : C8.Cal P w K mg base 2 "_law_pick" spPick []) {m n : Nat} (hm : 3 ≤ m) (c__law_atom : C8.Cal P w K mg base m "_law_atom" (spAt C n) []) {m2 : Nat} (hm2 : m2 ≤ m) (c__law_word : C8.Cal P w K mg base m2 "_law_word" (spWd C n) []) :
    C8.Cal P w K mg base (m + 1) "_law_word" (spWd C (n + 1)) [] := by
  refine C8.cal0 F b .nil sc__law_word (fun vs H Q E h => ?_) (fun cdv A outer s H vs Q E hr h => ?_)
  · obtain ⟨d, c, k, rfl, _⟩ := h; rfl
  obtain ⟨d, c, k, rfl, hk, hk5, hD, q⟩ := h
  refine ⟨_, (pss_cons (ps_set (i := 2) sc__law_word.nd rfl (Or.inl rfl) (C8.pe_c c__law_draw hr (by first | decide | omega) rfl (pa_cons (pv 0) (pa_cons pe_int pa_nil))))
      (pss_cons (ps_if (PW.pt (pw_or (pt_cmpR op_eq (pv 1) pe_int (nomark _)) (pw_or1 (pt_cmpR op_lt (pv 2) pe_int (nomark _))))) (pss_one (ps_ret (C8.pe_c c__law_pick hr (by first | decide | omega) rfl (pa_cons (pv 0) (pa_cons (pe_lst (pa_cons pe_non (pa_cons pe_int (pa_cons pe_int (pa_cons (pe_un un_neg pe_int) (pa_cons pe_int (pa_cons pe_str (pa_cons pe_str (pa_cons (pe_op op_smul pe_str pe_int) (pa_cons (pe_tup pa_nil) pa_nil)))))))))) pa_nil))))) pss_nil)
      (pss_cons (ps_if (pt_cmpR op_eq (pv 2) pe_int (nomark _)) (pss_one (ps_ret (C8.pe_c c__law_atom hr (by first | decide | omega) rfl (pa_cons (pv 0) (pa_cons (pe_op op_sub (pv 1) pe_int) pa_nil))))) pss_nil)
      (pss_one (ps_ret (pe_callTy call_tuple_of rfl T.z_tuple bt_tuple (pa_cons (pe_lc (own := [("k", 3)]) (g := gName 3) rfl sc__law_word.nd (pi_range1 rfl T.z_range (pa_cons (C8.pe_c c__law_draw hr (by first | decide | omega) rfl (pa_cons (pv 0) (pa_cons pe_int pa_nil))) pa_nil)) (blkOk_by (own := [("k", 3)]) (N := ["draws", "deep", "kind", "k"]) (sc := C8.fnScope s__law_word) (by decide +kernel)) (fun _ _ _ _ _ => (pg_name (i := 3) sc__law_word.nd rfl (Or.inl rfl))) (fun _ _ _ _ _ => pts_nil) (fun _ _ _ _ _ => (C8.pe_c c__law_word hr (by first | decide | omega) rfl (pa_cons (pv 0) (pa_cons (pe_op op_sub (pv 1) pe_int) pa_nil))))) pa_nil))))))), ?_⟩
  refine ⟨_, rfl, d, c, 8, rfl, hD, by decide, by decide, fun H1 r hD1 b1 g0 g1 => ?_⟩
  have leafy : ∀ (σ : L2.St), σ[0]? = some (some (.ref d)) → (tRet (tCall spPick [] C8.E0 (tCons (tVar 0) (tCons (tLst (tCons (tC .non) (tCons (tC (.int 0)) (tCons (tC (.int 7)) (tCons (tUn (rU fun i => V.int (-i)) (tC (.int 2147483648))) (tCons (tC (.int 2147483647)) (tCons (tC (.str "")) (tCons (tC (.str "a b")) (tCons (tOp rSMul (tC (.str "x")) (tC (.int 24))) (tCons (tTup tNil) tNil)))))))))) tNil)))) { nx := fun _ H' => Q .non H', rt := Q } σ H1 := fun σ hσ => by
    refine ⟨_, hσ, _, rfl, "x", 24, rfl, rfl, smul24, ?_⟩
    rw [smul24v]
    refine ⟨(by show 0 ≤ sizeLine; decide), fun u hu => ⟨(by show 9 ≤ sizeLine; decide), fun l hl => ?_⟩⟩
    have s1 := same_new (o := .tup []) hu
    have iu := new_tup (C := C) hu .nil
    refine pick_new (hD1.same s1) hl (by show 0 < 9; decide) (by show 9 < 1000000; decide) fun H2 x hD2 b2 hx => ?_
    have bb := (b1.trans (Bu2.of s1)).trans b2
    have hz : 1 ≤ 30 * 5 ^ k := by have := p5 k; omega
    have up : ∀ {w}, Wo k (k + 1) 1 w → full w ≤ 1 → Wk k w := fun h u => ⟨Wo.up h (Nat.le_refl _) (Nat.le_refl _) hz, by omega⟩
    have str : ∀ z : Str, z.length ≤ 24 → txtOk z = true → Wk k (.str z) := fun z h1 h2 => up (Wo.str h1 fun j => h2) (Nat.zero_le _)
    simp only [List.mem_cons, List.not_mem_nil, or_false] at hx
    rcases hx with rfl | rfl | rfl | rfl | rfl | rfl | rfl | rfl | rfl
    · exact q _ _ _ hD2 bb .non (up Wo.non (Nat.zero_le _))
    · exact q _ _ _ hD2 bb (.int _) (up (Wo.int (by decide) (by decide)) (Nat.zero_le _))
    · exact q _ _ _ hD2 bb (.int _) (up (Wo.int (by decide) (by decide)) (Nat.zero_le _))
    · exact q _ _ _ hD2 bb (.int _) (up (Wo.int (by decide) (by decide)) (Nat.zero_le _))
    · exact q _ _ _ hD2 bb (.int _) (up (Wo.int (by decide) (by decide)) (Nat.zero_le _))
    · exact q _ _ _ hD2 bb (.str _) (str _ (by decide +kernel) (by decide +kernel))
    · exact q _ _ _ hD2 bb (.str _) (str _ (by decide +kernel) (by decide +kernel))
    · exact q _ _ _ hD2 bb (.str _) (str _ (by decide +kernel) (by decide +kernel))
    · exact q _ _ _ hD2 bb (Is.keep ((hD1.same s1).keep b2) rfl iu) (up (Wo.tup (WoL.nil (n := k) (b := k))) (by simp only [full, fullL]; omega))
  refine ⟨_, rfl, rfl, _, rfl, ?_⟩
  by_cases c1 : k = 0
  · subst c1
    exact ifT rfl (leafy _ rfl)
  refine ifF (fun z => c1 (by have := V.int.inj z; omega)) ⟨_, rfl, _, _, rfl, rfl, _, rfl, ?_⟩
  by_cases c2 : r < 3
  · exact ifT c2 (leafy _ rfl)
  refine ifF c2 ?_
  obtain ⟨k, rfl⟩ : ∃ k', k = k' + 1 := ⟨k - 1, by omega⟩
  have hp := p5 k
  have h5 : 5 ^ (k + 1) = 5 * 5 ^ k := by rw [Nat.pow_succ, Nat.mul_comm]
  refine ⟨_, rfl, rfl, _, rfl, ?_⟩
  by_cases c3 : r = 3
  · subst c3
    refine ifT rfl ⟨_, rfl, _, rfl, _, _, rfl, rfl, d, c, k, (by simp), by omega, by omega, hD1, fun H2 v kd ds hD2 b2 iv hte => ?_⟩
    exact q _ _ _ hD2 (b1.trans b2) iv ⟨Wo.up (hte.atom (by omega)) (Nat.le_refl _) (Nat.zero_le _) (Nat.le_refl _), by simp only [full]; have := hte.u; omega⟩
  refine ifF (fun z => c3 (V.int.inj z)) ⟨_, rfl, d, c, 4, rfl, hD1, by decide, by decide, fun H2 r2 hD2 b2 e0 e1 => ⟨r2, rfl, by omega, by omega, fun Dl hDl => ?_⟩⟩
  refine drawn_lc (walk_range (lo := 0) (n := r2.toNat)) hD2 hDl (by omega) (fun _ => trivial) (C := C) (good := Wk k) (fun e h => wrd_cln h.1.w) (fun _ _ _ _ y => y.1) (fun i x H H' R N hi y hD' b' q => ?_) (fun H4 acc ws hD4 b4 hz ia hl hw => ?_)
  · exact ⟨rfl, yes ⟨_, rfl, _, rfl, _, _, rfl, rfl, d, c, k, (by simp), by omega, by omega, hD', q⟩⟩
  refine ⟨Dl, acc, rfl, .inl ⟨SqL.of hz, fun t ht => ?_⟩⟩
  have s5 := same_new (o := .tup acc) ht
  have hl3 : ws.length ≤ 3 := by omega
  have hz3 : ws.length * (30 * 5 ^ k) ≤ 3 * (30 * 5 ^ k) := Nat.mul_le_mul_right _ hl3
  exact q _ _ _ (hD4.same s5) (((b1.trans b2).trans b4).trans (Bu2.of s5)) (new_tup ht ia) ⟨Wo.up (Wo.tup (WoL.all fun e he => (hw e he).1)) (by omega) (by omega) (by omega), by simp only [full]; have := fullL_all fun e he => (hw e he).2; omega⟩
/-- the words, the terms and the atoms of each depth -/
theorem ok_drawn {fT fA : Addr} {fdT fdA : FuncData} (F : C8.Def K mg "_law_word" s__law_word f fd) (b : Binds K fd ["draws", "deep"] []) (FT : C8.Def K mg "_law_term" s__law_term fT fdT) (bt : Binds K fdT ["draws", "kind", "deep"] []) (FA : C8.Def K mg "_law_atom" s__law_atom fA fdA) (ba : Binds K fdA ["draws", "deep"] [])
    (T : Txt K mg w C) (c__law_draw : C8.Cal P w K mg base 1 "_law_draw" spDraw []) (c__law_pick : C8.Cal P w K mg base 2 "_law_pick" spPick []) (k_Atom : C8.Mak P w K mg base 5 "Atom" C (spInit C) []) :
    ∀ n, C8.Cal P w K mg base (3 * n + 5) "_law_word" (spWd C n) [] ∧ C8.Cal P w K mg base (3 * n + 6) "_law_term" (spTm C n) [] ∧ C8.Cal P w K mg base (3 * n + 7) "_law_atom" (spAt C n) []
  | 0 => by
    have h : C8.Cal P w K mg base (3 * 0 + 5) "_law_word" (spWd C 0) [] := by
      refine C8.cal0 F b .nil sc__law_word (fun vs H Q E h => ?_) (fun cdv A outer s H vs Q E hr h => ?_)
      · obtain ⟨d, c, k, _, h, _⟩ := h; omega
      · obtain ⟨d, c, k, _, h, _⟩ := h; omega
    have h2 := ok__law_term FT bt T c__law_draw c__law_pick (by decide) h
    exact ⟨h, h2, ok__law_atom FA ba T c__law_pick k_Atom (by decide) h2⟩
  | n + 1 => by
    obtain ⟨h1, h2, h3⟩ := ok_drawn F b FT bt FA ba T c__law_draw c__law_pick k_Atom n
    have h : C8.Cal P w K mg base (3 * (n + 1) + 5) "_law_word" (spWd C (n + 1)) [] := ok__law_word F b T c__law_draw c__law_pick (by omega) h3 (by omega) h1
    have h4 := ok__law_term FT bt T c__law_draw c__law_pick (by omega) h
    exact ⟨h, h4, ok__law_atom FA ba T c__law_pick k_Atom (by omega) h4⟩
end
end Hc

namespace Hc
open PySem PySem.Spec PyProof.Rows L2 Hr
variable [Memo]
/-- lists and dicts stay lists and dicts -/
def LDk (H H1 : Hp) : Prop := ∀ b o, H b = some o → isLD o = true → ∃ o', H1 b = some o' ∧ isLD o' = true
theorem LDk.of {H H1 : Hp} (s : Same H H1) : LDk H H1 := fun b o e l => ⟨o, s _ _ e, l⟩
theorem LDk.trans {H H1 H2 : Hp} (a : LDk H H1) (b : LDk H1 H2) : LDk H H2 := fun x o e l => by
  obtain ⟨o1, e1, l1⟩ := a x o e l
  exact b x o1 e1 l1
theorem LDk.bu {d c : Addr} {H H1 : Hp} (hD : Dr H1 d c) (b : Bu2 d c H H1) : LDk H H1 := fun x o e l => by
  obtain ⟨⟨r, m, h1⟩, ns, _, h2⟩ := hD
  by_cases z : x = d
  · rw [z]; exact ⟨_, h1, rfl⟩
  by_cases y : x = c
  · rw [y]; exact ⟨_, h2, rfl⟩
  exact ⟨o, b x o e z y, l⟩
theorem nw_sub {H H1 H2 : Hp} (k : LDk H H1) : Same (nw H1 H2) (nw H H2) := fun x o e => by
  rw [nw_eq (H := H) fun u hu => ?_]
  · exact nw_le _ _ e
  · cases l : isLD u with
    | false => rfl
    | true =>
      obtain ⟨u1, e1, l1⟩ := k x u hu l
      rw [nw_ld e1 l1] at e; cases e
theorem nw_keep {C : Addr} {H H' : Hp} (k : LDk H H') : Keep C H' (nw H H') := by
  have h : ∀ b o, H' b = some o → isLD o = false → nw H H' b = some o := fun b o e l => by
    rw [nw_eq fun u hu => ?_]
    · exact e
    · cases l2 : isLD u with
      | false => rfl
      | true =>
        obtain ⟨u1, e1, l1⟩ := k b u hu l2
        rw [e] at e1; cases e1
        rw [l] at l1; cases l1
  exact ⟨fun b xs e => h b _ e rfl, fun b dx fs e => h b _ e rfl⟩
theorem nw_upd {H X : Hp} {l : Addr} {o u : HO} (h : H l = some o) (hl : isLD o = true) : Same (nw H X) (nw H (upd X l u)) := fun x v e => by
  have n : x ≠ l := fun z => by rw [z, nw_ld h hl] at e; cases e
  have : nw H (upd X l u) x = nw H X x := by
    unfold nw; rw [upd_ne n]
  rw [this]; exact e
/-- a row of drawn data, lists among them -/
theorem drawn_lcV {J : It} {n : Nat} {G : Hp → Prop} {Y : Nat → Hp → V → Hp → Prop} (w : Walk J n G Y) {g : TG} {tt : TT} {te : TE} {vs : List Nat} {σ : L2.St} {H0 H2 : Hp} {Dl d c C : Addr} {Qd : Hp → Prop} {good : D → Prop} (hD : Dr H2 d c) (hDl : H2 Dl = none) (hn : n ≤ 1000) (hG : ∀ H, G H)
    (hL : LDk H0 H2) (hY : ∀ i H x H', Y i H x H' → H' = H)
    (ht : ∀ i x H H3 (R : VK) (N : Hp → Prop), i < n → Y i H x H3 → Dr H3 d c → Bu2 d c H2 H3 → (∀ H5 v w, Dr H5 d c → Bu2 d c H3 H5 → Is C (nw H3 H5) v w → good w → R v H5) → g x (wipe σ vs) H3 fun σ2 H4 => wipe σ2 vs = wipe σ vs ∧ tt σ2 H4 fun b H5 => if b = true then te σ2 H5 R else N H5)
    (hq : ∀ H3 acc ws, Dr H3 d c → Bu2 d c H2 H3 → H3 Dl = some (.lst acc) → IsA C (nw H0 H3) acc ws → ws.length = n → (∀ e ∈ ws, good e) → Qd H3) :
    ∃ W : Nat → Nat → Hp → Prop, (∃ m, W 0 m (upd H2 Dl (.lst []))) ∧ ∀ i m H, W i m H →
      (J.stop i H ∧ Qd H) ∨ (J.go i H ∧ ∃ Nx : Hp → Prop, (∀ H', Nx H' → ∃ m', m' < m ∧ W (i + 1) m' H') ∧ ∀ x H', J.yld i H x H' → g x (wipe σ vs) H' fun σ2 H2 => wipe σ2 vs = wipe σ vs ∧ tt σ2 H2 fun b H3 =>
        if b = true then te σ2 H3 fun y H4 => ∃ acc, H4 Dl = some (.lst acc) ∧ acc.length < sizeLine ∧ Nx (upd H4 Dl (.lst (acc ++ [y]))) else Nx H3) := by
  have hoff := hD.off hDl
  have sA := same_new (o := .lst []) hDl
  have hDA := hD.same sA
  have eA : upd H2 Dl (.lst []) Dl = some (.lst []) := upd_same
  have hL0 : LDk H0 (upd H2 Dl (.lst [])) := hL.trans (LDk.of sA)
  have frA : ∀ b o, upd H2 Dl (.lst []) b = some o → b ≠ Dl → H2 b = some o := fun b o e n => by rwa [upd_ne n] at e
  refine lc_it w (fun i H3 => Dr H3 d c ∧ Bu2 d c H2 H3 ∧ ∃ acc ws, H3 Dl = some (.lst acc) ∧ IsA C (nw (upd H2 Dl (.lst [])) H3) acc ws ∧ ws.length = i ∧ ∀ e ∈ ws, good e) ⟨hDA, Bu2.of sA, [], [], upd_same, .nil, rfl, fun e he => by cases he⟩ (fun _ _ _ _ => hG _) ?_ ?_
  · rintro i x H3 H4 hi ⟨hD3, b3, acc, ws, hz, ia, hl, hw⟩ y
    have e := hY _ _ _ _ y
    subst e
    refine ht i x _ _ _ _ hi y hD3 b3 fun H5 v w' hD5 b5 iv hwd => ?_
    have hz5 := b5 _ _ hz hoff.1 hoff.2
    have hal := ia.len
    have kA : LDk (upd H2 Dl (.lst [])) H4 := fun b o e l => by
      by_cases z : b = Dl
      · rw [z]; exact ⟨_, hz, rfl⟩
      · exact LDk.bu hD3 b3 b o (frA b o e z) l
    have ia5 := ia.same (nw_bu hDA b5)
    have iv5 := iv.same (nw_sub kA)
    have su : Same (nw (upd H2 Dl (.lst [])) H5) (nw (upd H2 Dl (.lst [])) (upd H5 Dl (.lst (acc ++ [v])))) := nw_upd eA rfl
    refine ⟨acc, hz5, by have : (1000 : Nat) < sizeLine := by decide
                         omega, ?_, fun b o e n1 n2 => ?_, acc ++ [v], ws ++ [w'], upd_same, ?_, by simp [hl], fun e he => ?_⟩
    · obtain ⟨⟨r0, m0, f1⟩, ns, hn, f2⟩ := hD5
      exact ⟨⟨r0, m0, by rw [upd_ne hoff.1.symm]; exact f1⟩, ns, hn, by rw [upd_ne hoff.2.symm]; exact f2⟩
    · rw [upd_ne (ne_of_none e hDl)]
      exact b5 _ _ (b3 _ _ e n1 n2) n1 n2
    · exact (ia5.same su).app (.cons (iv5.same su) .nil)
    · rcases List.mem_append.mp he with he | he
      · exact hw e he
      · rw [List.mem_singleton.mp he]; exact hwd
  · rintro H3 ⟨hD3, b3, acc, ws, hz, ia, hl, hw⟩
    exact hq H3 acc ws hD3 b3 hz (ia.same (nw_sub hL0)) hl hw
end Hc

namespace Hc
open PySem PySem.Spec PyProof.Rows L2 Hr
variable [Memo]
structure Va (k : Nat) (d : D) : Prop where
  z : sz d ≤ 1000 * 4 ^ k
  t : txl d
  u : full d ≤ 50 + k
  r : rank d ≤ 36
theorem p4 (k : Nat) : 0 < 4 ^ k := Nat.pow_pos (by decide)
theorem Va.of {k : Nat} {d : D} (z : sz d ≤ 1000) (t : txl d) (u : full d ≤ 50) (r : rank d ≤ 36) : Va k d := ⟨by have := p4 k; omega, t, by omega, r⟩
theorem va_plain {k : Nat} {d : D} (h : d ∈ plainD) : Va k d := .of (plain_sz d h).1 (plain_sz d h).2 (by have := (plain_flat d h).1; omega) (by have := (plain_flat d h).2; omega)
theorem va_word {k n : Nat} {d : D} (h : Wk n d) (hn : n ≤ 2) : Va k d := by
  have h5 : 5 ^ n ≤ 5 ^ 2 := Nat.pow_le_pow_right (by decide) hn
  exact .of (by have := h.1.z; omega) h.1.t (by have := h.2; omega) (by have := h.1.r; omega)
theorem szL_all {b : Nat} : ∀ {ds : List D}, (∀ e ∈ ds, sz e ≤ b) → szL ds ≤ ds.length * b
  | [], _ => by simp [szL]
  | d :: ds, h => by
    have h1 := h d List.mem_cons_self
    have h2 := szL_all (fun e he => h e (List.mem_cons_of_mem _ he))
    simp only [szL, List.length_cons, Nat.add_mul, Nat.one_mul]; omega
theorem txlL_all : ∀ {ds : List D}, (∀ e ∈ ds, txl e) → txlL ds
  | [], _ => trivial
  | d :: ds, h => ⟨h d List.mem_cons_self, txlL_all fun e he => h e (List.mem_cons_of_mem _ he)⟩
theorem rankL_all {b : Nat} : ∀ {ds : List D}, (∀ e ∈ ds, rank e ≤ b) → rankL ds ≤ b
  | [], _ => Nat.zero_le _
  | d :: ds, h => by
    simp only [rankL]
    have h1 := h d List.mem_cons_self
    have h2 := rankL_all fun e he => h e (List.mem_cons_of_mem _ he)
    omega
theorem Va.tup {k : Nat} {ds : List D} (hl : ds.length ≤ 3) (h : ∀ e ∈ ds, Va k e) : Va (k + 1) (.tup ds) := by
  have h1 := szL_all fun e he => (h e he).z
  have h2 : ds.length * (1000 * 4 ^ k) ≤ 3 * (1000 * 4 ^ k) := Nat.mul_le_mul_right _ hl
  have h3 : 4 ^ (k + 1) = 4 * 4 ^ k := by rw [Nat.pow_succ, Nat.mul_comm]
  have h4 := p4 k
  refine ⟨by simp only [sz]; omega, by simp only [txl]; exact txlL_all fun e he => (h e he).t, ?_, ?_⟩
  · simp only [full]; have := fullL_all fun e he => (h e he).u; omega
  · simp only [rank]; exact rankL_all fun e he => (h e he).r
def spVal (C : Addr) (n : Nat) : Sp := fun vs H Q _ => ∃ (d c : Addr) (k : Nat), vs = [.ref d, .int (k : Nat)] ∧ k < n ∧ Dr H d c ∧ ∀ H' v w, Dr H' d c → Bu2 d c H H' → Is C (nw H H') v w → Va k w → Q v H'
section
variable {P : Program} {w : World} {K : PySem.W.Frag} {mg : Str → Option Value} {base : Heap} {f : Addr} {fd : FuncData} {C : Addr}
abbrev s__law_value : Stmt := top 39
theorem sc__law_value : FnScope ["draws", "deep", "kind", "value", "k"] ["draws", "deep"] (C8.fnScope s__law_value) := C8.fnScope_by (by decide +kernel)
theorem ok__law_value (F : C8.Def K mg "_law_value" s__law_value f fd) (b : Binds K fd ["draws", "deep"] []) (T : Txt K mg w C) (c__law_draw : C8.Cal P w K mg base 1 "_law_draw" spDraw []) (c__law_pick : C8.Cal P w K mg base 2 "_law_pick" spPick []) (c__law_plain : C8.Cal P w K mg base 3 "_law_plain" (spPlain C) []) (c__law_atom : C8.Cal P w K mg base 13 "_law_atom" (spAt C 2) []) (c__law_word : C8.Cal P w K mg base 14 "_law_word" (spWd C 3) []) :
    ∀ n, C8.Cal P w K mg base (n + 15) "_law_value" (spVal C n) [] := by
  intro n
  induction n with
  | zero =>
    refine C8.cal0 F b .nil sc__law_value (fun vs H Q E h => ?_) (fun cdv A outer s H vs Q E hr h => ?_)
    · obtain ⟨d, c, k, _, h, _⟩ := h; omega
    · obtain ⟨d, c, k, _, h, _⟩ := h; omega
  | succ n ih =>
    have c__law_value := ih
    refine C8.cal0 F b .nil sc__law_value (fun vs H Q E h => ?_) (fun cdv A outer s H vs Q E hr h => ?_)
    · obtain ⟨d, c, k, rfl, _⟩ := h; rfl
    obtain ⟨d, c, k, rfl, hk, hD, q⟩ := h
    refine ⟨_, (pss_cons (ps_set (i := 2) sc__law_value.nd rfl (Or.inl rfl) (C8.pe_c c__law_draw hr (by first | decide | omega) rfl (pa_cons (pv 0) (pa_cons pe_int pa_nil))))
      (pss_cons (ps_if (PW.pt (pw_or (pt_cmpR op_eq (pv 1) pe_int (nomark _)) (pw_or1 (pt_cmpR op_lt (pv 2) pe_int (nomark _))))) (pss_one (ps_ret (C8.pe_c c__law_plain hr (by first | decide | omega) rfl (pa_cons (pv 0) pa_nil)))) pss_nil)
      (pss_cons (ps_if (pt_cmpR op_eq (pv 2) pe_int (nomark _)) (pss_one (ps_ret (C8.pe_c c__law_atom hr (by first | decide | omega) rfl (pa_cons (pv 0) (pa_cons pe_int pa_nil))))) pss_nil)
      (pss_cons (ps_if (pt_cmpR op_eq (pv 2) pe_int (nomark _)) (pss_one (ps_ret (C8.pe_c c__law_word hr (by first | decide | omega) rfl (pa_cons (pv 0) (pa_cons pe_int pa_nil))))) pss_nil)
      (pss_cons (ps_if (pt_cmpR op_eq (pv 2) pe_int (nomark _)) (pss_cons (ps_set (i := 3) sc__law_value.nd rfl (Or.inl rfl) (C8.pe_c c__law_word hr (by first | decide | omega) rfl (pa_cons (pv 0) (pa_cons pe_int pa_nil))))
      (pss_cons (ps_for PassesOwn.never rfl (pi_range1 rfl T.z_range (pa_cons (pe_op op_add (C8.pe_c c__law_pick hr (by first | decide | omega) rfl (pa_cons (pv 0) (pa_cons (pe_lst (pa_cons pe_int (pa_cons pe_int pa_nil))) pa_nil))) (C8.pe_c c__law_draw hr (by first | decide | omega) rfl (pa_cons (pv 0) (pa_cons pe_int pa_nil)))) pa_nil)) (pg_name (i := 4) sc__law_value.nd rfl (Or.inl rfl))
      (pss_one (ps_set (i := 3) sc__law_value.nd rfl (Or.inl rfl) (pe_tup (pa_cons (pv 3) pa_nil)))))
      (pss_one (ps_ret (pv 3))))) pss_nil)
      (pss_one (ps_ret (pe_callTy call_tuple_of rfl T.z_tuple bt_tuple (pa_cons (pe_lc (own := [("k", 4)]) (g := gName 4) rfl sc__law_value.nd (pi_range1 rfl T.z_range (pa_cons (C8.pe_c c__law_draw hr (by first | decide | omega) rfl (pa_cons (pv 0) (pa_cons pe_int pa_nil))) pa_nil)) (blkOk_by (own := [("k", 4)]) (N := ["draws", "deep", "kind", "value", "k"]) (sc := C8.fnScope s__law_value) (by decide +kernel)) (fun _ _ _ _ _ => (pg_name (i := 4) sc__law_value.nd rfl (Or.inl rfl))) (fun _ _ _ _ _ => pts_nil) (fun _ _ _ _ _ => (C8.pe_c c__law_value hr (by first | decide | omega) rfl (pa_cons (pv 0) (pa_cons (pe_op op_sub (pv 1) pe_int) pa_nil))))) pa_nil))))))))), ?_⟩
    refine ⟨_, rfl, d, c, 8, rfl, hD, by decide, by decide, fun H1 r hD1 b1 g0 g1 => ?_⟩
    have kL := LDk.bu hD1 b1
    have clean : ∀ H' v w, Dr H' d c → Bu2 d c H1 H' → Is C H' v w → cln w = true → Va k w → Q v H' := fun H' v w hD' b' iv cw va => q H' v w hD' (b1.trans b') (Is.keep (nw_keep (LDk.bu hD' (b1.trans b'))) cw iv) va
    have plain : ∀ (σ : L2.St), σ[0]? = some (some (.ref d)) → (tRet (tCall (spPlain C) [] C8.E0 (tCons (tVar 0) tNil))) { nx := fun _ H' => Q .non H', rt := Q } σ H1 := fun σ hσ => ⟨_, hσ, d, c, rfl, hD1, fun H' x dx hD' b' ix hx => q H' x dx hD' (b1.trans b') (ix.same (nw_sub kL)) (va_plain hx)⟩
    refine ⟨_, rfl, rfl, _, rfl, ?_⟩
    by_cases c1 : k = 0
    · subst c1
      exact ifT rfl (plain _ rfl)
    refine ifF (fun z => c1 (by have := V.int.inj z; omega)) ⟨_, rfl, _, _, rfl, rfl, _, rfl, ?_⟩
    by_cases c2 : r < 2
    · exact ifT c2 (plain _ rfl)
    refine ifF c2 ?_
    obtain ⟨k, rfl⟩ : ∃ k', k = k' + 1 := ⟨k - 1, by omega⟩
    refine ⟨_, rfl, rfl, _, rfl, ?_⟩
    by_cases c3 : r = 2
    · subst c3
      refine ifT rfl ⟨_, rfl, d, c, 1, rfl, by decide, by decide, hD1, fun H2 v kd ds hD2 b2 iv hte => ?_⟩
      have hwo := hte.atom (by decide)
      exact clean _ _ _ hD2 b2 iv (wrd_cln hwo.w) (.of (by have := hwo.z; omega) hwo.t (by simp only [full]; have := hte.u; omega) (by have := hwo.r; omega))
    refine ifF (fun z => c3 (V.int.inj z)) ⟨_, rfl, rfl, _, rfl, ?_⟩
    by_cases c4 : r = 3
    · subst c4
      refine ifT rfl ⟨_, rfl, d, c, 2, rfl, by decide, by decide, hD1, fun H2 v wd hD2 b2 iv hw => ?_⟩
      exact clean _ _ _ hD2 b2 iv (wrd_cln hw.1.w) (va_word hw (by decide))
    refine ifF (fun z => c4 (V.int.inj z)) ⟨_, rfl, rfl, _, rfl, ?_⟩
    by_cases c5 : r = 4
    · subst c5
      refine ifT rfl ⟨_, rfl, d, c, 1, rfl, by decide, by decide, hD1, fun H2 v wd hD2 b2 iv hw => ?_⟩
      refine ⟨_, rfl, (by show 2 ≤ sizeLine; decide), fun l hl => pick_new hD2 hl (by show 0 < 2; decide) (by show 2 < 1000000; decide) fun H3 x hD3 b3 hx => ⟨_, rfl, d, c, 10, rfl, hD3, by decide, by decide, fun H4 r2 hD4 b4 e0 e1 => ?_⟩⟩
      obtain ⟨m, rfl, hm⟩ : ∃ m : Int, x = .int m ∧ (m = 4 ∨ m = 34) := by
        simp only [List.mem_cons, List.not_mem_nil, or_false] at hx
        rcases hx with rfl | rfl
        · exact ⟨4, rfl, .inl rfl⟩
        · exact ⟨34, rfl, .inr rfl⟩
      refine ⟨m, r2, rfl, rfl, m + r2, rfl, by omega, by omega, ?_⟩
      have iv4 := Is.keep (hD2.keep (b3.trans b4)) (wrd_cln hw.1.w) iv
      refine for_it (walk_range (lo := 0) (n := (m + r2).toNat)) (fun i σ H' => Dr H' d c ∧ Bu2 d c H4 H' ∧ ∃ v w ks, σ = [some (.ref d), some (.int ((k + 1 : Nat) : Int)), some (.int 4), some v, ks] ∧ Is C H' v w ∧ cln w = true ∧ sz w ≤ 150 + i ∧ txl w ∧ full w ≤ 4 + i ∧ rank w ≤ 1)
        ⟨hD4, Bu2.refl, v, wd, none, rfl, iv4, wrd_cln hw.1.w, by have := hw.1.z; omega, hw.1.t, by have := hw.2; omega, hw.1.r⟩ (fun _ _ _ _ _ => trivial) ?_ ?_
      · rintro i y σ H5 H6 hi ⟨hD5, b5, v, w, ks, rfl, iv, cw, zw, tw, uw, rw⟩ ⟨rfl, rfl⟩
        refine ⟨_, rfl, (by show 1 ≤ sizeLine; decide), fun t ht => ?_⟩
        have s6 := same_new (o := .tup [v]) ht
        refine ⟨hD5.same s6, b5.trans (Bu2.of s6), .ref t, .tup [w], some (.int (0 + (i : Nat))), rfl, new_tup ht (.cons iv .nil), by simp only [cln, clnL, cw]; rfl, by simp only [sz, szL]; omega, by simp only [txl, txlL]; exact ⟨tw, trivial⟩, by simp only [full, fullL]; omega, by simp only [rank, rankL]; omega⟩
      · rintro σ H5 ⟨hD5, b5, v, w, ks, rfl, iv, cw, zw, tw, uw, rw⟩
        exact ⟨_, rfl, clean _ _ _ hD5 (((b2.trans b3).trans b4).trans b5) iv cw (.of (by omega) tw (by omega) (by omega))⟩
    refine ifF (fun z => c5 (V.int.inj z)) ⟨_, rfl, d, c, 4, rfl, hD1, by decide, by decide, fun H2 r2 hD2 b2 e0 e1 => ⟨r2, rfl, by omega, by omega, fun Dl hDl => ?_⟩⟩
    refine drawn_lcV (walk_range (lo := 0) (n := r2.toNat)) hD2 hDl (by omega) (fun _ => trivial) (H0 := H) (C := C) (good := Va k) (LDk.bu hD2 (b1.trans b2)) (fun _ _ _ _ y => y.1) (fun i x H H' R N hi y hD' b' q => ?_) (fun H4 acc ws hD4 b4 hz ia hl hw => ?_)
    · exact ⟨rfl, yes ⟨_, rfl, _, rfl, _, _, rfl, rfl, d, c, k, (by simp), by omega, hD', q⟩⟩
    refine ⟨Dl, acc, rfl, .inl ⟨SqL.of hz, fun t ht => ?_⟩⟩
    have s5 := same_new (o := .tup acc) ht
    have bb := ((b1.trans b2).trans b4).trans (Bu2.of s5)
    have hD5 := hD4.same s5
    refine q _ _ _ hD5 bb ?_ (Va.tup (by omega) hw)
    exact .tup ((nw_keep (C := C) (LDk.bu hD5 bb)).tup _ _ upd_same) (ia.same (nw_bu hD (Bu2.of s5)))
end
end Hc

namespace Hc
open PySem PySem.Spec PyProof.Rows L2 Hr
variable [Memo]
mutual
theorem lawW_ok : ∀ (d : D) (md mr n k : Nat), n + k = md → rank d ≤ mr → okW md mr n d = lawW k d
  | .tup ds, md, mr, n, k, h, hr => by
    simp only [rank] at hr
    simp only [okW]
    cases k with
    | zero => simp [lawW, show n = md by omega]
    | succ k =>
      rw [lawL_ok ds md mr (n + 1) k (by omega) hr]
      simp [lawW, show n ≠ md by omega]
  | .atom a ds, md, mr, n, k, h, hr => by simp [okW, lawW, hr]
  | .non, md, mr, n, k, h, hr => by simp [okW, lawW]
  | .int i, md, mr, n, k, h, hr => by cases k <;> rfl
  | .str s, md, mr, n, k, h, hr => by
    have : decide (s.length ≤ 24) = decide (s.length < 25) := decide_eq_decide.mpr (by omega)
    simp only [okW, lawW, txtOk, this]
  | .bl b, md, mr, n, k, h, hr => by simp [okW, lawW]
  | .lst ds, md, mr, n, k, h, hr => by simp [okW, lawW]
  | .dct, md, mr, n, k, h, hr => by simp [okW, lawW]
theorem lawL_ok : ∀ (ds : List D) (md mr n k : Nat), n + k = md → rankL ds ≤ mr → okA md mr n ds = ds.all (lawW k)
  | [], md, mr, n, k, h, hr => by simp [okA]
  | d :: ds, md, mr, n, k, h, hr => by
    simp only [rankL] at hr
    simp only [okA, List.all_cons]
    rw [lawW_ok d md mr n k h (by omega), lawL_ok ds md mr n k h (by omega)]
end
mutual
theorem okW_rank : ∀ (d : D) (md mr n : Nat), okW md mr n d = true → rank d ≤ mr
  | .tup ds, md, mr, n, h => by
    simp only [okW, Bool.and_eq_true] at h
    simp only [rank]; exact okA_rank ds md mr _ h.2
  | .atom a ds, md, mr, n, h => by simp only [okW] at h; exact of_decide_eq_true h
  | .non, md, mr, n, h => Nat.zero_le _
  | .int i, md, mr, n, h => Nat.zero_le _
  | .str s, md, mr, n, h => Nat.zero_le _
  | .bl b, md, mr, n, h => Nat.zero_le _
  | .lst ds, md, mr, n, h => Nat.zero_le _
  | .dct, md, mr, n, h => Nat.zero_le _
theorem okA_rank : ∀ (ds : List D) (md mr n : Nat), okA md mr n ds = true → rankL ds ≤ mr
  | [], md, mr, n, h => Nat.zero_le _
  | d :: ds, md, mr, n, h => by
    simp only [okA, Bool.and_eq_true] at h
    simp only [rankL]
    exact Nat.max_le.mpr ⟨okW_rank d md mr n h.1, okA_rank ds md mr n h.2⟩
end
/-- a host's words: the rank besides -/
theorem host_ok (d : D) {md mr n k : Nat} (h : n + k = md) : okW md mr n d = (lawW k d && decide (rank d ≤ mr)) := by
  by_cases c : rank d ≤ mr
  · rw [lawW_ok d md mr n k h c, decide_eq_true c, Bool.and_true]
  · rw [decide_eq_false c, Bool.and_false]
    cases e : okW md mr n d with
    | false => rfl
    | true => exact absurd (okW_rank d md mr n e) c
end Hc

namespace Hc
open PySem PySem.Spec PyProof.Rows L2 Hr
variable [Memo]
/-! ### slices and sums of tuples, whatever they are -/
theorem cut_to (xs : List V) (k : Nat) : cutV xs none (some (k : Int)) = xs.take k := by
  unfold cutV
  rw [HT.sIx_none, HT.sIx_nat, List.drop_zero, Nat.sub_zero]
  by_cases h : k ≤ xs.length
  · rw [Nat.min_eq_left h]
  · rw [Nat.min_eq_right (by omega), List.take_of_length_le (Nat.le_refl _), List.take_of_length_le (by omega)]
theorem cut_from (xs : List V) (k : Nat) : cutV xs (some (k : Int)) none = xs.drop k := by
  unfold cutV
  rw [HT.sIx_none, HT.sIx_nat]
  by_cases h : k ≤ xs.length
  · rw [Nat.min_eq_left h]
    exact List.take_of_length_le (by rw [List.length_drop]; exact Nat.le_refl _)
  · rw [Nat.min_eq_right (by omega), List.drop_of_length_le (Nat.le_refl _), List.drop_of_length_le (by omega), List.take_nil]
theorem sl_go {K : PySem.W.Frag} {H : Hp} {a : Addr} {xs : List V} {lo hi : Option Int} {Q : VK} (h : H a = some (.tup xs)) (q : ∀ H' p, Same H H' → H' p = some (.tup (cutV xs lo hi)) → Q (.ref p) H') : rSlA K (.ref a) lo hi H Q := by
  refine ⟨a, xs, rfl, SqT.of h, fun z => q H a (Same.refl H) ?_, fun _ p hp => q _ p (same_new hp) upd_same⟩
  have e : cutV xs lo hi = xs := by
    unfold cutV
    rw [z.1, z.2, List.drop_zero, Nat.sub_zero]
    exact List.take_of_length_le (Nat.le_refl _)
  rw [e]; exact h
theorem sl_goL {K : PySem.W.Frag} {σ : L2.St} {H : Hp} {a : Addr} {xs : List V} {lo : Int} {Q : VK} (h : H a = some (.tup xs)) (q : ∀ H' p, Same H H' → H' p = some (.tup (cutV xs (some lo) none)) → Q (.ref p) H') : tNoPart σ H (fun u H3 => rSlA K (.ref a) (some lo) u H3 Q) := sl_go h q
theorem cat_go {K : PySem.W.Frag} {H : Hp} {a b : Addr} {xs ys : List V} {Q : VK} (ha : H a = some (.tup xs)) (hb : H b = some (.tup ys)) (hl : xs.length + ys.length ≤ sizeLine) (q : ∀ H' p, Same H H' → H' p = some (.tup (xs ++ ys)) → Q (.ref p) H') : rCatA K (.ref a) (.ref b) H Q := by
  refine ⟨a, b, xs, ys, rfl, rfl, SqT.of ha, SqT.of hb, hl, fun z => q H b (Same.refl H) (by rw [z]; exact hb), fun _ z => q H a (Same.refl H) (by rw [z, List.append_nil]; exact ha), fun _ _ p hp => q _ p (same_new hp) upd_same⟩
theorem isA_take {C : Addr} {H : Hp} : ∀ {xs : List V} {ds : List D} (n : Nat), IsA C H xs ds → IsA C H (xs.take n) (ds.take n)
  | _, _, 0, _ => by simp only [List.take_zero]; exact .nil
  | _, _, n + 1, .nil => by simp only [List.take_nil]; exact .nil
  | _, _, n + 1, .cons h t => by simp only [List.take_succ_cons]; exact .cons h (isA_take n t)
theorem isA_drop {C : Addr} {H : Hp} : ∀ {xs : List V} {ds : List D} (n : Nat), IsA C H xs ds → IsA C H (xs.drop n) (ds.drop n)
  | _, _, 0, h => by simp only [List.drop_zero]; exact h
  | _, _, n + 1, .nil => by simp only [List.drop_nil]; exact .nil
  | _, _, n + 1, .cons h t => by simp only [List.drop_succ_cons]; exact isA_drop n t
theorem szLtk : ∀ (ds : List D) (n : Nat), szL (ds.take n) ≤ szL ds
  | _, 0 => by simp only [List.take_zero, szL]; omega
  | [], n + 1 => by simp only [List.take_nil, szL]; omega
  | d :: ds, n + 1 => by simp only [List.take_succ_cons, szL]; have := szLtk ds n; omega
theorem szLdr : ∀ (ds : List D) (n : Nat), szL (ds.drop n) ≤ szL ds
  | _, 0 => by simp only [List.drop_zero]; omega
  | [], n + 1 => by simp only [List.drop_nil, szL]; omega
  | d :: ds, n + 1 => by simp only [List.drop_succ_cons, szL]; have := szLdr ds n; omega
theorem txlL_app : ∀ (a b : List D), txlL (a ++ b) ↔ txlL a ∧ txlL b
  | [], b => by simp [txlL]
  | x :: a, b => by rw [List.cons_append]; simp only [txlL]; rw [txlL_app a b, and_assoc]
theorem txlLtk : ∀ (ds : List D) (n : Nat), txlL ds → txlL (ds.take n)
  | _, 0, _ => by simp only [List.take_zero, txlL]
  | [], n + 1, _ => by simp only [List.take_nil, txlL]
  | d :: ds, n + 1, h => by simp only [txlL] at h; simp only [List.take_succ_cons, txlL]; exact ⟨h.1, txlLtk ds n h.2⟩
theorem txlLdr : ∀ (ds : List D) (n : Nat), txlL ds → txlL (ds.drop n)
  | _, 0, h => by simp only [List.drop_zero]; exact h
  | [], n + 1, _ => by simp only [List.drop_nil, txlL]
  | d :: ds, n + 1, h => by simp only [txlL] at h; simp only [List.drop_succ_cons]; exact txlLdr ds n h.2
/-! ### terms that are none -/
theorem bad_len {k : Str} {fs : List Str} {ds : List D} (h : formsOf k = some fs) (hl : ds.length ≠ fs.length) : isTermK k ds = false := by
  unfold isTermK; rw [h]; simp [hl]
theorem bad_at {k : Str} {fs : List Str} {ds : List D} (h : formsOf k = some fs) {i : Nat} {d : D} {z : Str} (h1 : ds[i]? = some d) (h2 : fs[i]? = some z) (hb : partOk d z = false) : isTermK k ds = false := by
  unfold isTermK; rw [h]
  have h3 : (ds.zip fs)[i]? = some (d, z) := List.getElem?_zip_eq_some.mpr ⟨h1, h2⟩
  have h4 : ((ds.zip fs).all fun p => partOk p.1 p.2) = false := by
    rw [List.all_eq_false]
    exact ⟨(d, z), List.mem_of_getElem? h3, by simp [hb]⟩
  simp only [h4, Bool.and_false]
theorem set_at {ds : List D} {i : Nat} {e : D} {r : List D} (h : i ≤ ds.length) : (ds.take i ++ [e] ++ r)[i]? = some e := by
  have h1 : (ds.take i).length = i := by rw [List.length_take]; omega
  rw [List.append_assoc, List.getElem?_append_right (by omega), h1, Nat.sub_self]; rfl
/-- a pair of a kind and a term that is none -/
def BadP (dk dt : D) : Prop := KindOk dk ∧ Fit dt ∧ isTermD dk dt = false
def RowB (C : Addr) (H : Hp) (x : V) : Prop := ∃ a xk xt dk dt, x = .ref a ∧ H a = some (.tup [xk, xt]) ∧ Is C H xk dk ∧ Is C H xt dt ∧ BadP dk dt
theorem RowB.same {C : Addr} {H H' : Hp} {x : V} (s : Same H H') (h : RowB C H x) : RowB C H' x := by
  obtain ⟨a, xk, xt, dk, dt, rfl, h1, h2, h3, h4⟩ := h
  exact ⟨a, xk, xt, dk, dt, rfl, s _ _ h1, h2.same s, h3.same s, h4⟩
/-! ### a heap without some cells -/
def nx (ps : List Addr) (H : Hp) : Hp := fun b => if b ∈ ps then none else H b
theorem nx_le {ps : List Addr} {H : Hp} : Same (nx ps H) H := fun b o e => by
  unfold nx at e
  by_cases h : b ∈ ps
  · rw [if_pos h] at e; cases e
  · rwa [if_neg h] at e
theorem nx_off {ps : List Addr} {H : Hp} {b : Addr} (h : b ∉ ps) : nx ps H b = H b := if_neg h
theorem nx_in {ps : List Addr} {H : Hp} {b : Addr} {o : HO} (e : nx ps H b = some o) : b ∉ ps := fun h => by
  unfold nx at e; rw [if_pos h] at e; cases e
theorem nx_bu {d c : Addr} {ps : List Addr} {H H' : Hp} (b : Bu2 d c H H') (hd : d ∈ ps) (hc : c ∈ ps) : Same (nx ps H) (nx ps H') := fun x o e => by
  have h := nx_in e
  rw [nx_off h] at e ⊢
  exact b _ _ e (fun z => h (z ▸ hd)) (fun z => h (z ▸ hc))
theorem nx_same {ps : List Addr} {H H' : Hp} (s : Same H H') : Same (nx ps H) (nx ps H') := fun x o e => by
  have h := nx_in e
  rw [nx_off h] at e ⊢
  exact s _ _ e
theorem nx_upd {ps : List Addr} {H : Hp} {l : Addr} {o : HO} (h : l ∈ ps) : Same (nx ps H) (nx ps (upd H l o)) := fun x u e => by
  have n := nx_in e
  rw [nx_off n] at e ⊢
  rw [upd_ne (fun z => n (by rw [z]; exact h))]; exact e
/-- a fresh cell is left out, too -/
theorem nx_add {ps : List Addr} {H : Hp} {l : Addr} {o : HO} (h : H l = none) : Same (nx ps H) (nx (ps ++ [l]) (upd H l o)) := fun x u e => by
  have n := nx_in e
  rw [nx_off n] at e
  have nl : x ≠ l := fun z => by rw [z, h] at e; cases e
  rw [nx_off (by simp [n, nl]), upd_ne nl]; exact e
theorem nx_keep {C : Addr} {ps : List Addr} {H : Hp} (h : ∀ p ∈ ps, ∃ o, H p = some o ∧ isLD o = true) : Keep C H (nx ps H) := by
  have go : ∀ b o, H b = some o → isLD o = false → nx ps H b = some o := fun b o e l => by
    rw [nx_off fun hm => ?_]
    · exact e
    · obtain ⟨u, e1, l1⟩ := h b hm
      rw [e] at e1; cases e1
      rw [l] at l1; cases l1
  exact ⟨fun b xs e => go b _ e rfl, fun b dx fs e => go b _ e rfl⟩
theorem Dr.ld {H : Hp} {d c : Addr} (h : Dr H d c) : ∀ p ∈ [d, c], ∃ o, H p = some o ∧ isLD o = true := by
  obtain ⟨⟨r, m, h1⟩, ns, _, h2⟩ := h
  intro p hp
  simp only [List.mem_cons, List.not_mem_nil, or_false] at hp
  rcases hp with rfl | rfl
  · exact ⟨_, h1, rfl⟩
  · exact ⟨_, h2, rfl⟩
end Hc

namespace Hc
open PySem PySem.Spec PyProof.Rows L2 Hr
variable [Memo]
/-- C(..) that may raise, the slots told -/
def tMkS (C : Addr) (sp : Sp) (W : WX) (t : TA) : TE := fun σ H Q => t σ H fun vs H1 => ∀ x dx, H1 x = none → H1 dx = none → dx ≠ x → sp (.ref x :: vs) (upd (upd H1 dx (.own x)) x (.ins C dx [])) (fun v H2 => v = .non ∧ Q (.ref x) H2) (WE W σ)
theorem mkS {X : Cx} {k : Nat} {f C : Addr} {fd : FuncData} {ps : List Str} {sp : Sp} {W : WX} {z : Str} {q1 q2 : Pos} {e : Expr} {es : List Expr} {t : TA} (M : Mk X.K C f) (F : FnOk X.prog X.w X.K X.mg X.base (L2.CX X.prog X.w) k f fd ps sp) (hr : Room (k + 1) X.A) (g : Gl X z) (hm : X.mg z = some (.ref C)) (hb : Binds X.K fd ps [])
    (tk : Takes X W) (ha : PA X (e :: es) t) (hdb : (z == ("__debug__" : Str)) = false := by decide) (he : starEach (e :: es) X.env = (false, eval e X.env) :: starEach es X.env := by rfl) (hpl : (backTo q2 (starEach es X.env)).any (·.1) = false := by rfl) : PE X (.Call (.Name z q1) (e :: es) [] q2) (tMkS C sp W t) := by
  refine ⟨fun pins s σ H Q I h => wpAny_Call_Name_kw (ld_glob I g hm (PySem.W.callWith_K (h₀ := X.base) I.ok.mod.kin M.kp (thn (ha.run q2 pins s σ H _ I h) fun us s1 hh => ?_) he hpl) hdb)⟩
  obtain ⟨vs, H1, J, r, q⟩ := hh
  refine ⟨J.kIn, ?_⟩
  have q3 := q _ _ (J.hok.fresh (Nat.le_succ s1.heap.objs.size)) (J.hok.fresh (Nat.le_refl _)) (Nat.ne_of_lt (Nat.lt_succ_self _))
  have J2 := Inv.made (C := C) J
  have r2 : Vals (V.ref (s1.heap.objs.size + 1) :: vs) (Value.ref (s1.heap.objs.size + 1) :: us) := .cons rfl r
  have hl : (Value.ref (s1.heap.objs.size + 1) :: us).length = ps.length := by rw [← r2.length]; exact F.len _ _ _ _ q3
  have hbd := hb _ (Value.ref (s1.heap.objs.size + 1) :: us) J2.kIn (by rw [List.append_nil]; exact hl)
  rw [List.append_nil] at hbd
  refine wpAny_call (make_map (f := f) J.kIn M.makes M.init (beq_iff_eq.mp M.fn) (codeAny_mono (F.run _ X.stack _ _ ⟨_, []⟩ _ _ _ (WE W σ) (hr.make C us []) (J2.env0.make C us []) hbd r2 q3) fun r s' hq' => ?_))
  cases r with
  | error e => exact passAt tk σ pins _ _ e s' J2 hq'
  | ok fl =>
    cases fl with
    | ret u =>
      obtain ⟨v, H', J3, rv, ev, q4⟩ := J2.after hq'
      subst ev
      exact ⟨rv, V.ref (s1.heap.objs.size + 1), H', J3, rfl, q4⟩
    | _ => exact False.elim hq'
/-- a suite that is gone through for one class alone -/
theorem pss_only {X : Cx} {b : List Stmt} {p : Prop} {t : TS} (h : p → PSs X b t) : PSs X b (fun D σ H => p ∧ t D σ H) := ⟨fun pins s σ H D I z => (h z.1).run pins s σ H D I z.2⟩
def spRef (C : Addr) : Sp := fun vs H Q _ => ∃ xk xt dk dt, vs = [xk, xt] ∧ Is C H xk dk ∧ Is C H xt dt ∧ KindOk dk ∧ Fit dt ∧ (isTermD dk dt = false ∨ ∃ k ds, dk = .str k ∧ dt = .tup ds ∧ isTermK k ds = true ∧ mostR k < rank (.atom k ds)) ∧ ∀ H', Same H H' → Q (.bl true) H'
section
variable {P : Program} {w : World} {K : PySem.W.Frag} {mg : Str → Option Value} {base : Heap} {f : Addr} {fd : FuncData} {C N E0 : Addr}
abbrev s__law_refused : Stmt := top 47
theorem sc__law_refused : FnScope ["kind", "term", "e"] ["kind", "term"] (C8.fnScope s__law_refused) := C8.fnScope_by (by decide +kernel)
theorem ok__law_refused {fI : Addr} {fdI : FuncData} {bmB : List Value} {newId : String} (F : C8.Def K mg "_law_refused" s__law_refused f fd) (b : Binds K fd ["kind", "term"] []) (T : Txt K mg w C) (nv : NvOk K mg N bmB newId) (xc : ExcC K N) (hE : mg "HermitError" = some (.ref E0)) (hx : PySem.W.exmOne K (.ref N) (.ref E0) = some true) (hki : PySem.W.kitOne K (.ref N) (.ref N) = some true)
    (M : Mk K C fI) (FX : FnOk P w K mg base (L2.CX P w) 5 fI fdI ["self", "kind", "term"] (spInitR C N)) (bI : Binds K fdI ["self", "kind", "term"] []) : C8.Cal P w K mg base 7 "_law_refused" (spRef C) [] := by
  refine C8.cal0 F b .nil sc__law_refused (fun vs H Q E h => ?_) (fun cdv A outer s H vs Q E hr h => ?_)
  · obtain ⟨xk, xt, dk, dt, rfl, _⟩ := h; rfl
  obtain ⟨xk, xt, dk, dt, rfl, hk, ht, hok, hz, hbad, q⟩ := h
  refine ⟨_, pss_cons (ps_try_as (c := .ref E0) (i := 2) (Wout := fun _ _ _ _ => False) rfl rfl sc__law_refused.nd rfl rfl ⟨rfl, by decide, .inl hE⟩ (fun u s' ⟨_, _, _, _, _, _, _, _, _, _, _, _, _, _, _, _, z⟩ => z.elim)
      (fun W pn xe tk _ => pss_one (ps_expr (mkS M FX hr rfl T.g_Atom bI tk (pa_cons (pv 0) (pa_cons (pv 1) pa_nil)))))
      (fun a oe cls d pn hz hf => pss_only (p := cls = .ref N ∧ d = none) fun ⟨e1, e2⟩ => by
        subst e1 e2
        exact pss_one (ps_ret (pe_callB (call_isE xc hz hf) rfl T.z_isinstance bt_isinstance (pa_cons (pv 2) (pa_cons (pe_glob (v := .ref N) rfl nv.g rfl) pa_nil))))))
    (pss_one (ps_ret pe_bl)), ?_⟩
  refine ⟨_, rfl, _, rfl, ?_⟩
  intro x dx hx' hdx hne
  have s1 : Same H (upd (upd H dx (.own x)) x (.ins C dx [])) := same_put (same_new hdx) hx'
  refine ⟨x, dx, xk, xt, dk, dt, rfl, upd_same, hk.same s1, ht.same s1, hok, hz, hbad, fun H' s' => ?_⟩
  refine ⟨true, hx, fun _ a na => ⟨⟨rfl, rfl⟩, _, rfl, .ref N, .ref N, true, rfl, fun u hu => hu, hki, ?_⟩, fun z => nomatch z⟩
  exact q H' (s1.trans s')
end
end Hc

namespace Hc
open PySem PySem.Spec PyProof.Rows L2 Hr
variable [Memo]
/-- a drawn term, and what was made since, beside the cells ps -/
structure Gs (C d c t : Addr) (ds : List D) (ps : List Addr) (H0 H : Hp) : Prop where
  hD : Dr H d c
  b : Bu2 d c H0 H
  tm : ∃ xs, H t = some (.tup xs) ∧ IsA C (nx ps H) xs ds
  is : ∀ p ∈ ps, ∃ o, H p = some o ∧ isLD o = true
  pd : d ∈ ps
  pc : c ∈ ps
section
variable {C d c t l p : Addr} {ds : List D} {ps : List Addr} {H0 H H' : Hp} {o : HO}
theorem Dr.nt (h : Dr H d c) {xs : List V} (e : H t = some (.tup xs)) : t ≠ d ∧ t ≠ c := by
  obtain ⟨⟨r, m, h1⟩, ns, _, h2⟩ := h
  exact ⟨fun z => (by rw [z, h1] at e; cases e), fun z => (by rw [z, h2] at e; cases e)⟩
theorem Gs.step (g : Gs C d c t ds ps H0 H) (hD : Dr H' d c) (b : Bu2 d c H H') : Gs C d c t ds ps H0 H' := by
  obtain ⟨xs, h1, h2⟩ := g.tm
  have n := g.hD.nt h1
  refine ⟨hD, g.b.trans b, ⟨xs, b _ _ h1 n.1 n.2, h2.same (nx_bu b g.pd g.pc)⟩, fun q hq => ?_, g.pd, g.pc⟩
  by_cases e1 : q = d
  · obtain ⟨⟨r, m, h⟩, _⟩ := hD; exact ⟨_, by rw [e1]; exact h, rfl⟩
  by_cases e2 : q = c
  · obtain ⟨_, ns, _, h⟩ := hD; exact ⟨_, by rw [e2]; exact h, rfl⟩
  obtain ⟨o, ho, hl⟩ := g.is q hq
  exact ⟨o, b _ _ ho e1 e2, hl⟩
theorem Gs.same (g : Gs C d c t ds ps H0 H) (s : Same H H') : Gs C d c t ds ps H0 H' := g.step (g.hD.same s) (Bu2.of s)
theorem Gs.off (g : Gs C d c t ds ps H0 H) (h : H p = none) : p ∉ ps := fun z => by
  obtain ⟨o, ho, _⟩ := g.is p z
  rw [h] at ho; cases ho
theorem Gs.tp (g : Gs C d c t ds ps H0 H) {xs : List V} (h : H p = some (.tup xs)) : nx ps H p = some (.tup xs) := by
  rw [nx_off fun z => ?_]
  · exact h
  · obtain ⟨o, ho, hl⟩ := g.is p z
    rw [h] at ho; cases ho; cases hl
theorem Gs.ts (g : Gs C d c t ds ps H0 H) {xs : List V} {es : List D} (h : H p = some (.tup xs)) (ia : IsA C (nx ps H) xs es) : Is C (nx ps H) (.ref p) (.tup es) := .tup (g.tp h) ia
theorem Gs.it (g : Gs C d c t ds ps H0 H) : Is C (nx ps H) (.ref t) (.tup ds) := by
  obtain ⟨xs, h1, h2⟩ := g.tm
  exact g.ts h1 h2
theorem Gs.new (g : Gs C d c t ds ps H0 H) (h : H p = none) : Gs C d c t ds ps H0 (upd H p o) ∧ nx ps (upd H p o) p = some o ∧ Same (nx ps H) (nx ps (upd H p o)) :=
  ⟨g.same (same_new h), by rw [nx_off (g.off h)]; exact upd_same, nx_same (same_new h)⟩
theorem Gs.row (g : Gs C d c t ds ps H0 H) {xk xt : V} {dk dt : D} (h : H p = none) (ik : Is C (nx ps H) xk dk) (it : Is C (nx ps H) xt dt) (bad : BadP dk dt) : RowB C (nx ps (upd H p (.tup [xk, xt]))) (.ref p) := by
  obtain ⟨_, e, s⟩ := g.new (o := .tup [xk, xt]) h
  exact ⟨p, xk, xt, dk, dt, rfl, e, ik.same s, it.same s, bad⟩
theorem rows_add {G G' : Hp} {xs : List V} {y : V} (R : ∀ x ∈ xs, RowB C G x) (s : Same G G') (r : RowB C G' y) : ∀ x ∈ xs ++ [y], RowB C G' x := fun x hx => by
  rcases List.mem_append.mp hx with hx | hx
  · exact (R x hx).same s
  · rw [List.mem_singleton.mp hx]; exact r
theorem rows_keep {G G' : Hp} {xs : List V} (R : ∀ x ∈ xs, RowB C G x) (s : Same G G') : ∀ x ∈ xs, RowB C G' x := fun x hx => (R x hx).same s
/-- what stands outside ps -/
theorem Gs.put (g : Gs C d c t ds ps H0 H) (s : Same H H') (h : H p = none) (e : H' p = some o) : nx ps H' p = some o := by rw [nx_off (g.off h)]; exact e
/-- rows of pairs -/
def Rw (C l : Addr) (ps : List Addr) (n : Nat) (H : Hp) : Prop := ∃ xs, H l = some (.lst xs) ∧ 0 < xs.length ∧ xs.length ≤ n ∧ ∀ x ∈ xs, RowB C (nx ps H) x
structure Fs (C d c l t : Addr) (ds : List D) (n : Nat) (H0 H : Hp) : Prop where
  g : Gs C d c t ds [d, c, l] H0 H
  r : Rw C l [d, c, l] n H
  nd : l ≠ d
  nc : l ≠ c
  h0 : H0 l = none
variable {n : Nat}
theorem Fs.step (f : Fs C d c l t ds n H0 H) (hD : Dr H' d c) (b : Bu2 d c H H') : Fs C d c l t ds n H0 H' := by
  obtain ⟨xs, h1, h2, h3, h4⟩ := f.r
  exact ⟨f.g.step hD b, ⟨xs, b _ _ h1 f.nd f.nc, h2, h3, fun x hx => (h4 x hx).same (nx_bu b f.g.pd f.g.pc)⟩, f.nd, f.nc, f.h0⟩
theorem Fs.same (f : Fs C d c l t ds n H0 H) (s : Same H H') : Fs C d c l t ds n H0 H' := f.step (f.g.hD.same s) (Bu2.of s)
theorem Fs.up {m : Nat} (f : Fs C d c l t ds n H0 H) (h : n ≤ m) : Fs C d c l t ds m H0 H := by
  obtain ⟨xs, h1, h2, h3, h4⟩ := f.r
  exact ⟨f.g, ⟨xs, h1, h2, Nat.le_trans h3 h, h4⟩, f.nd, f.nc, f.h0⟩
theorem Fs.app {a : Addr} {k : Str} {xt : V} {dt : D} {Q : VK} (f : Fs C d c l t ds n H0 H) (hn : n ≤ 30) (ha : H a = none) (it : Is C (nx [d, c, l] H) xt dt) (bad : BadP (.str k) dt) (q : ∀ H', Fs C d c l t ds (n + 1) H0 H' → Q .non H') :
    rAppend (.ref l) [.ref a] (upd H a (.tup [.str k, xt])) Q := by
  obtain ⟨g1, e1, s1⟩ := f.g.new (o := .tup [.str k, xt]) ha
  have f1 := f.same (same_new (o := .tup [.str k, xt]) ha)
  obtain ⟨xs, h1, h2, h3, h4⟩ := f1.r
  have row : RowB C (nx [d, c, l] (upd H a (.tup [.str k, xt]))) (.ref a) := ⟨a, _, _, .str k, dt, rfl, e1, .str k, it.same s1, bad⟩
  generalize upd H a (.tup [.str k, xt]) = H1 at *
  refine ⟨l, xs, .ref a, rfl, rfl, h1, small1000 (by omega), q _ ?_⟩
  have s2 : Same (nx [d, c, l] H1) (nx [d, c, l] (upd H1 l (.lst (xs ++ [.ref a])))) := nx_upd (by simp)
  obtain ⟨ys, t1, t2⟩ := g1.tm
  have nl : t ≠ l := fun z => by rw [z, h1] at t1; cases t1
  have hD1 := g1.hD
  obtain ⟨⟨r, m, u1⟩, ns, un, u2⟩ := hD1
  have dD : Dr (upd H1 l (.lst (xs ++ [.ref a]))) d c := ⟨⟨r, m, by rw [upd_ne f.nd.symm]; exact u1⟩, ns, un, by rw [upd_ne f.nc.symm]; exact u2⟩
  refine ⟨⟨dD, fun x o e z1 z2 => ?_, ⟨ys, by rw [upd_ne nl]; exact t1, t2.same s2⟩, fun p hp => ?_, g1.pd, g1.pc⟩, ⟨_, upd_same, by simp, by simp; omega, fun x hx => ?_⟩, f.nd, f.nc, f.h0⟩
  · rw [upd_ne (ne_of_none e f.h0)]; exact g1.b x o e z1 z2
  · by_cases e : p = l
    · rw [e]; exact ⟨_, upd_same, rfl⟩
    · obtain ⟨o, ho, hl⟩ := g1.is p hp
      exact ⟨o, by rw [upd_ne e]; exact ho, hl⟩
  · rcases List.mem_append.mp hx with hx | hx
    · exact (h4 x hx).same s2
    · rw [List.mem_singleton.mp hx]; exact row.same s2
/-- the rows begin -/
theorem Gs.rows (g : Gs C d c t ds [d, c] H0 H) {xs : List V} (h0 : H0 l = none) (h : H l = none) (hl : 0 < xs.length) (hn : xs.length ≤ n) (R : ∀ x ∈ xs, RowB C (nx [d, c] H) x) : Fs C d c l t ds n H0 (upd H l (.lst xs)) := by
  have s : Same (nx [d, c] H) (nx [d, c, l] (upd H l (.lst xs))) := nx_add h
  have g1 := g.same (same_new (o := .lst xs) h)
  obtain ⟨ys, t1, t2⟩ := g.tm
  have o := g.hD.off h
  refine ⟨⟨g1.hD, g1.b, ⟨ys, same_new h _ _ t1, t2.same s⟩, fun p hp => ?_, by simp, by simp⟩, ⟨xs, upd_same, hl, hn, rows_keep R s⟩, o.1, o.2, h0⟩
  by_cases e : p = l
  · rw [e]; exact ⟨_, upd_same, rfl⟩
  · exact g1.is p (by simp only [List.mem_cons, List.not_mem_nil, or_false] at hp ⊢; rcases hp with h | h | h <;> first | exact .inl h | exact .inr h | exact absurd h e)
end
end Hc

set_option maxHeartbeats 8000000
namespace Hc
open PySem PySem.Spec PyProof.Rows L2 Hr
variable [Memo]
def spFy (C : Addr) : Sp := fun vs H Q _ => ∃ d c, vs = [.ref d] ∧ Dr H d c ∧ ∀ H' x, Dr H' d c → Bu2 d c H H' → RowB C H' x → Q x H'
theorem five_forms {k : Str} (h : five k) {ds : List D} (ht : isTermK k ds = true) : ∃ fs, formsOf k = some fs ∧ ds.length = fs.length ∧ fs[0]? = some ("text" : Str) ∧ 2 ≤ fs.length ∧ fs.length ≤ 6 ∧ ∀ p ∈ ds.zip fs, partOk p.1 p.2 = true := by
  unfold isTermK at ht
  rcases h with rfl | rfl | rfl | rfl | rfl
  · refine ⟨["text", "tuple", "word"], by decide +kernel, ?_⟩; rw [show formsOf "token" = some (["text", "tuple", "word"] : List Str) by decide +kernel] at ht; simp only [Bool.and_eq_true, decide_eq_true_eq, List.all_eq_true] at ht; exact ⟨ht.1, rfl, by decide, by decide, ht.2⟩
  · refine ⟨["text", "number"], by decide +kernel, ?_⟩; rw [show formsOf "challenge" = some (["text", "number"] : List Str) by decide +kernel] at ht; simp only [Bool.and_eq_true, decide_eq_true_eq, List.all_eq_true] at ht; exact ⟨ht.1, rfl, by decide, by decide, ht.2⟩
  · refine ⟨["text", "number", "number", "hidden"], by decide +kernel, ?_⟩; rw [show formsOf "seal" = some (["text", "number", "number", "hidden"] : List Str) by decide +kernel] at ht; simp only [Bool.and_eq_true, decide_eq_true_eq, List.all_eq_true] at ht; exact ⟨ht.1, rfl, by decide, by decide, ht.2⟩
  · refine ⟨["text", "number", "text", "tuple", "pages", "tuple"], by decide +kernel, ?_⟩; rw [show formsOf "ticket" = some (["text", "number", "text", "tuple", "pages", "tuple"] : List Str) by decide +kernel] at ht; simp only [Bool.and_eq_true, decide_eq_true_eq, List.all_eq_true] at ht; exact ⟨ht.1, rfl, by decide, by decide, ht.2⟩
  · refine ⟨["text", "number", "number", "hidden"], by decide +kernel, ?_⟩; rw [show formsOf "page" = some (["text", "number", "number", "hidden"] : List Str) by decide +kernel] at ht; simp only [Bool.and_eq_true, decide_eq_true_eq, List.all_eq_true] at ht; exact ⟨ht.1, rfl, by decide, by decide, ht.2⟩
theorem five_ok {k : Str} (h : five k) : KindOk (.str k) := by
  rcases h with rfl | rfl | rfl | rfl | rfl <;> simp [KindOk]
/-- what is small enough for all that follows -/
def Sm (ds : List D) : Prop := szL ds ≤ 2000 ∧ txlL ds
theorem Sm.fit {ds : List D} (h : Sm ds) : Fit (.tup ds) := ⟨by simp only [sz]; have := h.1; omega, by simp only [txl]; exact h.2⟩
theorem bad_set {k : Str} (hk : five k) {fs : List Str} {ds r : List D} {e : D} {i : Nat} {z : Str} (hf : formsOf k = some fs) (hl : ds.length = fs.length) (hz : fs[i]? = some z) (he : partOk e z = false) (hs : Sm (ds.take i ++ [e] ++ r)) : BadP (.str k) (.tup (ds.take i ++ [e] ++ r)) := by
  have hi : i < fs.length := (List.getElem?_eq_some_iff.mp hz).1
  exact ⟨five_ok hk, hs.fit, by simp only [isTermD]; exact bad_at hf (set_at (by omega)) hz he⟩
theorem bad_l {k : Str} (hk : five k) {fs : List Str} {ds : List D} (hf : formsOf k = some fs) (hl : ds.length ≠ fs.length) (hs : Sm ds) : BadP (.str k) (.tup ds) := ⟨five_ok hk, hs.fit, by simp only [isTermD]; exact bad_len hf hl⟩
theorem part_odd {e : D} (h : okW 40 40 0 e = false) (z : Str) : partOk e z = false := by unfold partOk; rw [h]; rfl
theorem part_form {e : D} {z : Str} (h : hasF e z = false) : partOk e z = false := by unfold partOk; rw [h, Bool.and_false]
theorem num1 {k : Str} (h : five k) (hk : k ≠ "token") {fs : List Str} (hf : formsOf k = some fs) : fs[1]? = some ("number" : Str) := by
  rcases h with rfl | rfl | rfl | rfl | rfl
  · exact absurd rfl hk
  · rw [show formsOf "challenge" = some (["text", "number"] : List Str) by decide +kernel] at hf; cases hf; rfl
  · rw [show formsOf "seal" = some (["text", "number", "number", "hidden"] : List Str) by decide +kernel] at hf; cases hf; rfl
  · rw [show formsOf "ticket" = some (["text", "number", "text", "tuple", "pages", "tuple"] : List Str) by decide +kernel] at hf; cases hf; rfl
  · rw [show formsOf "page" = some (["text", "number", "number", "hidden"] : List Str) by decide +kernel] at hf; cases hf; rfl
/-- a picked value that fits no form z -/
def Od (C : Addr) (H : Hp) (x : V) (z : Str → Prop) : Prop := ∃ e, Is C H x e ∧ sz e ≤ 20 ∧ txl e ∧ ∀ y, z y → partOk e y = false
section
variable {P : Program} {w : World} {K : PySem.W.Frag} {mg : Str → Option Value} {base : Heap} {f : Addr} {fd : FuncData} {C : Addr}
abbrev s__law_faulty : Stmt := top 48
theorem sc__law_faulty : FnScope ["draws", "kind", "term", "at", "rows"] ["draws"] (C8.fnScope s__law_faulty) := C8.fnScope_by (by decide +kernel)
theorem ok__law_faulty (F : C8.Def K mg "_law_faulty" s__law_faulty f fd) (b : Binds K fd ["draws"] []) (T : Txt K mg w C) (c__law_draw : C8.Cal P w K mg base 1 "_law_draw" spDraw []) (c__law_pick : C8.Cal P w K mg base 2 "_law_pick" spPick []) (c__law_term : C8.Cal P w K mg base 12 "_law_term" (spTm C 2) []) : C8.Cal P w K mg base 13 "_law_faulty" (spFy C) [] := by
  refine C8.cal0 F b .nil sc__law_faulty (fun vs H Q E h => ?_) (fun cdv A outer s H vs Q E hr h => ?_)
  · obtain ⟨d, c, rfl, _⟩ := h; rfl
  obtain ⟨d, c, rfl, hD, q⟩ := h
  refine ⟨_, (pss_cons (ps_set (i := 1) sc__law_faulty.nd rfl (Or.inl rfl) (C8.pe_c c__law_pick hr (by first | decide | omega) rfl (pa_cons (pv 0) (pa_cons (pe_lst (pa_cons pe_str (pa_cons pe_str (pa_cons pe_str (pa_cons pe_str (pa_cons pe_str pa_nil)))))) pa_nil))))
      (pss_cons (ps_set (i := 2) sc__law_faulty.nd rfl (Or.inl rfl) (C8.pe_c c__law_term hr (by first | decide | omega) rfl (pa_cons (pv 0) (pa_cons (pv 1) (pa_cons pe_int pa_nil)))))
      (pss_cons (ps_set (i := 3) sc__law_faulty.nd rfl (Or.inl rfl) (C8.pe_c c__law_draw hr (by first | decide | omega) rfl (pa_cons (pv 0) (pa_cons (pe_callB call_lenS rfl T.z_len bt_len (pa_cons (pv 2) pa_nil)) pa_nil))))
      (C8.pss_cut (ps_set (i := 4) sc__law_faulty.nd rfl (Or.inl rfl) (pe_lst (pa_cons (pe_tup (pa_cons pe_str (pa_cons (pv 2) pa_nil))) (pa_cons (pe_tup (pa_cons pe_non (pa_cons (pv 2) pa_nil))) (pa_cons (pe_tup (pa_cons (pv 1) (pa_cons (pe_callTy call_list_of rfl T.z_list bt_list (pa_cons (pv 2) pa_nil)) pa_nil))) (pa_cons (pe_tup (pa_cons (pv 1) (pa_cons (pe_op op_catA (pv 2) (pe_tup (pa_cons pe_int pa_nil))) pa_nil))) (pa_cons (pe_tup (pa_cons (pv 1) (pa_cons (pe_slice sl_tupA (pv 2) (po_some pe_int) po_none) pa_nil))) (pa_cons (pe_tup (pa_cons (pv 1) (pa_cons (pe_tup pa_nil) pa_nil))) pa_nil))))))))
      (C8.pss_cut (ps_expr (pe_bm PySem.F.plainAttrs_list PySem.F.slot_list_append PySem.F.type_list_append mt_append (pv 4) (pa_cons (pe_tup (pa_cons (pv 1) (pa_cons (pe_op op_catA (pe_op op_catA (pe_slice sl_tupA (pv 2) po_none (po_some (pv 3))) (pe_tup (pa_cons (C8.pe_c c__law_pick hr (by first | decide | omega) rfl (pa_cons (pv 0) (pa_cons (pe_lst (pa_cons pe_bl (pa_cons (pe_lst (pa_cons pe_int pa_nil)) (pa_cons pe_str (pa_cons (pe_lst pa_nil) (pa_cons pe_int (pa_cons (pe_op op_smul pe_str pe_int) pa_nil))))))) pa_nil))) pa_nil))) (pe_slice sl_tupA (pv 2) (po_some (pe_op op_add (pv 3) pe_int)) po_none)) pa_nil))) pa_nil)))
      (C8.pss_cut (ps_expr (pe_bm PySem.F.plainAttrs_list PySem.F.slot_list_append PySem.F.type_list_append mt_append (pv 4) (pa_cons (pe_tup (pa_cons (pv 1) (pa_cons (pe_op op_catA (pe_tup (pa_cons (C8.pe_c c__law_pick hr (by first | decide | omega) rfl (pa_cons (pv 0) (pa_cons (pe_lst (pa_cons pe_non (pa_cons pe_int (pa_cons (pe_tup pa_nil) pa_nil)))) pa_nil))) pa_nil)) (pe_slice sl_tupA (pv 2) (po_some pe_int) po_none)) pa_nil))) pa_nil)))
      (C8.pss_cut (ps_if (pt_cmpR op_eq (pv 1) pe_str (nomark _)) (pss_one (ps_expr (pe_bm PySem.F.plainAttrs_list PySem.F.slot_list_append PySem.F.type_list_append mt_append (pv 4) (pa_cons (pe_tup (pa_cons (pv 1) (pa_cons (pe_tup (pa_cons (pe_ix ix_tup (pv 2) pe_int (fun _ _ => rfl)) (pa_cons (C8.pe_c c__law_pick hr (by first | decide | omega) rfl (pa_cons (pv 0) (pa_cons (pe_lst (pa_cons pe_non (pa_cons pe_int (pa_cons pe_str pa_nil)))) pa_nil))) (pa_cons (pe_ix ix_tup (pv 2) pe_int (fun _ _ => rfl)) pa_nil)))) pa_nil))) pa_nil)))) (pss_one (ps_expr (pe_bm PySem.F.plainAttrs_list PySem.F.slot_list_append PySem.F.type_list_append mt_append (pv 4) (pa_cons (pe_tup (pa_cons (pv 1) (pa_cons (pe_op op_catA (pe_op op_catA (pe_slice sl_tupA (pv 2) po_none (po_some pe_int)) (pe_tup (pa_cons (C8.pe_c c__law_pick hr (by first | decide | omega) rfl (pa_cons (pv 0) (pa_cons (pe_lst (pa_cons pe_non (pa_cons pe_str (pa_cons (pe_tup pa_nil) pa_nil)))) pa_nil))) pa_nil))) (pe_slice sl_tupA (pv 2) (po_some pe_int) po_none)) pa_nil))) pa_nil)))))
      (C8.pss_cut (ps_if (pt_cmpR op_in_seq (pv 1) (pe_lst (pa_cons pe_str (pa_cons pe_str pa_nil))) (by with_unfolding_all rfl)) (C8.pss_cut (ps_expr (pe_bm PySem.F.plainAttrs_list PySem.F.slot_list_append PySem.F.type_list_append mt_append (pv 4) (pa_cons (pe_tup (pa_cons (pv 1) (pa_cons (pe_op op_catA (pe_slice sl_tupA (pv 2) po_none (po_some pe_int)) (pe_tup (pa_cons (C8.pe_c c__law_pick hr (by first | decide | omega) rfl (pa_cons (pv 0) (pa_cons (pe_lst (pa_cons (pe_tup pa_nil) (pa_cons (pe_tup (pa_cons pe_int (pa_cons pe_int (pa_cons pe_int pa_nil)))) (pa_cons pe_int (pa_cons (pe_tup (pa_cons pe_int (pa_cons pe_int (pa_cons pe_int (pa_cons pe_int (pa_cons pe_int pa_nil)))))) (pa_cons pe_str pa_nil)))))) pa_nil))) pa_nil))) pa_nil))) pa_nil)))
      (pss_one (ps_expr (pe_bm PySem.F.plainAttrs_list PySem.F.slot_list_append PySem.F.type_list_append mt_append (pv 4) (pa_cons (pe_tup (pa_cons (pv 1) (pa_cons (pe_op op_catA (pe_op op_catA (pe_slice sl_tupA (pv 2) po_none (po_some pe_int)) (pe_tup (pa_cons (C8.pe_c c__law_pick hr (by first | decide | omega) rfl (pa_cons (pv 0) (pa_cons (pe_lst (pa_cons pe_non (pa_cons pe_str pa_nil))) pa_nil))) pa_nil))) (pe_slice sl_tupA (pv 2) (po_some pe_int) po_none)) pa_nil))) pa_nil))))) pss_nil)
      (C8.pss_cut (ps_if (pt_cmpR op_eq (pv 1) pe_str (nomark _)) (C8.pss_cut (ps_expr (pe_bm PySem.F.plainAttrs_list PySem.F.slot_list_append PySem.F.type_list_append mt_append (pv 4) (pa_cons (pe_tup (pa_cons (pv 1) (pa_cons (pe_op op_catA (pe_slice sl_tupA (pv 2) po_none (po_some pe_int)) (pe_tup (pa_cons (pe_slice sl_tupA (pe_ix ix_tup (pv 2) pe_int (fun _ _ => rfl)) (po_some pe_int) po_none) (pa_cons (pe_ix ix_tup (pv 2) pe_int (fun _ _ => rfl)) pa_nil)))) pa_nil))) pa_nil)))
      (C8.pss_cut (ps_expr (pe_bm PySem.F.plainAttrs_list PySem.F.slot_list_append PySem.F.type_list_append mt_append (pv 4) (pa_cons (pe_tup (pa_cons (pv 1) (pa_cons (pe_op op_catA (pe_op op_catA (pe_slice sl_tupA (pv 2) po_none (po_some pe_int)) (pe_tup (pa_cons (C8.pe_c c__law_pick hr (by first | decide | omega) rfl (pa_cons (pv 0) (pa_cons (pe_lst (pa_cons pe_non (pa_cons pe_int pa_nil))) pa_nil))) pa_nil))) (pe_slice sl_tupA (pv 2) (po_some pe_int) po_none)) pa_nil))) pa_nil)))
      (pss_one (ps_expr (pe_bm PySem.F.plainAttrs_list PySem.F.slot_list_append PySem.F.type_list_append mt_append (pv 4) (pa_cons (pe_tup (pa_cons (pv 1) (pa_cons (pe_op op_catA (pe_slice sl_tupA (pv 2) po_none (po_some pe_int)) (pe_tup (pa_cons (C8.pe_c c__law_pick hr (by first | decide | omega) rfl (pa_cons (pv 0) (pa_cons (pe_lst (pa_cons pe_non (pa_cons pe_int (pa_cons pe_str pa_nil)))) pa_nil))) pa_nil))) pa_nil))) pa_nil)))))) pss_nil)
      (pss_one (ps_ret (C8.pe_c c__law_pick hr (by first | decide | omega) rfl (pa_cons (pv 0) (pa_cons (pv 4) pa_nil)))))))))))))), ?_⟩
  refine ⟨_, rfl, (by show 5 ≤ sizeLine; decide), fun l1 h1 => pick_new hD h1 (by show 0 < 5; decide) (by show 5 < 1000000; decide) fun H1 x1 hD1 b1 hx1 => ?_⟩
  obtain ⟨kd, rfl, hkd⟩ : ∃ a, x1 = .str a ∧ five a := by
    unfold five
    simp only [List.mem_cons, List.not_mem_nil, or_false] at hx1
    rcases hx1 with rfl | rfl | rfl | rfl | rfl <;> exact ⟨_, rfl, by simp⟩
  refine ⟨_, rfl, _, rfl, d, c, kd, 1, rfl, hkd, by decide, by decide, hD1, fun H2 t ds hD2 b2 it hte => ?_⟩
  have cl : clnL ds = true := wrdL_cln hte.l.w
  have sm0 : Sm ds := ⟨by have := hte.l.z; omega, hte.l.t⟩
  obtain ⟨fs, hfs, hlen, hf0, hg2, hg6, hall⟩ := five_forms hkd hte.i
  cases it with
  | @tup _ xs0 _ ht0 ix0 =>
  have hxl := ix0.len
  refine ⟨_, rfl, _, rfl, t, xs0, rfl, .inr (SqT.of ht0), d, c, xs0.length, rfl, hD2, by omega, by omega, fun H3 at_ hD3 b3 g0 g1 => ?_⟩
  obtain ⟨at_, rfl⟩ : ∃ j : Nat, at_ = (j : Int) := ⟨at_.toNat, by omega⟩
  have gA : Gs C d c t ds [d, c] H3 H3 := by
    have n := hD2.nt ht0
    refine ⟨hD3, Bu2.refl, ⟨xs0, b3 _ _ ht0 n.1 n.2, ?_⟩, fun p hp => ?_, by simp, by simp⟩
    · have := IsA.keep (nx_keep hD3.ld) cl (IsA.keep (hD2.keep b3) cl ix0)
      exact this
    · exact hD3.ld p hp
  have smc : ∀ {a b : List D}, Sm a → Sm b → szL a + szL b ≤ 2000 → Sm (a ++ b) := fun {a b} h1 h2 h3 => ⟨by rw [szL_app]; exact h3, (txlL_app _ _).mpr ⟨h1.2, h2.2⟩⟩
  have z0 : szL ds ≤ 620 := by have := hte.l.z; omega
  -- the rows
  refine ⟨fun σ' H' => ∃ l, σ' = [some (.ref d), some (.str kd), some (.ref t), some (.int (at_ : Nat)), some (.ref l)] ∧ Fs C d c l t ds 6 H3 H', ?_, ?_⟩
  · refine ⟨_, rfl, (by show 2 ≤ sizeLine; decide), fun p1 hp1 => ?_⟩
    have r1 := gA.row hp1 (.str "key") gA.it ⟨by simp [KindOk], sm0.fit, by simp only [isTermD, isTermK]; rw [show formsOf "key" = none by decide +kernel]⟩
    obtain ⟨gB, _, sB⟩ := gA.new (o := .tup [.str "key", .ref t]) hp1
    have R1 : ∀ x ∈ [V.ref p1], RowB C (nx [d, c] (upd H3 p1 (.tup [.str "key", .ref t]))) x := fun x hx => by rw [List.mem_singleton.mp hx]; exact r1
    generalize upd H3 p1 (.tup [.str "key", .ref t]) = HB at *
    refine ⟨_, rfl, (by show 2 ≤ sizeLine; decide), fun p2 hp2 => ?_⟩
    have r2 := gB.row hp2 .non gB.it ⟨by simp [KindOk], sm0.fit, rfl⟩
    obtain ⟨gC, _, sC⟩ := gB.new (o := .tup [.non, .ref t]) hp2
    have R2 := rows_add R1 sC r2
    generalize upd HB p2 (.tup [.non, .ref t]) = HC at *
    obtain ⟨xs, ht, ix⟩ := gC.tm
    refine ⟨_, rfl, _, rfl, t, xs, rfl, .inr (SqT.of ht), fun q3 hq3 => ⟨(by show 2 ≤ sizeLine; decide), fun p3 hp3 => ?_⟩⟩
    obtain ⟨gD, eD, sD⟩ := gC.new (o := .lst xs) hq3
    have R3 := rows_keep R2 sD
    have iD : Is C (nx [d, c] (upd HC q3 (.lst xs))) (.ref q3) (.lst ds) := .lst eD (ix.same sD)
    generalize upd HC q3 (.lst xs) = HD at *
    have r3 := gD.row hp3 (.str kd) iD ⟨five_ok hkd, ⟨by simp only [sz]; omega, by simp only [txl]; exact sm0.2⟩, rfl⟩
    obtain ⟨gE, _, sE⟩ := gD.new (o := .tup [.str kd, .ref q3]) hp3
    have R4 := rows_add R3 sE r3
    generalize upd HD p3 (.tup [.str kd, .ref q3]) = HE at *
    -- term + (0,)
    refine ⟨_, rfl, _, rfl, (by show 1 ≤ sizeLine; decide), fun q4 hq4 => ?_⟩
    obtain ⟨gF, eF, sF⟩ := gE.new (o := .tup [.int 0]) hq4
    have R5 := rows_keep R4 sF
    have hF : upd HE q4 (.tup [.int 0]) q4 = some (.tup [.int 0]) := upd_same
    generalize upd HE q4 (.tup [.int 0]) = HF at *
    obtain ⟨xs, ht, ix⟩ := gF.tm
    have hxs := ix.len
    refine cat_go ht hF (show xs.length + 1 ≤ sizeLine from small1000 (by omega)) fun HG p4 sG eG => ⟨(by show 2 ≤ sizeLine; decide), fun p5 hp5 => ?_⟩
    have gG := gF.same sG
    have R6 := rows_keep R5 (nx_same sG)
    have iG : Is C (nx [d, c] HG) (.ref p4) (.tup (ds ++ [.int 0])) := gG.ts eG ((ix.same (nx_same sG)).app (.cons (.int 0) .nil))
    have r4 := gG.row hp5 (.str kd) iG (bad_l hkd hfs (by simp; omega) (smc sm0 ⟨by decide, trivial, trivial⟩ (by simp only [szL, sz]; omega)))
    obtain ⟨gH, _, sH⟩ := gG.new (o := .tup [.str kd, .ref p4]) hp5
    have R7 := rows_add R6 sH r4
    generalize upd HG p5 (.tup [.str kd, .ref p4]) = HH at *
    -- term[1:]
    obtain ⟨xs, ht, ix⟩ := gH.tm
    refine ⟨_, rfl, _, rfl, 1, rfl, ?_⟩
    refine sl_goL ht fun HI p6 sI eI => ⟨(by show 2 ≤ sizeLine; decide), fun p7 hp7 => ?_⟩
    rw [show (1 : Int) = ((1 : Nat) : Int) from rfl, cut_from] at eI
    have gI := gH.same sI
    have R8 := rows_keep R7 (nx_same sI)
    have iI : Is C (nx [d, c] HI) (.ref p6) (.tup (ds.drop 1)) := gI.ts eI (isA_drop 1 (ix.same (nx_same sI)))
    have r5 := gI.row hp7 (.str kd) iI (bad_l hkd hfs (by simp; omega) ⟨by have := szLdr ds 1; omega, txlLdr ds 1 sm0.2⟩)
    obtain ⟨gJ, _, sJ⟩ := gI.new (o := .tup [.str kd, .ref p6]) hp7
    have R9 := rows_add R8 sJ r5
    generalize upd HI p7 (.tup [.str kd, .ref p6]) = HJ at *
    -- ()
    refine ⟨_, rfl, (by show 0 ≤ sizeLine; decide), fun p8 hp8 => ⟨(by show 2 ≤ sizeLine; decide), fun p9 hp9 => ?_⟩⟩
    obtain ⟨gK, eK, sK⟩ := gJ.new (o := .tup []) hp8
    have Ra := rows_keep R9 sK
    have iK : Is C (nx [d, c] (upd HJ p8 (.tup []))) (.ref p8) (.tup []) := .tup eK .nil
    generalize upd HJ p8 (.tup []) = HK at *
    have r6 := gK.row hp9 (.str kd) iK (bad_l hkd hfs (by simp; omega) ⟨by decide, trivial⟩)
    obtain ⟨gL, _, sL⟩ := gK.new (o := .tup [.str kd, .ref p8]) hp9
    have Rb := rows_add Ra sL r6
    generalize upd HK p9 (.tup [.str kd, .ref p8]) = HL at *
    refine ⟨(by show 6 ≤ sizeLine; decide), fun l hl => ⟨l, rfl, ?_⟩⟩
    refine gL.rows ?_ hl (by show 0 < 6; decide) (by show 6 ≤ 6; decide) Rb
    cases e : H3 l with
    | none => rfl
    | some o =>
      have n1 : l ≠ d := (gL.hD.off hl).1
      have n2 : l ≠ c := (gL.hD.off hl).2
      rw [gL.b _ _ e n1 n2] at hl; cases hl
  rintro σ' H' ⟨l, rfl, f1⟩
  have hat : at_ < ds.length := by omega
  have smt : ∀ n, Sm (ds.take n) := fun n => ⟨by have := szLtk ds n; omega, txlLtk ds n sm0.2⟩
  have smd : ∀ n, Sm (ds.drop n) := fun n => ⟨by have := szLdr ds n; omega, txlLdr ds n sm0.2⟩
  have smx : ∀ i j (e : D), sz e ≤ 20 → txl e → Sm (ds.take i ++ [e] ++ ds.drop j) := fun i j e h1 h2 => by
    have a1 := szLtk ds i
    have a2 := szLdr ds j
    have b1 : Sm (ds.take i ++ [e]) := smc (smt i) ⟨by simp only [szL]; omega, h2, trivial⟩ (by simp only [szL]; omega)
    exact smc b1 (smd j) (by rw [szL_app]; simp only [szL]; omega)
  obtain ⟨zat, hzat⟩ : ∃ z, fs[at_]? = some z := ⟨fs[at_], List.getElem?_eq_getElem (by omega)⟩
  refine ⟨fun σ' H' => σ' = [some (.ref d), some (.str kd), some (.ref t), some (.int (at_ : Nat)), some (.ref l)] ∧ Fs C d c l t ds 7 H3 H', ?_, ?_⟩
  · obtain ⟨rs, hl, _, _, _⟩ := f1.r
    obtain ⟨xs, ht, ix⟩ := f1.g.tm
    have hxs := ix.len
    have hdl : ds.length ≤ 6 := by omega
    refine ⟨_, rfl, .inl ⟨rfl, _, SqL.of hl⟩, _, rfl, _, rfl, _, rfl, _, rfl, ?_⟩
    refine sl_go ht fun HA pA sA eA => ?_
    rw [cut_to] at eA
    have fA := f1.same sA
    have iA := ix.same (nx_same sA)
    have tA := sA _ _ ht
    refine ⟨_, rfl, ?_⟩
    refine ⟨(by show 1 ≤ sizeLine; decide), fun q1 hq1 => ?_⟩
    obtain ⟨_, eq1, sq1⟩ := fA.g.new (o := .lst [.int 0]) hq1
    have fq1 := fA.same (same_new (o := .lst [.int 0]) hq1)
    have kq1 := same_new (o := .lst [.int 0]) hq1
    generalize upd _ q1 (.lst [.int 0]) = Hq1 at *
    refine ⟨(by show 0 ≤ sizeLine; decide), fun q2 hq2 => ?_⟩
    obtain ⟨_, eq2, sq2⟩ := fq1.g.new (o := .lst []) hq2
    have fq2 := fq1.same (same_new (o := .lst []) hq2)
    have kq2 := same_new (o := .lst []) hq2
    generalize upd _ q2 (.lst []) = Hq2 at *
    refine ⟨"x", 25, rfl, rfl, smul25, ?_⟩
    rw [smul25v]
    refine ⟨(by show 6 ≤ sizeLine; decide), fun lp hlp => pick_new (xs := [.bl true, .ref q1, .str "\n", .ref q2, .int 2147483648, .str ("xxxxxxxxxxxxxxxxxxxxxxxxx")]) fq2.g.hD hlp (by show 0 < 6; decide) (by show 6 < 1000000; decide) fun HB x hDB bB hx => ?_⟩
    have fB := fq2.step hDB bB
    have sB := nx_bu bB fq2.g.pd fq2.g.pc
    have vq1 := sB _ _ (sq2 _ _ eq1)
    have vq2 := sB _ _ eq2
    obtain ⟨e, ie, ze, te, be⟩ : Od C (nx [d, c, l] HB) x (fun _ => True) := by
      simp only [List.mem_cons, List.not_mem_nil, or_false] at hx
      rcases hx with rfl | rfl | rfl | rfl | rfl | rfl
      · exact ⟨.bl true, .bl _, by simp only [sz]; omega, trivial, fun y _ => part_odd rfl y⟩
      · exact ⟨.lst [.int 0], .lst vq1 (.cons (.int _) .nil), by decide, by simp [txl, txlL], fun y _ => part_odd rfl y⟩
      · exact ⟨.str "\n", .str _, by simp only [sz]; omega, (show ("\n" : Str).length ≤ sizeLine by decide +kernel), fun y _ => part_odd (by decide +kernel) y⟩
      · exact ⟨.lst [], .lst vq2 .nil, by decide, by simp [txl, txlL], fun y _ => part_odd rfl y⟩
      · exact ⟨.int 2147483648, .int _, by simp only [sz]; omega, trivial, fun y _ => part_odd (by decide) y⟩
      · exact ⟨.str "xxxxxxxxxxxxxxxxxxxxxxxxx", .str _, by simp only [sz]; omega, (show ("xxxxxxxxxxxxxxxxxxxxxxxxx" : Str).length ≤ sizeLine by decide +kernel), fun y _ => part_odd (by decide +kernel) y⟩
    have iB := iA
    have iB := iB.same (nx_same kq1)
    have iB := iB.same (nx_same kq2)
    have iB := iB.same sB
    have mv : ∀ {z : Addr} {ys : List V}, HA z = some (.tup ys) → HB z = some (.tup ys) := fun {z ys} e0 => by
      have := fA.g.tp e0
      have := nx_same kq1 _ _ this
      have := nx_same kq2 _ _ this
      exact nx_le _ _ (sB _ _ this)
    refine ⟨(by show 1 ≤ sizeLine; decide), fun w hw => ?_⟩
    have sC := same_new (o := .tup [x]) hw
    have fC := fB.same sC
    have hC : upd HB w (.tup [x]) w = some (.tup [x]) := upd_same
    have iC := iB.same (nx_same sC)
    have jC := ie.same (nx_same sC)
    have tC := sC _ _ (mv tA)
    have pC := sC _ _ (mv eA)
    generalize upd HB w (.tup [x]) = HC at *
    have lpp : (xs.take at_).length ≤ 6 := by rw [List.length_take]; omega
    refine cat_go pC hC (show (xs.take at_).length + 1 ≤ sizeLine from small1000 (by omega)) fun HD pD sD eD => ?_
    have fD := fC.same sD
    have iD : IsA C (nx [d, c, l] HD) (xs.take at_ ++ [x]) (ds.take at_ ++ [e]) := ((isA_take at_ iC).same (nx_same sD)).app (.cons (jC.same (nx_same sD)) .nil)
    have iE := iC.same (nx_same sD)
    have tD := sD _ _ tC
    have lq : (xs.take at_ ++ [x]).length ≤ 7 := by rw [List.length_append, List.length_singleton]; omega
    refine ⟨_, rfl, _, rfl, _, _, rfl, rfl, _, rfl, ?_⟩
    refine sl_goL tD fun HE pE sE eE => ?_
    rw [show ((at_ : Nat) : Int) + 1 = ((at_ + 1 : Nat) : Int) by omega, cut_from] at eE
    have lr : (xs.drop (at_ + 1)).length ≤ 6 := by rw [List.length_drop]; omega
    refine cat_go (sE _ _ eD) eE (Nat.le_of_lt (small1000 (by omega))) fun HF pF sF eF => ⟨(by show 2 ≤ sizeLine; decide), fun a ha => ?_⟩
    have fF := (fD.same sE).same sF
    have iF := ((iD.same (nx_same sE)).same (nx_same sF)).app (((isA_drop (at_ + 1) iE).same (nx_same sE)).same (nx_same sF))
    exact fF.app (Q := fun _ H' => ([some (.ref d), some (.str kd), some (.ref t), some (.int (at_ : Nat)), some (.ref l)] : L2.St) = [some (.ref d), some (.str kd), some (.ref t), some (.int (at_ : Nat)), some (.ref l)] ∧ Fs C d c l t ds 7 H3 H') (by decide) ha (fF.g.ts eF iF) (bad_set hkd hfs hlen hzat (be _ trivial) (smx _ _ _ ze te)) fun H' f2 => ⟨rfl, f2⟩
  rintro σ' H' ⟨rfl, f1⟩
  refine ⟨fun σ' H' => σ' = [some (.ref d), some (.str kd), some (.ref t), some (.int (at_ : Nat)), some (.ref l)] ∧ Fs C d c l t ds 8 H3 H', ?_, ?_⟩
  · obtain ⟨rs, hl, _, _, _⟩ := f1.r
    obtain ⟨xs, ht, ix⟩ := f1.g.tm
    have hxs := ix.len
    have hdl : ds.length ≤ 6 := by omega
    have fA := f1
    have iA := ix
    have tA := ht
    refine ⟨_, rfl, .inl ⟨rfl, _, SqL.of hl⟩, _, rfl, _, rfl, ?_⟩
    refine ⟨(by show 0 ≤ sizeLine; decide), fun q1 hq1 => ?_⟩
    obtain ⟨_, eq1, sq1⟩ := fA.g.new (o := .tup []) hq1
    have fq1 := fA.same (same_new (o := .tup []) hq1)
    have kq1 := same_new (o := .tup []) hq1
    generalize upd _ q1 (.tup []) = Hq1 at *
    refine ⟨(by show 3 ≤ sizeLine; decide), fun lp hlp => pick_new (xs := [.non, .int 0, .ref q1]) fq1.g.hD hlp (by show 0 < 3; decide) (by show 3 < 1000000; decide) fun HB x hDB bB hx => ?_⟩
    have fB := fq1.step hDB bB
    have sB := nx_bu bB fq1.g.pd fq1.g.pc
    have vq1 := sB _ _ eq1
    obtain ⟨e, ie, ze, te, be⟩ : Od C (nx [d, c, l] HB) x (fun z => z = "text") := by
      simp only [List.mem_cons, List.not_mem_nil, or_false] at hx
      rcases hx with rfl | rfl | rfl
      · exact ⟨.non, .non, by simp only [sz]; omega, trivial, fun y hy => by subst hy; exact part_form (by decide +kernel)⟩
      · exact ⟨.int 0, .int _, by simp only [sz]; omega, trivial, fun y hy => by subst hy; exact part_form (by decide +kernel)⟩
      · exact ⟨.tup [], .tup vq1 .nil, by decide, by simp [txl, txlL], fun y hy => by subst hy; exact part_form (by decide +kernel)⟩
    have iB := iA
    have iB := iB.same (nx_same kq1)
    have iB := iB.same sB
    have mv : ∀ {z : Addr} {ys : List V}, H' z = some (.tup ys) → HB z = some (.tup ys) := fun {z ys} e0 => by
      have := fA.g.tp e0
      have := nx_same kq1 _ _ this
      exact nx_le _ _ (sB _ _ this)
    refine ⟨(by show 1 ≤ sizeLine; decide), fun w hw => ?_⟩
    have sC := same_new (o := .tup [x]) hw
    have fC := fB.same sC
    have hC : upd HB w (.tup [x]) w = some (.tup [x]) := upd_same
    have iC := iB.same (nx_same sC)
    have jC := ie.same (nx_same sC)
    have tC := sC _ _ (mv tA)
    generalize upd HB w (.tup [x]) = HC at *
    have fD := fC
    have iD : IsA C (nx [d, c, l] HC) [x] [e] := .cons jC .nil
    have iE := iC
    have tD := tC
    have lq : ([x] : List V).length ≤ 7 := by simp
    refine ⟨_, rfl, 1, rfl, ?_⟩
    refine sl_goL tD fun HE pE sE eE => ?_
    rw [show (1 : Int) = ((1 : Nat) : Int) from rfl, cut_from] at eE
    have lr : (xs.drop 1).length ≤ 6 := by rw [List.length_drop]; omega
    refine cat_go (sE _ _ hC) eE (Nat.le_of_lt (small1000 (by omega))) fun HF pF sF eF => ⟨(by show 2 ≤ sizeLine; decide), fun a ha => ?_⟩
    have fF := (fC.same sE).same sF
    have iF := ((iD.same (nx_same sE)).same (nx_same sF)).app (((isA_drop 1 iE).same (nx_same sE)).same (nx_same sF))
    exact fF.app (Q := fun _ H' => ([some (.ref d), some (.str kd), some (.ref t), some (.int (at_ : Nat)), some (.ref l)] : L2.St) = [some (.ref d), some (.str kd), some (.ref t), some (.int (at_ : Nat)), some (.ref l)] ∧ Fs C d c l t ds 8 H3 H') (by decide) ha (fF.g.ts eF iF) (bad_set (i := 0) hkd hfs hlen hf0 (be _ rfl) (smx 0 1 _ ze te)) fun H' f2 => ⟨rfl, f2⟩
  rintro σ' H' ⟨rfl, f1⟩
  refine ⟨fun σ' H' => σ' = [some (.ref d), some (.str kd), some (.ref t), some (.int (at_ : Nat)), some (.ref l)] ∧ Fs C d c l t ds 9 H3 H', ?_, ?_⟩
  · by_cases hk1 : kd = "token"
    · subst hk1
      refine ⟨_, rfl, rfl, _, rfl, ifT rfl ?_⟩
      have efs : fs = (["text", "tuple", "word"] : List Str) := Option.some.inj (hfs.symm.trans (show formsOf "token" = some (["text", "tuple", "word"] : List Str) by decide +kernel))
      obtain ⟨d0, d1, d2, rfl⟩ : ∃ a b c, ds = [a, b, c] := by
        rw [efs] at hlen
        match ds, hlen with
        | [a, b, c], _ => exact ⟨a, b, c, rfl⟩
      obtain ⟨rs, hl, _, _, _⟩ := f1.r
      obtain ⟨xs, ht, ix⟩ := f1.g.tm
      cases ix with
      | @cons x0 _ _ _ i0 ix => cases ix with
      | @cons x1 _ _ _ i1 ix => cases ix with
      | @cons x2 _ _ _ i2 ix =>
      cases ix
      have fA := f1
      have iA : IsA C (nx [d, c, l] H') [x0, x1, x2] [d0, d1, d2] := .cons i0 (.cons i1 (.cons i2 .nil))
      have tA := ht
      refine ⟨_, rfl, .inl ⟨rfl, _, SqL.of hl⟩, _, rfl, _, rfl, t, _, 0, x0, rfl, rfl, SqT.of ht, atI_nat (j := 0) rfl, _, rfl, ?_⟩
      refine ⟨(by show 3 ≤ sizeLine; decide), fun lp hlp => pick_new (xs := [.non, .int 5, .str "m"]) fA.g.hD hlp (by show 0 < 3; decide) (by show 3 < 1000000; decide) fun HB x hDB bB hx => ?_⟩
      have fB := fA.step hDB bB
      have sB := nx_bu bB fA.g.pd fA.g.pc
      obtain ⟨e, ie, ze, te, be⟩ : Od C (nx [d, c, l] HB) x (fun z => z = "tuple") := by
        simp only [List.mem_cons, List.not_mem_nil, or_false] at hx
        rcases hx with rfl | rfl | rfl
        · exact ⟨.non, .non, by simp only [sz]; omega, trivial, fun y hy => by subst hy; exact part_form (by decide +kernel)⟩
        · exact ⟨.int 5, .int _, by simp only [sz]; omega, trivial, fun y hy => by subst hy; exact part_form (by decide +kernel)⟩
        · exact ⟨.str "m", .str _, by simp only [sz]; omega, (show ("m" : Str).length ≤ sizeLine by decide +kernel), fun y hy => by subst hy; exact part_form (by decide +kernel)⟩
      have iB := iA
      have iB := iB.same sB
      have mv : ∀ {z : Addr} {ys : List V}, H' z = some (.tup ys) → HB z = some (.tup ys) := fun {z ys} e0 => by
        have := fA.g.tp e0
        exact nx_le _ _ (sB _ _ this)
      have tB := mv tA
      refine ⟨_, rfl, t, [x0, x1, x2], 2, x2, rfl, rfl, SqT.of tB, atI_nat (j := 2) rfl, (by show 3 ≤ sizeLine; decide), fun w hw => ⟨(by show 2 ≤ sizeLine; decide), fun a ha => ?_⟩⟩
      obtain ⟨gC, eC, sC⟩ := fB.g.new (o := .tup [x0, x, x2]) hw
      have fC := fB.same (same_new (o := .tup [x0, x, x2]) hw)
      cases iB with
      | cons j0 iB => cases iB with
      | cons j1 iB => cases iB with
      | cons j2 iB =>
      have iC : Is C (nx [d, c, l] (upd HB w (.tup [x0, x, x2]))) (.ref w) (.tup [d0, e, d2]) := .tup eC (.cons (j0.same sC) (.cons (ie.same sC) (.cons (j2.same sC) .nil)))
      generalize upd HB w (.tup [x0, x, x2]) = HC at *
      refine fC.app (Q := fun _ H' => ([some (.ref d), some (.str "token"), some (.ref t), some (.int (at_ : Nat)), some (.ref l)] : L2.St) = [some (.ref d), some (.str "token"), some (.ref t), some (.int (at_ : Nat)), some (.ref l)] ∧ Fs C d c l t [d0, d1, d2] 9 H3 H') (by decide) ha iC ⟨five_ok hkd, Sm.fit ⟨?_, ?_⟩, ?_⟩ fun H' f2 => ⟨rfl, f2⟩
      · simp only [szL] at z0 ⊢; omega
      · have := sm0.2
        simp only [txlL] at this ⊢
        exact ⟨this.1, te, this.2.2.1, trivial⟩
      · simp only [isTermD]; exact bad_at hfs (i := 1) rfl (by rw [efs]; rfl) (be _ rfl)
    · refine ⟨_, rfl, rfl, _, rfl, ifF (fun z => hk1 (V.str.inj z)) ?_⟩
      have hf1 : fs[1]? = some ("number" : Str) := num1 hkd hk1 hfs
      obtain ⟨rs, hl, _, _, _⟩ := f1.r
      obtain ⟨xs, ht, ix⟩ := f1.g.tm
      have hxs := ix.len
      have hdl : ds.length ≤ 6 := by omega
      refine ⟨_, rfl, .inl ⟨rfl, _, SqL.of hl⟩, _, rfl, _, rfl, 1, rfl, ?_⟩
      refine sl_go ht fun HA pA sA eA => ?_
      rw [show (1 : Int) = ((1 : Nat) : Int) from rfl, cut_to] at eA
      have fA := f1.same sA
      have iA := ix.same (nx_same sA)
      have tA := sA _ _ ht
      refine ⟨_, rfl, ?_⟩
      refine ⟨(by show 0 ≤ sizeLine; decide), fun q1 hq1 => ?_⟩
      obtain ⟨_, eq1, sq1⟩ := fA.g.new (o := .tup []) hq1
      have fq1 := fA.same (same_new (o := .tup []) hq1)
      have kq1 := same_new (o := .tup []) hq1
      generalize upd _ q1 (.tup []) = Hq1 at *
      refine ⟨(by show 3 ≤ sizeLine; decide), fun lp hlp => pick_new (xs := [.non, .str "1", .ref q1]) fq1.g.hD hlp (by show 0 < 3; decide) (by show 3 < 1000000; decide) fun HB x hDB bB hx => ?_⟩
      have fB := fq1.step hDB bB
      have sB := nx_bu bB fq1.g.pd fq1.g.pc
      have vq1 := sB _ _ eq1
      obtain ⟨e, ie, ze, te, be⟩ : Od C (nx [d, c, l] HB) x (fun z => z = "number") := by
        simp only [List.mem_cons, List.not_mem_nil, or_false] at hx
        rcases hx with rfl | rfl | rfl
        · exact ⟨.non, .non, by simp only [sz]; omega, trivial, fun y hy => by subst hy; exact part_form (by decide +kernel)⟩
        · exact ⟨.str "1", .str _, by simp only [sz]; omega, (show ("1" : Str).length ≤ sizeLine by decide +kernel), fun y hy => by subst hy; exact part_form (by decide +kernel)⟩
        · exact ⟨.tup [], .tup vq1 .nil, by decide, by simp [txl, txlL], fun y hy => by subst hy; exact part_form (by decide +kernel)⟩
      have iB := iA
      have iB := iB.same (nx_same kq1)
      have iB := iB.same sB
      have mv : ∀ {z : Addr} {ys : List V}, HA z = some (.tup ys) → HB z = some (.tup ys) := fun {z ys} e0 => by
        have := fA.g.tp e0
        have := nx_same kq1 _ _ this
        exact nx_le _ _ (sB _ _ this)
      refine ⟨(by show 1 ≤ sizeLine; decide), fun w hw => ?_⟩
      have sC := same_new (o := .tup [x]) hw
      have fC := fB.same sC
      have hC : upd HB w (.tup [x]) w = some (.tup [x]) := upd_same
      have iC := iB.same (nx_same sC)
      have jC := ie.same (nx_same sC)
      have tC := sC _ _ (mv tA)
      have pC := sC _ _ (mv eA)
      generalize upd HB w (.tup [x]) = HC at *
      have lpp : (xs.take 1).length ≤ 6 := by rw [List.length_take]; omega
      refine cat_go pC hC (show (xs.take 1).length + 1 ≤ sizeLine from small1000 (by omega)) fun HD pD sD eD => ?_
      have fD := fC.same sD
      have iD : IsA C (nx [d, c, l] HD) (xs.take 1 ++ [x]) (ds.take 1 ++ [e]) := ((isA_take 1 iC).same (nx_same sD)).app (.cons (jC.same (nx_same sD)) .nil)
      have iE := iC.same (nx_same sD)
      have tD := sD _ _ tC
      have lq : (xs.take 1 ++ [x]).length ≤ 7 := by rw [List.length_append, List.length_singleton]; omega
      refine ⟨_, rfl, 2, rfl, ?_⟩
      refine sl_goL tD fun HE pE sE eE => ?_
      rw [show (2 : Int) = ((2 : Nat) : Int) from rfl, cut_from] at eE
      have lr : (xs.drop 2).length ≤ 6 := by rw [List.length_drop]; omega
      refine cat_go (sE _ _ eD) eE (Nat.le_of_lt (small1000 (by omega))) fun HF pF sF eF => ⟨(by show 2 ≤ sizeLine; decide), fun a ha => ?_⟩
      have fF := (fD.same sE).same sF
      have iF := ((iD.same (nx_same sE)).same (nx_same sF)).app (((isA_drop 2 iE).same (nx_same sE)).same (nx_same sF))
      exact fF.app (Q := fun _ H' => ([some (.ref d), some (.str kd), some (.ref t), some (.int (at_ : Nat)), some (.ref l)] : L2.St) = [some (.ref d), some (.str kd), some (.ref t), some (.int (at_ : Nat)), some (.ref l)] ∧ Fs C d c l t ds 9 H3 H') (by decide) ha (fF.g.ts eF iF) (bad_set (i := 1) hkd hfs hlen hf1 (be _ rfl) (smx 1 2 _ ze te)) fun H' f2 => ⟨rfl, f2⟩
  rintro σ' H' ⟨rfl, f1⟩
  refine ⟨fun σ' H' => σ' = [some (.ref d), some (.str kd), some (.ref t), some (.int (at_ : Nat)), some (.ref l)] ∧ Fs C d c l t ds 11 H3 H', ?_, ?_⟩
  · refine ⟨_, rfl, (by show 2 ≤ sizeLine; decide), fun l3 h3 => ?_⟩
    have s6 := same_new (o := .lst [.str "seal", .str "page"]) h3
    refine ⟨l3, [.str "seal", .str "page"], rfl, .inl (SqL.of upd_same), rfl, rfl, _, rfl, ?_⟩
    show (if (inV (.str kd) [.str "seal", .str "page"]) = true then _ else _)
    rw [inV2]
    have f1 := f1.same s6
    generalize upd H' l3 (.lst [.str "seal", .str "page"]) = H' at *
    by_cases cc : kd = "seal" ∨ kd = "page"
    · rw [if_pos (by simpa using cc)]
      have efs : fs = (["text", "number", "number", "hidden"] : List Str) := Option.some.inj (hfs.symm.trans (show formsOf kd = some (["text", "number", "number", "hidden"] : List Str) by rcases cc with rfl | rfl <;> decide +kernel))
      refine ⟨fun σ' H' => σ' = [some (.ref d), some (.str kd), some (.ref t), some (.int (at_ : Nat)), some (.ref l)] ∧ Fs C d c l t ds 10 H3 H', ?_, ?_⟩
      · obtain ⟨rs, hl, _, _, _⟩ := f1.r
        obtain ⟨xs, ht, ix⟩ := f1.g.tm
        have hxs := ix.len
        have hdl : ds.length ≤ 6 := by omega
        refine ⟨_, rfl, .inl ⟨rfl, _, SqL.of hl⟩, _, rfl, _, rfl, 3, rfl, ?_⟩
        refine sl_go ht fun HA pA sA eA => ?_
        rw [show (3 : Int) = ((3 : Nat) : Int) from rfl, cut_to] at eA
        have fA := f1.same sA
        have iA := ix.same (nx_same sA)
        have tA := sA _ _ ht
        refine ⟨_, rfl, ?_⟩
        refine ⟨(by show 0 ≤ sizeLine; decide), fun q1 hq1 => ?_⟩
        obtain ⟨_, eq1, sq1⟩ := fA.g.new (o := .tup []) hq1
        have fq1 := fA.same (same_new (o := .tup []) hq1)
        have kq1 := same_new (o := .tup []) hq1
        generalize upd _ q1 (.tup []) = Hq1 at *
        refine ⟨(by show 3 ≤ sizeLine; decide), fun q2 hq2 => ?_⟩
        obtain ⟨_, eq2, sq2⟩ := fq1.g.new (o := .tup [.int 1, .int 2, .int 3]) hq2
        have fq2 := fq1.same (same_new (o := .tup [.int 1, .int 2, .int 3]) hq2)
        have kq2 := same_new (o := .tup [.int 1, .int 2, .int 3]) hq2
        generalize upd _ q2 (.tup [.int 1, .int 2, .int 3]) = Hq2 at *
        refine ⟨(by show 5 ≤ sizeLine; decide), fun q3 hq3 => ?_⟩
        obtain ⟨_, eq3, sq3⟩ := fq2.g.new (o := .tup [.int 1, .int 2, .int 3, .int 4, .int 5]) hq3
        have fq3 := fq2.same (same_new (o := .tup [.int 1, .int 2, .int 3, .int 4, .int 5]) hq3)
        have kq3 := same_new (o := .tup [.int 1, .int 2, .int 3, .int 4, .int 5]) hq3
        generalize upd _ q3 (.tup [.int 1, .int 2, .int 3, .int 4, .int 5]) = Hq3 at *
        refine ⟨(by show 5 ≤ sizeLine; decide), fun lp hlp => pick_new (xs := [.ref q1, .ref q2, .int 5, .ref q3, .str "abcd"]) fq3.g.hD hlp (by show 0 < 5; decide) (by show 5 < 1000000; decide) fun HB x hDB bB hx => ?_⟩
        have fB := fq3.step hDB bB
        have sB := nx_bu bB fq3.g.pd fq3.g.pc
        have vq1 := sB _ _ (sq3 _ _ (sq2 _ _ eq1))
        have vq2 := sB _ _ (sq3 _ _ eq2)
        have vq3 := sB _ _ eq3
        obtain ⟨e, ie, ze, te, be⟩ : Od C (nx [d, c, l] HB) x (fun z => z = "hidden") := by
          simp only [List.mem_cons, List.not_mem_nil, or_false] at hx
          rcases hx with rfl | rfl | rfl | rfl | rfl
          · exact ⟨.tup [], .tup vq1 .nil, by decide, by simp [txl, txlL], fun y hy => by subst hy; exact part_form (by decide +kernel)⟩
          · exact ⟨.tup [.int 1, .int 2, .int 3], .tup vq2 (.cons (.int _) (.cons (.int _) (.cons (.int _) .nil))), by decide, by simp [txl, txlL], fun y hy => by subst hy; exact part_form (by decide +kernel)⟩
          · exact ⟨.int 5, .int _, by simp only [sz]; omega, trivial, fun y hy => by subst hy; exact part_form (by decide +kernel)⟩
          · exact ⟨.tup [.int 1, .int 2, .int 3, .int 4, .int 5], .tup vq3 (.cons (.int _) (.cons (.int _) (.cons (.int _) (.cons (.int _) (.cons (.int _) .nil))))), by decide, by simp [txl, txlL], fun y hy => by subst hy; exact part_form (by decide +kernel)⟩
          · exact ⟨.str "abcd", .str _, by simp only [sz]; omega, (show ("abcd" : Str).length ≤ sizeLine by decide +kernel), fun y hy => by subst hy; exact part_form (by decide +kernel)⟩
        have iB := iA
        have iB := iB.same (nx_same kq1)
        have iB := iB.same (nx_same kq2)
        have iB := iB.same (nx_same kq3)
        have iB := iB.same sB
        have mv : ∀ {z : Addr} {ys : List V}, HA z = some (.tup ys) → HB z = some (.tup ys) := fun {z ys} e0 => by
          have := fA.g.tp e0
          have := nx_same kq1 _ _ this
          have := nx_same kq2 _ _ this
          have := nx_same kq3 _ _ this
          exact nx_le _ _ (sB _ _ this)
        refine ⟨(by show 1 ≤ sizeLine; decide), fun w hw => ?_⟩
        have sC := same_new (o := .tup [x]) hw
        have fC := fB.same sC
        have hC : upd HB w (.tup [x]) w = some (.tup [x]) := upd_same
        have iC := iB.same (nx_same sC)
        have jC := ie.same (nx_same sC)
        have tC := sC _ _ (mv tA)
        have pC := sC _ _ (mv eA)
        generalize upd HB w (.tup [x]) = HC at *
        have lpp : (xs.take 3).length ≤ 6 := by rw [List.length_take]; omega
        refine cat_go pC hC (show (xs.take 3).length + 1 ≤ sizeLine from small1000 (by omega)) fun HD pD sD eD => ?_
        have fD := fC.same sD
        have iD : IsA C (nx [d, c, l] HD) (xs.take 3 ++ [x]) (ds.take 3 ++ [e]) := ((isA_take 3 iC).same (nx_same sD)).app (.cons (jC.same (nx_same sD)) .nil)
        have iE := iC.same (nx_same sD)
        have tD := sD _ _ tC
        have lq : (xs.take 3 ++ [x]).length ≤ 7 := by rw [List.length_append, List.length_singleton]; omega
        refine ⟨(by show 2 ≤ sizeLine; decide), fun a ha => ?_⟩
        exact fD.app (Q := fun _ H' => ([some (.ref d), some (.str kd), some (.ref t), some (.int (at_ : Nat)), some (.ref l)] : L2.St) = [some (.ref d), some (.str kd), some (.ref t), some (.int (at_ : Nat)), some (.ref l)] ∧ Fs C d c l t ds 10 H3 H') (by decide) ha (fD.g.ts eD iD) ((by have := bad_set (i := 3) (r := []) hkd hfs hlen (by rw [efs]; rfl) (be _ rfl) (by rw [List.append_nil]; exact smc (smt 3) ⟨by simp only [szL]; omega, te, trivial⟩ (by have := szLtk ds 3; simp only [szL]; omega)); rwa [List.append_nil] at this)) fun H' f2 => ⟨rfl, f2⟩
      rintro σ' H' ⟨rfl, f1⟩
      obtain ⟨rs, hl, _, _, _⟩ := f1.r
      obtain ⟨xs, ht, ix⟩ := f1.g.tm
      have hxs := ix.len
      have hdl : ds.length ≤ 6 := by omega
      refine ⟨_, rfl, .inl ⟨rfl, _, SqL.of hl⟩, _, rfl, _, rfl, 2, rfl, ?_⟩
      refine sl_go ht fun HA pA sA eA => ?_
      rw [show (2 : Int) = ((2 : Nat) : Int) from rfl, cut_to] at eA
      have fA := f1.same sA
      have iA := ix.same (nx_same sA)
      have tA := sA _ _ ht
      refine ⟨_, rfl, ?_⟩
      refine ⟨(by show 2 ≤ sizeLine; decide), fun lp hlp => pick_new (xs := [.non, .str "0"]) fA.g.hD hlp (by show 0 < 2; decide) (by show 2 < 1000000; decide) fun HB x hDB bB hx => ?_⟩
      have fB := fA.step hDB bB
      have sB := nx_bu bB fA.g.pd fA.g.pc
      obtain ⟨e, ie, ze, te, be⟩ : Od C (nx [d, c, l] HB) x (fun z => z = "number") := by
        simp only [List.mem_cons, List.not_mem_nil, or_false] at hx
        rcases hx with rfl | rfl
        · exact ⟨.non, .non, by simp only [sz]; omega, trivial, fun y hy => by subst hy; exact part_form (by decide +kernel)⟩
        · exact ⟨.str "0", .str _, by simp only [sz]; omega, (show ("0" : Str).length ≤ sizeLine by decide +kernel), fun y hy => by subst hy; exact part_form (by decide +kernel)⟩
      have iB := iA
      have iB := iB.same sB
      have mv : ∀ {z : Addr} {ys : List V}, HA z = some (.tup ys) → HB z = some (.tup ys) := fun {z ys} e0 => by
        have := fA.g.tp e0
        exact nx_le _ _ (sB _ _ this)
      refine ⟨(by show 1 ≤ sizeLine; decide), fun w hw => ?_⟩
      have sC := same_new (o := .tup [x]) hw
      have fC := fB.same sC
      have hC : upd HB w (.tup [x]) w = some (.tup [x]) := upd_same
      have iC := iB.same (nx_same sC)
      have jC := ie.same (nx_same sC)
      have tC := sC _ _ (mv tA)
      have pC := sC _ _ (mv eA)
      generalize upd HB w (.tup [x]) = HC at *
      have lpp : (xs.take 2).length ≤ 6 := by rw [List.length_take]; omega
      refine cat_go pC hC (show (xs.take 2).length + 1 ≤ sizeLine from small1000 (by omega)) fun HD pD sD eD => ?_
      have fD := fC.same sD
      have iD : IsA C (nx [d, c, l] HD) (xs.take 2 ++ [x]) (ds.take 2 ++ [e]) := ((isA_take 2 iC).same (nx_same sD)).app (.cons (jC.same (nx_same sD)) .nil)
      have iE := iC.same (nx_same sD)
      have tD := sD _ _ tC
      have lq : (xs.take 2 ++ [x]).length ≤ 7 := by rw [List.length_append, List.length_singleton]; omega
      refine ⟨_, rfl, 3, rfl, ?_⟩
      refine sl_goL tD fun HE pE sE eE => ?_
      rw [show (3 : Int) = ((3 : Nat) : Int) from rfl, cut_from] at eE
      have lr : (xs.drop 3).length ≤ 6 := by rw [List.length_drop]; omega
      refine cat_go (sE _ _ eD) eE (Nat.le_of_lt (small1000 (by omega))) fun HF pF sF eF => ⟨(by show 2 ≤ sizeLine; decide), fun a ha => ?_⟩
      have fF := (fD.same sE).same sF
      have iF := ((iD.same (nx_same sE)).same (nx_same sF)).app (((isA_drop 3 iE).same (nx_same sE)).same (nx_same sF))
      exact fF.app (Q := fun _ H' => ([some (.ref d), some (.str kd), some (.ref t), some (.int (at_ : Nat)), some (.ref l)] : L2.St) = [some (.ref d), some (.str kd), some (.ref t), some (.int (at_ : Nat)), some (.ref l)] ∧ Fs C d c l t ds 11 H3 H') (by decide) ha (fF.g.ts eF iF) (bad_set (i := 2) hkd hfs hlen (by rw [efs]; rfl) (be _ rfl) (smx 2 3 _ ze te)) fun H' f2 => ⟨rfl, f2⟩
    · rw [if_neg (by simpa using cc)]
      exact ⟨rfl, f1.up (by decide)⟩
  rintro σ' H' ⟨rfl, f1⟩
  refine ⟨fun σ' H' => σ' = [some (.ref d), some (.str kd), some (.ref t), some (.int (at_ : Nat)), some (.ref l)] ∧ Fs C d c l t ds 14 H3 H', ?_, ?_⟩
  · by_cases hk1 : kd = "ticket"
    · refine ⟨_, rfl, rfl, _, rfl, ifT (by rw [hk1]) ?_⟩
      have efs : fs = (["text", "number", "text", "tuple", "pages", "tuple"] : List Str) := Option.some.inj (hfs.symm.trans (show formsOf kd = some (["text", "number", "text", "tuple", "pages", "tuple"] : List Str) by rw [hk1]; decide +kernel))
      have hl6 : ds.length = 6 := by rw [hlen, efs]; rfl
      obtain ⟨d4, h4⟩ : ∃ e, ds[4]? = some e := ⟨ds[4], List.getElem?_eq_getElem (by omega)⟩
      obtain ⟨d5, h5⟩ : ∃ e, ds[5]? = some e := ⟨ds[5], List.getElem?_eq_getElem (by omega)⟩
      have hp4 : partOk d4 "pages" = true := hall (d4, "pages") (List.mem_of_getElem? (List.getElem?_zip_eq_some.mpr ⟨h4, by rw [efs]; rfl⟩))
      obtain ⟨ps, rfl, hps⟩ : ∃ ps, d4 = .tup ps ∧ ps.length = 8 := by
        unfold partOk at hp4
        simp only [Bool.and_eq_true] at hp4
        have h := hp4.2
        unfold hasF at h
        rw [if_neg (by decide +kernel), if_neg (by decide +kernel), if_neg (by decide +kernel), if_neg (by decide +kernel), if_pos rfl] at h
        cases d4 with
        | tup ps => exact ⟨ps, rfl, of_decide_eq_true h⟩
        | _ => cases h
      refine ⟨fun σ' H' => σ' = [some (.ref d), some (.str kd), some (.ref t), some (.int (at_ : Nat)), some (.ref l)] ∧ Fs C d c l t ds 12 H3 H', ?_, ?_⟩
      · obtain ⟨rs, hl, _, _, _⟩ := f1.r
        obtain ⟨xs, ht, ix⟩ := f1.g.tm
        have hxs := ix.len
        refine ⟨_, rfl, .inl ⟨rfl, _, SqL.of hl⟩, _, rfl, _, rfl, 4, rfl, ?_⟩
        refine sl_go ht fun HA pA sA eA => ?_
        rw [show (4 : Int) = ((4 : Nat) : Int) from rfl, cut_to] at eA
        have fA := f1.same sA
        have iA := ix.same (nx_same sA)
        have tA := sA _ _ ht
        obtain ⟨x4, hx4, i4⟩ := iA.get h4
        obtain ⟨x5, hx5, i5⟩ := iA.get h5
        cases i4 with
        | @tup a4 ys _ ha4 iy =>
        refine ⟨_, rfl, t, xs, 4, .ref a4, rfl, rfl, SqT.of tA, atI_nat (j := 4) hx4, 1, rfl, ?_⟩
        refine sl_goL (nx_le _ _ ha4) fun HB pB sB eB => ?_
        rw [show (1 : Int) = ((1 : Nat) : Int) from rfl, cut_from] at eB
        have fB := fA.same sB
        have iB : Is C (nx [d, c, l] HB) (.ref pB) (.tup (ps.drop 1)) := fB.g.ts eB (isA_drop 1 (iy.same (nx_same sB)))
        have j5 := i5.same (nx_same sB)
        refine ⟨_, rfl, t, xs, 5, x5, rfl, rfl, SqT.of (sB _ _ tA), atI_nat (j := 5) hx5, (by show 2 ≤ sizeLine; decide), fun w hw => ?_⟩
        obtain ⟨gC, eC, sC⟩ := fB.g.new (o := .tup [.ref pB, x5]) hw
        have fC := fB.same (same_new (o := .tup [.ref pB, x5]) hw)
        have kC := same_new (o := .tup [.ref pB, x5]) hw
        have hC : upd HB w (.tup [.ref pB, x5]) w = some (.tup [.ref pB, x5]) := upd_same
        have iC : IsA C (nx [d, c, l] (upd HB w (.tup [.ref pB, x5]))) [.ref pB, x5] [.tup (ps.drop 1), d5] := .cons (iB.same sC) (.cons (j5.same sC) .nil)
        generalize upd HB w (.tup [.ref pB, x5]) = HC at *
        refine cat_go (kC _ _ (sB _ _ eA)) hC (Nat.le_of_lt (small1000 (by rw [List.length_take]; show min 4 xs.length + 2 ≤ 1000; omega))) fun HD pD sD eD => ⟨(by show 2 ≤ sizeLine; decide), fun a ha => ?_⟩
        have fD := fC.same sD
        have iD : IsA C (nx [d, c, l] HD) (xs.take 4 ++ [.ref pB, x5]) (ds.take 4 ++ [.tup (ps.drop 1), d5]) := ((((isA_take 4 iA).same (nx_same sB)).same sC).same (nx_same sD)).app (iC.same (nx_same sD))
        have m4 : sz (.tup ps) + sz d5 ≤ szL ds := by
          match ds, hl6, h4, h5 with
          | [a0, a1, a2, a3, a4, a5], _, h4, h5 =>
            simp at h4 h5
            subst h4 h5
            simp only [szL]; omega
        have t5 : txl (.tup ps) ∧ txl d5 := ⟨txlL_mem sm0.2 (List.mem_of_getElem? h4), txlL_mem sm0.2 (List.mem_of_getElem? h5)⟩
        have bad : BadP (.str kd) (.tup (ds.take 4 ++ [.tup (ps.drop 1), d5])) := by
          have h0 : ds.take 4 ++ [.tup (ps.drop 1), d5] = ds.take 4 ++ [.tup (ps.drop 1)] ++ [d5] := by simp
          rw [h0]
          refine bad_set (i := 4) hkd hfs hlen (by rw [efs]; rfl) (part_form ?_) ?_
          · unfold hasF
            rw [if_neg (by decide +kernel), if_neg (by decide +kernel), if_neg (by decide +kernel), if_neg (by decide +kernel), if_pos rfl]
            exact decide_eq_false (by rw [List.length_drop, hps]; decide)
          · have a1 := szLtk ds 4
            have a2 := szLdr ps 1
            have a3 := t5.1
            simp only [sz] at m4
            simp only [txl] at a3
            exact ⟨by rw [szL_app, szL_app]; simp only [szL, sz]; omega, by rw [txlL_app, txlL_app]; exact ⟨⟨txlLtk ds 4 sm0.2, by simp only [txlL, txl]; exact ⟨txlLdr ps 1 a3, trivial⟩⟩, by simp only [txlL]; exact ⟨t5.2, trivial⟩⟩⟩
        exact fD.app (Q := fun _ H' => ([some (.ref d), some (.str kd), some (.ref t), some (.int (at_ : Nat)), some (.ref l)] : L2.St) = [some (.ref d), some (.str kd), some (.ref t), some (.int (at_ : Nat)), some (.ref l)] ∧ Fs C d c l t ds 12 H3 H') (by decide) ha (fD.g.ts eD iD) bad fun H' f2 => ⟨rfl, f2⟩
      rintro σ' H' ⟨rfl, f1⟩
      refine ⟨fun σ' H' => σ' = [some (.ref d), some (.str kd), some (.ref t), some (.int (at_ : Nat)), some (.ref l)] ∧ Fs C d c l t ds 13 H3 H', ?_, ?_⟩
      · obtain ⟨rs, hl, _, _, _⟩ := f1.r
        obtain ⟨xs, ht, ix⟩ := f1.g.tm
        have hxs := ix.len
        have hdl : ds.length ≤ 6 := by omega
        refine ⟨_, rfl, .inl ⟨rfl, _, SqL.of hl⟩, _, rfl, _, rfl, 2, rfl, ?_⟩
        refine sl_go ht fun HA pA sA eA => ?_
        rw [show (2 : Int) = ((2 : Nat) : Int) from rfl, cut_to] at eA
        have fA := f1.same sA
        have iA := ix.same (nx_same sA)
        have tA := sA _ _ ht
        refine ⟨_, rfl, ?_⟩
        refine ⟨(by show 2 ≤ sizeLine; decide), fun lp hlp => pick_new (xs := [.non, .int 1]) fA.g.hD hlp (by show 0 < 2; decide) (by show 2 < 1000000; decide) fun HB x hDB bB hx => ?_⟩
        have fB := fA.step hDB bB
        have sB := nx_bu bB fA.g.pd fA.g.pc
        obtain ⟨e, ie, ze, te, be⟩ : Od C (nx [d, c, l] HB) x (fun z => z = "text") := by
          simp only [List.mem_cons, List.not_mem_nil, or_false] at hx
          rcases hx with rfl | rfl
          · exact ⟨.non, .non, by simp only [sz]; omega, trivial, fun y hy => by subst hy; exact part_form (by decide +kernel)⟩
          · exact ⟨.int 1, .int _, by simp only [sz]; omega, trivial, fun y hy => by subst hy; exact part_form (by decide +kernel)⟩
        have iB := iA
        have iB := iB.same sB
        have mv : ∀ {z : Addr} {ys : List V}, HA z = some (.tup ys) → HB z = some (.tup ys) := fun {z ys} e0 => by
          have := fA.g.tp e0
          exact nx_le _ _ (sB _ _ this)
        refine ⟨(by show 1 ≤ sizeLine; decide), fun w hw => ?_⟩
        have sC := same_new (o := .tup [x]) hw
        have fC := fB.same sC
        have hC : upd HB w (.tup [x]) w = some (.tup [x]) := upd_same
        have iC := iB.same (nx_same sC)
        have jC := ie.same (nx_same sC)
        have tC := sC _ _ (mv tA)
        have pC := sC _ _ (mv eA)
        generalize upd HB w (.tup [x]) = HC at *
        have lpp : (xs.take 2).length ≤ 6 := by rw [List.length_take]; omega
        refine cat_go pC hC (show (xs.take 2).length + 1 ≤ sizeLine from small1000 (by omega)) fun HD pD sD eD => ?_
        have fD := fC.same sD
        have iD : IsA C (nx [d, c, l] HD) (xs.take 2 ++ [x]) (ds.take 2 ++ [e]) := ((isA_take 2 iC).same (nx_same sD)).app (.cons (jC.same (nx_same sD)) .nil)
        have iE := iC.same (nx_same sD)
        have tD := sD _ _ tC
        have lq : (xs.take 2 ++ [x]).length ≤ 7 := by rw [List.length_append, List.length_singleton]; omega
        refine ⟨_, rfl, 3, rfl, ?_⟩
        refine sl_goL tD fun HE pE sE eE => ?_
        rw [show (3 : Int) = ((3 : Nat) : Int) from rfl, cut_from] at eE
        have lr : (xs.drop 3).length ≤ 6 := by rw [List.length_drop]; omega
        refine cat_go (sE _ _ eD) eE (Nat.le_of_lt (small1000 (by omega))) fun HF pF sF eF => ⟨(by show 2 ≤ sizeLine; decide), fun a ha => ?_⟩
        have fF := (fD.same sE).same sF
        have iF := ((iD.same (nx_same sE)).same (nx_same sF)).app (((isA_drop 3 iE).same (nx_same sE)).same (nx_same sF))
        exact fF.app (Q := fun _ H' => ([some (.ref d), some (.str kd), some (.ref t), some (.int (at_ : Nat)), some (.ref l)] : L2.St) = [some (.ref d), some (.str kd), some (.ref t), some (.int (at_ : Nat)), some (.ref l)] ∧ Fs C d c l t ds 13 H3 H') (by decide) ha (fF.g.ts eF iF) (bad_set (i := 2) hkd hfs hlen (by rw [efs]; rfl) (be _ rfl) (smx 2 3 _ ze te)) fun H' f2 => ⟨rfl, f2⟩
      rintro σ' H' ⟨rfl, f1⟩
      obtain ⟨rs, hl, _, _, _⟩ := f1.r
      obtain ⟨xs, ht, ix⟩ := f1.g.tm
      have hxs := ix.len
      have hdl : ds.length ≤ 6 := by omega
      refine ⟨_, rfl, .inl ⟨rfl, _, SqL.of hl⟩, _, rfl, _, rfl, 5, rfl, ?_⟩
      refine sl_go ht fun HA pA sA eA => ?_
      rw [show (5 : Int) = ((5 : Nat) : Int) from rfl, cut_to] at eA
      have fA := f1.same sA
      have iA := ix.same (nx_same sA)
      have tA := sA _ _ ht
      refine ⟨_, rfl, ?_⟩
      refine ⟨(by show 3 ≤ sizeLine; decide), fun lp hlp => pick_new (xs := [.non, .int 0, .str "x"]) fA.g.hD hlp (by show 0 < 3; decide) (by show 3 < 1000000; decide) fun HB x hDB bB hx => ?_⟩
      have fB := fA.step hDB bB
      have sB := nx_bu bB fA.g.pd fA.g.pc
      obtain ⟨e, ie, ze, te, be⟩ : Od C (nx [d, c, l] HB) x (fun z => z = "tuple") := by
        simp only [List.mem_cons, List.not_mem_nil, or_false] at hx
        rcases hx with rfl | rfl | rfl
        · exact ⟨.non, .non, by simp only [sz]; omega, trivial, fun y hy => by subst hy; exact part_form (by decide +kernel)⟩
        · exact ⟨.int 0, .int _, by simp only [sz]; omega, trivial, fun y hy => by subst hy; exact part_form (by decide +kernel)⟩
        · exact ⟨.str "x", .str _, by simp only [sz]; omega, (show ("x" : Str).length ≤ sizeLine by decide +kernel), fun y hy => by subst hy; exact part_form (by decide +kernel)⟩
      have iB := iA
      have iB := iB.same sB
      have mv : ∀ {z : Addr} {ys : List V}, HA z = some (.tup ys) → HB z = some (.tup ys) := fun {z ys} e0 => by
        have := fA.g.tp e0
        exact nx_le _ _ (sB _ _ this)
      refine ⟨(by show 1 ≤ sizeLine; decide), fun w hw => ?_⟩
      have sC := same_new (o := .tup [x]) hw
      have fC := fB.same sC
      have hC : upd HB w (.tup [x]) w = some (.tup [x]) := upd_same
      have iC := iB.same (nx_same sC)
      have jC := ie.same (nx_same sC)
      have tC := sC _ _ (mv tA)
      have pC := sC _ _ (mv eA)
      generalize upd HB w (.tup [x]) = HC at *
      have lpp : (xs.take 5).length ≤ 6 := by rw [List.length_take]; omega
      refine cat_go pC hC (show (xs.take 5).length + 1 ≤ sizeLine from small1000 (by omega)) fun HD pD sD eD => ?_
      have fD := fC.same sD
      have iD : IsA C (nx [d, c, l] HD) (xs.take 5 ++ [x]) (ds.take 5 ++ [e]) := ((isA_take 5 iC).same (nx_same sD)).app (.cons (jC.same (nx_same sD)) .nil)
      have iE := iC.same (nx_same sD)
      have tD := sD _ _ tC
      have lq : (xs.take 5 ++ [x]).length ≤ 7 := by rw [List.length_append, List.length_singleton]; omega
      refine ⟨(by show 2 ≤ sizeLine; decide), fun a ha => ?_⟩
      exact fD.app (Q := fun _ H' => ([some (.ref d), some (.str kd), some (.ref t), some (.int (at_ : Nat)), some (.ref l)] : L2.St) = [some (.ref d), some (.str kd), some (.ref t), some (.int (at_ : Nat)), some (.ref l)] ∧ Fs C d c l t ds 14 H3 H') (by decide) ha (fD.g.ts eD iD) ((by have := bad_set (i := 5) (r := []) hkd hfs hlen (by rw [efs]; rfl) (be _ rfl) (by rw [List.append_nil]; exact smc (smt 5) ⟨by simp only [szL]; omega, te, trivial⟩ (by have := szLtk ds 5; simp only [szL]; omega)); rwa [List.append_nil] at this)) fun H' f2 => ⟨rfl, f2⟩
    · refine ⟨_, rfl, rfl, _, rfl, ifF (fun z => hk1 (V.str.inj z)) ?_⟩
      exact ⟨rfl, f1.up (by decide)⟩
  rintro σ' H' ⟨rfl, f1⟩
  obtain ⟨xs, hl, h1, h2, h3⟩ := f1.r
  exact ⟨_, rfl, _, rfl, d, c, l, xs, rfl, f1.g.hD, hl, f1.nc, h1, by omega, fun H4 i x hD4 b4 hx => q H4 x hD4 (((b1.trans b2).trans b3).trans (f1.g.b.trans b4)) (((h3 x (List.mem_of_getElem? hx)).same (nx_bu b4 f1.g.pd f1.g.pc)).same nx_le)⟩
end
end Hc

set_option maxHeartbeats 8000000
namespace Hc
open PySem PySem.Spec PyProof.Rows L2 Hr
variable [Memo]
/-- the last word of a chain -/
structure Chn (i : Nat) (W : D) : Prop where
  w : wrd W = true
  k : rkk W = true
  r : rank W ≤ i + 1
  r4 : rank W ≤ 40
  t : txl W
  z : sz W ≤ 20 + 40 * i
  u : full W ≤ 2 + 3 * i
  ow : ∀ md mr j, okW md mr j W = decide (rank W ≤ mr)
def chA (W : D) : List D := [.str "m", .tup [W, .int 0], .int 5]
def chB (W : D) : List D := [.str "m", .int 1, .str "n", .tup [.int 0, W], .tup [.non, .non, .non, .non, .non, .non, .non, .non], .tup [.int 8]]
def chT (k : Str) (W : D) : List D := if k = "ticket" then chB W else chA W
def chS (W : D) : List D := [.str "m", .int 1, .int 2, .tup [W, .int 0, .int 0, .str ""]]
theorem tk_ne : ¬ (("token" : Str) = "ticket") := by decide +kernel
theorem chA_ok {i : Nat} {W : D} (h : Chn i W) : isTermK "token" (chA W) = true := by
  have e := h.ow 40 40 1
  rw [decide_eq_true h.r4] at e
  refine term_of (fs := ["text", "tuple", "word"]) (by decide +kernel) rfl ?_ ?_
  · simp only [chA, okA, okW, e]; decide +kernel
  · intro p hp
    simp only [chA, List.zip_cons_cons, List.zip_nil_right, List.mem_cons, List.not_mem_nil, or_false] at hp
    rcases hp with rfl | rfl | rfl
    · exact hasF_text _
    · exact hasF_tuple _
    · exact hasF_word _
theorem chB_ok {i : Nat} {W : D} (h : Chn i W) : isTermK "ticket" (chB W) = true := by
  have e := h.ow 40 40 1
  rw [decide_eq_true h.r4] at e
  refine term_of (fs := ["text", "number", "text", "tuple", "pages", "tuple"]) (by decide +kernel) rfl ?_ ?_
  · simp only [chB, okA, okW, e]; decide +kernel
  · intro p hp
    simp only [chB, List.zip_cons_cons, List.zip_nil_right, List.mem_cons, List.not_mem_nil, or_false] at hp
    rcases hp with rfl | rfl | rfl | rfl | rfl | rfl
    · exact hasF_text _
    · exact hasF_number _
    · exact hasF_text _
    · exact hasF_tuple _
    · exact hasF_pages rfl
    · exact hasF_tuple _
theorem chS_ok {i : Nat} {W : D} (h : Chn i W) {k : Str} (hk : k = "seal" ∨ k = "page") : isTermK k (chS W) = true := by
  have e := h.ow 40 40 1
  rw [decide_eq_true h.r4] at e
  refine term_of (fs := ["text", "number", "number", "hidden"]) (by rcases hk with rfl | rfl <;> decide +kernel) rfl ?_ ?_
  · simp only [chS, okA, okW, e]; decide +kernel
  · intro p hp
    simp only [chS, List.zip_cons_cons, List.zip_nil_right, List.mem_cons, List.not_mem_nil, or_false] at hp
    rcases hp with rfl | rfl | rfl | rfl
    · exact hasF_text _
    · exact hasF_number _
    · exact hasF_number _
    · exact hasF_hidT rfl
theorem chT_ok {i : Nat} {W : D} (h : Chn i W) {k : Str} (hk : k = "token" ∨ k = "ticket") : isTermK k (chT k W) = true := by
  rcases hk with rfl | rfl
  · unfold chT; rw [if_neg tk_ne]; exact chA_ok h
  · unfold chT; rw [if_pos rfl]; exact chB_ok h
theorem chT_rank {W : D} {k : Str} (hk : k = "token" ∨ k = "ticket") : rank (.atom k (chT k W)) = rank W + 1 := by
  have h : rankL (chT k W) = rank W := by
    rcases hk with rfl | rfl
    · unfold chT; rw [if_neg tk_ne]; simp only [chA, rankL, rank]; omega
    · unfold chT; rw [if_pos rfl]; simp only [chB, rankL, rank]; omega
  simp only [rank]
  rw [if_neg (by rcases hk with rfl | rfl <;> decide +kernel), h]
theorem chS_rank {W : D} {k : Str} (hk : k = "seal" ∨ k = "page") : rank (.atom k (chS W)) = 1 := by simp only [rank]; rw [if_pos hk]
theorem chT_sz {W : D} (k : Str) : szL (chT k W) ≤ sz W + 20 := by
  unfold chT
  split
  · simp only [chB, szL, sz]; omega
  · simp only [chA, szL, sz]; omega
theorem tx1 (s : Str) (h : s.length ≤ 24) : txl (.str s) := by simp only [txl]; exact Nat.le_trans h (by decide)
theorem chT_tx {W : D} (k : Str) (h : txl W) : txlL (chT k W) := by
  have a : txl (.str "m") := tx1 _ (by decide +kernel)
  have b : txl (.str "n") := tx1 _ (by decide +kernel)
  simp only [txl] at a b
  unfold chT
  split
  · simp only [chB, txlL, txl]; exact ⟨a, trivial, b, ⟨trivial, h, trivial⟩, ⟨trivial, trivial, trivial, trivial, trivial, trivial, trivial, trivial, trivial⟩, ⟨trivial, trivial⟩, trivial⟩
  · simp only [chA, txlL, txl]; exact ⟨a, ⟨h, trivial, trivial⟩, trivial, trivial⟩
theorem chS_fit {W : D} (h : txl W) (z : sz W ≤ 5000) : Fit (.tup (chS W)) := by
  have a : txl (.str "m") := tx1 _ (by decide +kernel)
  have b : txl (.str "") := tx1 _ (by decide +kernel)
  simp only [txl] at a b
  refine ⟨by simp only [chS, szL, sz]; omega, ?_⟩
  simp only [chS, txlL, txl]; exact ⟨a, trivial, trivial, ⟨h, trivial, trivial, b, trivial⟩, trivial⟩
theorem Chn.next {i : Nat} {W : D} (h : Chn i W) {k : Str} (hk : k = "token" ∨ k = "ticket") (hr : rank W + 1 ≤ mostR k) : Chn (i + 1) (.atom k (chT k W)) := by
  have e := chT_rank (W := W) hk
  have m : mostR k ≤ 40 := by unfold mostR; split <;> omega
  refine ⟨?_, ?_, by rw [e]; have := h.r; omega, by rw [e]; omega, by simp only [txl]; exact chT_tx k h.t, ?_, ?_, fun md mr j => rfl⟩
  · simp only [wrd, chT_ok h hk, Bool.and_true]
    rcases hk with rfl | rfl
    · unfold chT; rw [if_neg tk_ne]; simp only [chA, wrdL, wrd, h.w]; rfl
    · unfold chT; rw [if_pos rfl]; simp only [chB, wrdL, wrd, h.w]; rfl
  · simp only [rkk]
    rw [decide_eq_true (by rw [e]; exact hr), Bool.true_and]
    rcases hk with rfl | rfl
    · unfold chT; rw [if_neg tk_ne]; simp only [chA, rkkL, rkk, h.k]; rfl
    · unfold chT; rw [if_pos rfl]; simp only [chB, rkkL, rkk, h.k]; rfl
  · have := chT_sz (W := W) k
    have := h.z
    simp only [sz]; omega
  · have := h.u
    rcases hk with rfl | rfl
    · unfold chT; rw [if_neg tk_ne]; simp only [chA, fullL, full]; omega
    · unfold chT; rw [if_pos rfl]; simp only [chB, fullL, full]; omega
theorem Chn.non : Chn 0 .non := ⟨rfl, rfl, by simp only [rank]; omega, by simp only [rank]; omega, trivial, by simp only [sz]; omega, by simp only [full]; omega, fun md mr j => by simp [okW, rank]⟩
theorem Chn.int : Chn 0 (.int 3) := ⟨rfl, rfl, by simp only [rank]; omega, by simp only [rank]; omega, trivial, by simp only [sz]; omega, by simp only [full]; omega, fun md mr j => by
  have h : rank (.int 3) ≤ mr := Nat.zero_le _
  rw [decide_eq_true h]; show numOk 3 = true; decide⟩
def chC : List D := [.str "v", .int 0]
theorem chC_ok : isTermK "challenge" chC = true := by decide +kernel
theorem Chn.cha : Chn 0 (.atom "challenge" chC) := by
  have e : rank (.atom "challenge" chC) = 1 := by simp only [rank, chC, rankL]; rw [if_neg (by decide +kernel)]; omega
  refine ⟨?_, ?_, by rw [e]; omega, by rw [e]; omega, ?_, by simp only [chC, sz, szL]; omega, by simp only [chC, full, fullL]; omega, fun md mr j => rfl⟩
  · simp only [wrd, chC_ok]; rfl
  · simp only [rkk, e]; decide +kernel
  · simp only [txl, chC, txlL]; exact ⟨Nat.le_trans (show ("v" : Str).length ≤ 24 by decide +kernel) (by decide), trivial, trivial⟩
/-- the drawing, and an empty table beside it -/
structure DrP (p0 : Addr) (H : Hp) (d c : Addr) : Prop where
  h : Dr H d c
  p : H p0 = some (.tbl #[])
theorem DrP.same {p0 d c : Addr} {H H' : Hp} (h : DrP p0 H d c) (s : Same H H') : DrP p0 H' d c := ⟨h.h.same s, s _ _ h.p⟩
theorem DrP.keep {C p0 d c : Addr} {H H' : Hp} (h : DrP p0 H d c) (b : Bu2 d c H H') : Keep C H H' := h.h.keep b
theorem DrP.step {p0 d c : Addr} {H H' : Hp} (h : DrP p0 H d c) (h' : Dr H' d c) (b : Bu2 d c H H') : DrP p0 H' d c := by
  obtain ⟨⟨r, m, h1⟩, ns, _, h2⟩ := h.h
  exact ⟨h', b _ _ h.p (fun z => by have e := h.p; rw [z, h1] at e; cases e) (fun z => by have e := h.p; rw [z, h2] at e; cases e)⟩
theorem pick_newP {p0 : Addr} {H : Hp} {d c l : Addr} {xs : List V} {Q : VK} (hD : DrP p0 H d c) (hl : H l = none) (h0 : 0 < xs.length) (h1 : xs.length < 1000000) (q : ∀ H' x, DrP p0 H' d c → Bu2 d c H H' → x ∈ xs → Q x H') : spPick [.ref d, .ref l] (upd H l (.lst xs)) Q C8.E0 :=
  pick_new hD.h hl h0 h1 fun H' x h' b hx => q H' x (hD.step h' b) b hx
def spCh (p0 : Addr) : Sp := fun vs H Q _ => ∃ d c, vs = [.ref d] ∧ DrP p0 H d c ∧ ∀ H', DrP p0 H' d c → Q (.bl true) H'
section
variable {P : Program} {w : World} {K : PySem.W.Frag} {mg : Str → Option Value} {base : Heap} {f : Addr} {fd : FuncData} {C : Addr}
abbrev s__law_chain : Stmt := top 45
theorem sc__law_chain : FnScope ["draws", "word", "k", "rank", "kind", "term"] ["draws"] (C8.fnScope s__law_chain) := C8.fnScope_by (by decide +kernel)
theorem ok__law_chain {p0 : Addr} (F : C8.Def K mg "_law_chain" s__law_chain f fd) (b : Binds K fd ["draws"] []) (T : Txt K mg w C) (c__law_draw : C8.Cal P w K mg base 1 "_law_draw" spDraw []) (c__law_pick : C8.Cal P w K mg base 2 "_law_pick" spPick []) (k_Atom : C8.Mak P w K mg base 5 "Atom" C (spInit C) [])
    (c__law_rank : C8.Cal P w K mg base 131 "_law_rank" (spLR C 130) []) (c_rank_of : C8.Cal P w K mg base 2 "rank_of" (spN C Fit rank) []) (c__law_refused : C8.Cal P w K mg base 7 "_law_refused" (spRef C) []) (c__law_agree : C8.Cal P w K mg base 1 "_law_agree" spAgree [])
    (c_is_word : C8.Cal P w K mg base 3 "is_word" (spB C Fit (okW 40 40 0)) []) (c_is_host_word : C8.Cal P w K mg base 3 "is_host_word" (spB C Fit (okW 10 36 0)) []) : C8.Cal P w K mg base 132 "_law_chain" (spCh p0) [] := by
  refine C8.cal0 F b .nil sc__law_chain (fun vs H Q E h => ?_) (fun cdv A outer s H vs Q E hr h => ?_)
  · obtain ⟨d, c, rfl, _⟩ := h; rfl
  obtain ⟨d, c, rfl, hD, q⟩ := h
  refine ⟨_, (pss_cons (ps_set (i := 1) sc__law_chain.nd rfl (Or.inl rfl) (C8.pe_c c__law_pick hr (by first | decide | omega) rfl (pa_cons (pv 0) (pa_cons (pe_lst (pa_cons pe_non (pa_cons pe_int (pa_cons (C8.pe_mk k_Atom hr (by first | decide | omega) rfl (pa_cons pe_str (pa_cons (pe_tup (pa_cons pe_str (pa_cons pe_int pa_nil))) pa_nil))) pa_nil)))) pa_nil))))
      (pss_cons (ps_for PassesOwn.never rfl (pi_range1 rfl T.z_range (pa_cons (pe_op op_add pe_int (C8.pe_c c__law_draw hr (by first | decide | omega) rfl (pa_cons (pv 0) (pa_cons pe_int pa_nil)))) pa_nil)) (pg_name (i := 2) sc__law_chain.nd rfl (Or.inl rfl))
      (pss_cons (ps_set (i := 3) sc__law_chain.nd rfl (Or.inl rfl) (pe_op op_add (C8.pe_c c__law_rank hr (by first | decide | omega) rfl (pa_cons (pv 1) pa_nil)) pe_int))
      (pss_cons (ps_set (i := 4) sc__law_chain.nd rfl (Or.inl rfl) (C8.pe_c c__law_pick hr (by first | decide | omega) rfl (pa_cons (pv 0) (pa_cons (pe_lst (pa_cons pe_str (pa_cons pe_str (pa_cons pe_str pa_nil)))) pa_nil))))
      (pss_cons (ps_set (i := 5) sc__law_chain.nd rfl (Or.inl rfl) (pe_tup (pa_cons pe_str (pa_cons (pe_tup (pa_cons (pv 1) (pa_cons pe_int pa_nil))) (pa_cons pe_int pa_nil)))))
      (C8.pss_cut (ps_if (pt_cmpR op_eq (pv 4) pe_str (nomark _)) (pss_one (ps_set (i := 5) sc__law_chain.nd rfl (Or.inl rfl) (pe_tup (pa_cons pe_str (pa_cons pe_int (pa_cons pe_str (pa_cons (pe_tup (pa_cons pe_int (pa_cons (pv 1) pa_nil))) (pa_cons (pe_op op_repT (pe_tup (pa_cons pe_non pa_nil)) pe_int) (pa_cons (pe_tup (pa_cons pe_int pa_nil)) pa_nil))))))))) pss_nil)
      (C8.pss_cut (ps_if (pt_cmpR op_ne (pe_fld (C8.pe_mk k_Atom hr (by first | decide | omega) rfl (pa_cons (C8.pe_c c__law_pick hr (by first | decide | omega) rfl (pa_cons (pv 0) (pa_cons (pe_lst (pa_cons pe_str (pa_cons pe_str pa_nil))) pa_nil))) (pa_cons (pe_tup (pa_cons pe_str (pa_cons pe_int (pa_cons pe_int (pa_cons (pe_tup (pa_cons (pv 1) (pa_cons pe_int (pa_cons pe_int (pa_cons pe_str pa_nil))))) pa_nil))))) pa_nil))) rfl) pe_int (nomark _)) (pss_one (ps_ret pe_bl)) pss_nil)
      (pss_cons (ps_if (PW.pt (pw_or (pt_cmpR op_gt (pv 3) pe_int (nomark _)) (pw_or1 (PW.pt (pw_and (pt_cmpR op_eq (pv 4) pe_str (nomark _)) (pw_and1 (pt_cmpR op_gt (pv 3) pe_int (nomark _)))))))) (pss_one (ps_ret (pe_and (C8.pe_c c__law_refused hr (by first | decide | omega) rfl (pa_cons (pv 4) (pa_cons (pv 5) pa_nil))) (pe_one (pe_cmpR op_eq (C8.pe_c c_rank_of hr (by first | decide | omega) rfl (pa_cons (pv 1) pa_nil)) (pe_op op_sub (pv 3) pe_int) (nomark _)))))) pss_nil)
      (pss_cons (ps_set (i := 1) sc__law_chain.nd rfl (Or.inl rfl) (C8.pe_mk k_Atom hr (by first | decide | omega) rfl (pa_cons (pv 4) (pa_cons (pv 5) pa_nil))))
      (pss_cons (ps_if (pt_cmpR op_ne (pe_fld (pv 1) rfl) (pv 3) (nomark _)) (pss_one (ps_ret pe_bl)) pss_nil)
      (pss_one (ps_if (PW.pt (pw_or (pt_not (pt_val (C8.pe_c c__law_agree hr (by first | decide | omega) rfl (pa_cons (C8.pe_c c_is_host_word hr (by first | decide | omega) rfl (pa_cons (pe_tup (pa_cons pe_int (pa_cons (pv 1) pa_nil))) pa_nil)) (pa_cons (pe_cmpR op_lt (pv 3) pe_int (nomark _)) pa_nil))))) (pw_or1 (pt_cmpR op_isnot_bl (C8.pe_c c_is_word hr (by first | decide | omega) rfl (pa_cons (pe_tup (pa_cons (pv 1) pa_nil)) pa_nil)) pe_bl (nomark _))))) (pss_one (ps_ret pe_bl)) pss_nil)))))))))))
      (pss_one (ps_ret (pe_cmpR op_eq (C8.pe_c c_rank_of hr (by first | decide | omega) rfl (pa_cons (pe_tup (pa_cons pe_non (pa_cons (pe_tup (pa_cons (pv 1) (pa_cons pe_int pa_nil))) pa_nil))) pa_nil)) (C8.pe_c c__law_rank hr (by first | decide | omega) rfl (pa_cons (pv 1) pa_nil)) (nomark _)))))), ?_⟩
  refine ⟨_, rfl, (by show 2 ≤ sizeLine; decide), fun t0 ht0 => ?_⟩
  have s0 := same_new (o := .tup [.str "v", .int 0]) ht0
  have hD0 := hD.same s0
  have e0 : upd H t0 (.tup [.str "v", .int 0]) t0 = some (.tup [.str "v", .int 0]) := upd_same
  generalize upd H t0 (.tup [.str "v", .int 0]) = H0 at *
  intro x dx hx hdx hne
  refine made3 (ds := chC) e0 (.cons (.str _) (.cons (.int _) .nil)) chC_ok ?_ ?_ hx hdx hne fun H1 s1 ia => ⟨rfl, (by show 3 ≤ sizeLine; decide), fun l1 hl1 => pick_newP (hD0.same s1) hl1 (by show 0 < 3; decide) (by show 3 < 1000000; decide) fun H2 v hD2 b2 hv => ?_⟩
  · simp only [rank, chC, rankL]; rw [if_neg (by decide +kernel)]; decide
  · refine ⟨by simp only [chC, szL, sz]; omega, ?_⟩
    simp only [txl, chC, txlL]; exact ⟨Nat.le_trans (show ("v" : Str).length ≤ 24 by decide +kernel) (by decide), trivial, trivial⟩
  obtain ⟨wd, iw, hw⟩ : ∃ wd, Is C H2 v wd ∧ Chn 0 wd := by
    simp only [List.mem_cons, List.not_mem_nil, or_false] at hv
    rcases hv with rfl | rfl | rfl
    · exact ⟨_, .non, .non⟩
    · exact ⟨_, .int _, .int⟩
    · exact ⟨_, Is.keep ((hD0.same s1).keep b2) (wrd_cln Chn.cha.w) ia, .cha⟩
  refine ⟨_, rfl, d, c, 7, rfl, hD2.h, by decide, by decide, fun H3 r hD3 b3 g0 g1 => ⟨_, _, rfl, rfl, 32 + r, rfl, by omega, by omega, ?_⟩⟩
  have iw3 := Is.keep (hD2.keep b3) (wrd_cln hw.w) iw
  refine for_it (walk_range (lo := 0) (n := (32 + r).toNat)) (fun i σ H' => ∃ v wd k2 k3 k4 k5, σ = [some (.ref d), some v, k2, k3, k4, k5] ∧ DrP p0 H' d c ∧ Is C H' v wd ∧ Chn i wd) ⟨v, wd, none, none, none, none, rfl, hD2.step hD3 b3, iw3, hw⟩ (fun _ _ _ _ _ => trivial) ?_ ?_
  · rintro i y σ H4 H5 hi ⟨v, wd, k2, k3, k4, k5, rfl, hD4, iv, hw⟩ ⟨rfl, rfl⟩
    have hi38 : i < 38 := by omega
    have hwz := hw.z
    have hwu := hw.u
    have hwr := hw.r
    -- rank
    refine ⟨_, rfl, v, wd, rfl, iv, by omega, by omega, fun H5 s5 => ⟨_, _, rfl, rfl, ?_⟩⟩
    have hD5 := hD4.same s5
    have iv := iv.same s5
    -- kind
    refine ⟨_, rfl, (by show 3 ≤ sizeLine; decide), fun l hl => pick_newP hD5 hl (by show 0 < 3; decide) (by show 3 < 1000000; decide) fun H6 x hD6 b6 hx => ?_⟩
    have iv := Is.keep (hD5.keep b6) (wrd_cln hw.w) iv
    obtain ⟨kd, rfl, hkd⟩ : ∃ kd, x = .str kd ∧ (kd = "token" ∨ kd = "ticket") := by
      simp only [List.mem_cons, List.not_mem_nil, or_false] at hx
      rcases hx with rfl | rfl | rfl
      · exact ⟨_, rfl, .inl rfl⟩
      · exact ⟨_, rfl, .inl rfl⟩
      · exact ⟨_, rfl, .inr rfl⟩
    -- term
    refine ⟨_, rfl, (by show 2 ≤ sizeLine; decide), fun t1 ht1 => ⟨(by show 3 ≤ sizeLine; decide), fun t2 ht2 => ?_⟩⟩
    have sA := same_new (o := .tup [v, .int 0]) ht1
    have iA : Is C (upd H6 t1 (.tup [v, .int 0])) (.ref t1) (.tup [wd, .int 0]) := new_tup ht1 (.cons iv (.cons (.int 0) .nil))
    have sB := same_new (o := .tup [.str "m", .ref t1, .int 5]) ht2
    have iB : Is C (upd (upd H6 t1 (.tup [v, .int 0])) t2 (.tup [.str "m", .ref t1, .int 5])) (.ref t2) (.tup (chA wd)) := new_tup ht2 (.cons (.str _) (.cons iA (.cons (.int _) .nil)))
    have hD7 := (hD6.same sA).same sB
    have iv := (iv.same sA).same sB
    generalize upd (upd H6 t1 (.tup [v, .int 0])) t2 (.tup [.str "m", .ref t1, .int 5]) = H7 at *
    refine ⟨fun σ' H' => ∃ tt, σ' = [some (.ref d), some v, some (.int (0 + (i : Int))), some (.int (((rank wd : Nat) : Int) + 1)), some (.str kd), some (.ref tt)] ∧ DrP p0 H' d c ∧ Is C H' v wd ∧ Is C H' (.ref tt) (.tup (chT kd wd)), ?_, ?_⟩
    · refine ⟨_, rfl, rfl, _, rfl, ?_⟩
      by_cases hk : kd = "ticket"
      · subst hk
        refine ifT rfl ⟨_, rfl, (by show 2 ≤ sizeLine; decide), fun u1 h1 => ?_⟩
        have q1 := same_new (o := .tup [.int 0, v]) h1
        have j1 : Is C (upd H7 u1 (.tup [.int 0, v])) (.ref u1) (.tup [.int 0, wd]) := new_tup h1 (.cons (.int 0) (.cons iv .nil))
        have hD8 := hD7.same q1
        have iv := iv.same q1
        generalize upd H7 u1 (.tup [.int 0, v]) = H8 at *
        refine ⟨(by show 1 ≤ sizeLine; decide), fun u2 h2 => ?_⟩
        have q2 := same_new (o := .tup [.non]) h2
        have e2 : upd H8 u2 (.tup [.non]) u2 = some (.tup [.non]) := upd_same
        have j1 := j1.same q2
        have hD9 := hD8.same q2
        have iv := iv.same q2
        generalize upd H8 u2 (.tup [.non]) = H9 at *
        refine ⟨u2, 8, [.non], rfl, rfl, SqT.of e2, by simp, by decide, by decide, by simp, fun u3 h3 => ?_⟩
        rw [show (List.replicate (8 : Int).toNat [V.non]).flatten = [.non, .non, .non, .non, .non, .non, .non, .non] from rfl]
        have q3 := same_new (o := .tup [.non, .non, .non, .non, .non, .non, .non, .non]) h3
        have j3 : Is C (upd H9 u3 (.tup [.non, .non, .non, .non, .non, .non, .non, .non])) (.ref u3) (.tup [.non, .non, .non, .non, .non, .non, .non, .non]) := new_tup h3 (.cons .non (.cons .non (.cons .non (.cons .non (.cons .non (.cons .non (.cons .non (.cons .non .nil))))))))
        have j1 := j1.same q3
        have hDa := hD9.same q3
        have iv := iv.same q3
        generalize upd H9 u3 (.tup [.non, .non, .non, .non, .non, .non, .non, .non]) = Ha at *
        refine ⟨(by show 1 ≤ sizeLine; decide), fun u4 h4 => ⟨(by show 6 ≤ sizeLine; decide), fun u5 h5 => ?_⟩⟩
        have q4 := same_new (o := .tup [.int 8]) h4
        have j4 : Is C (upd Ha u4 (.tup [.int 8])) (.ref u4) (.tup [.int 8]) := new_tup h4 (.cons (.int _) .nil)
        have j1 := j1.same q4
        have j3 := j3.same q4
        have q5 := same_new (o := .tup [.str "m", .int 1, .str "n", .ref u1, .ref u3, .ref u4]) h5
        refine ⟨u5, rfl, (hDa.same q4).same q5, (iv.same q4).same q5, ?_⟩
        unfold chT
        rw [if_pos rfl]
        exact new_tup h5 (.cons (.str _) (.cons (.int _) (.cons (.str _) (.cons j1 (.cons j3 (.cons j4 .nil))))))
      · refine ifF (fun z => hk (V.str.inj z)) ⟨t2, rfl, hD7, iv, ?_⟩
        unfold chT
        rw [if_neg hk]; exact iB
    rintro σ' H8 ⟨tt, rfl, hD8, iv, it⟩
    -- the seal's rank
    refine ⟨fun σ' H' => σ' = [some (.ref d), some v, some (.int (0 + (i : Int))), some (.int (((rank wd : Nat) : Int) + 1)), some (.str kd), some (.ref tt)] ∧ DrP p0 H' d c ∧ Is C H' v wd ∧ Is C H' (.ref tt) (.tup (chT kd wd)), ?_, ?_⟩
    · refine ⟨_, rfl, (by show 2 ≤ sizeLine; decide), fun l hl => pick_newP hD8 hl (by show 0 < 2; decide) (by show 2 < 1000000; decide) fun H9 x hD9 b9 hx => ?_⟩
      have cT : cln (.tup (chT kd wd)) = true := by
        have h := hw.w
        have h2 := wrd_cln h
        simp only [cln]
        unfold chT
        split
        · simp only [chB, clnL, cln, h2]; rfl
        · simp only [chA, clnL, cln, h2]; rfl
      have iv := Is.keep (hD8.keep b9) (wrd_cln hw.w) iv
      have it := Is.keep (hD8.keep b9) cT it
      obtain ⟨ks, rfl, hks⟩ : ∃ kd, x = .str kd ∧ (kd = "seal" ∨ kd = "page") := by
        simp only [List.mem_cons, List.not_mem_nil, or_false] at hx
        rcases hx with rfl | rfl
        · exact ⟨_, rfl, .inl rfl⟩
        · exact ⟨_, rfl, .inr rfl⟩
      refine ⟨_, rfl, (by show 4 ≤ sizeLine; decide), fun u1 h1 => ⟨(by show 4 ≤ sizeLine; decide), fun u2 h2 => ?_⟩⟩
      have q1 := same_new (o := .tup [v, .int 0, .int 0, .str ""]) h1
      have j1 : Is C (upd H9 u1 (.tup [v, .int 0, .int 0, .str ""])) (.ref u1) (.tup [wd, .int 0, .int 0, .str ""]) := new_tup h1 (.cons iv (.cons (.int _) (.cons (.int _) (.cons (.str _) .nil))))
      have q2 := same_new (o := .tup [.str "m", .int 1, .int 2, .ref u1]) h2
      have j2 : IsA C (upd (upd H9 u1 (.tup [v, .int 0, .int 0, .str ""])) u2 (.tup [.str "m", .int 1, .int 2, .ref u1])) [.str "m", .int 1, .int 2, .ref u1] (chS wd) := .cons (.str _) (.cons (.int _) (.cons (.int _) (.cons (j1.same q2) .nil)))
      have e2 : upd (upd H9 u1 (.tup [v, .int 0, .int 0, .str ""])) u2 (.tup [.str "m", .int 1, .int 2, .ref u1]) u2 = some (.tup [.str "m", .int 1, .int 2, .ref u1]) := upd_same
      have hDa := (hD9.same q1).same q2
      have iv := (iv.same q1).same q2
      have it := (it.same q1).same q2
      generalize upd (upd H9 u1 (.tup [v, .int 0, .int 0, .str ""])) u2 (.tup [.str "m", .int 1, .int 2, .ref u1]) = Ha at *
      intro x dx hx hdx hne
      have hmr : rank (.atom ks (chS wd)) ≤ mostR ks := by rw [chS_rank hks]; unfold mostR; split <;> omega
      refine made3 e2 j2 (chS_ok hw hks) hmr (chS_fit hw.t (by omega)) hx hdx hne fun Hb sb ib => ⟨rfl, ?_⟩
      cases ib with
      | @atom _ dx' _ _ _ _ svu1 u1 v1 w1 gmu1 =>
      refine ⟨x, C, dx', _, _, rfl, u1, T.cl.cl, T.cl.nR, rfl, rfl, _, rfl, ?_⟩
      rw [chS_rank hks]
      exact bF (by simp) ⟨rfl, hDa.same sb, iv.same sb, it.same sb⟩
    rintro σ' H9 ⟨rfl, hD9, iv, it⟩
    have hcr := chT_rank (W := wd) hkd
    have hcok := chT_ok hw hkd
    have hcsz := chT_sz (W := wd) kd
    have hcfit : Fit (.tup (chT kd wd)) := ⟨by simp only [sz]; omega, by simp only [txl]; exact chT_tx kd hw.t⟩
    have hrr := hw.r
    refine ⟨_, rfl, _, _, rfl, rfl, _, rfl, ifF (by omega) ⟨_, rfl, rfl, _, rfl, ?_⟩⟩
    by_cases ht : kd = "token"
    · refine ifT (by rw [ht]) ⟨_, rfl, _, _, rfl, rfl, _, rfl, ?_⟩
      by_cases hb : 36 < rank wd + 1
      · refine ifT (by omega) ?_
        refine ⟨_, rfl, _, rfl, .str kd, .ref tt, .str kd, .tup (chT kd wd), rfl, .str _, it, (by rw [ht]; simp [KindOk]), hcfit, .inr ⟨kd, chT kd wd, rfl, rfl, hcok, by rw [hcr, ht]; unfold mostR; rw [if_pos rfl]; omega⟩, fun Ha sa => ⟨_, rfl, iteT ⟨_, rfl, v, wd, rfl, iv.same sa, ⟨by omega, hw.t⟩, fun Hb sb => ⟨_, rfl, _, _, rfl, rfl, rfl, ?_⟩⟩⟩⟩
        rw [decide_eq_true (by congr 1; omega)]
        exact q Hb ((hD9.same sa).same sb)
      · refine ifF (by omega) ?_
        have hgo : rank wd + 1 ≤ mostR kd := by rw [ht]; unfold mostR; rw [if_pos rfl]; omega
        cases it with
        | @tup _ ts _ ut jt =>
        refine ⟨_, rfl, _, rfl, ?_⟩
        intro x dx hx hdx hne
        refine made3 ut jt hcok (by rw [hcr]; exact hgo) hcfit hx hdx hne fun Ha sa ia => ⟨rfl, ?_⟩
        have hn := hw.next hkd hgo
        have hDa := hD9.same sa
        have ib := ia
        cases ib with
        | @atom _ dx' _ _ _ _ svu1 u1 v1 w1 gmu1 =>
        refine ⟨_, rfl, x, C, dx', _, _, rfl, u1, T.cl.cl, T.cl.nR, rfl, _, rfl, rfl, _, rfl, bF (by rw [hcr]; simp) ?_⟩
        refine ⟨_, rfl, (by show 2 ≤ sizeLine; decide), fun t1 h1 => ?_⟩
        have q1 := same_new (o := .tup [.int 1, .ref x]) h1
        have j1 : Is C (upd Ha t1 (.tup [.int 1, .ref x])) (.ref t1) (.tup [.int 1, .atom kd (chT kd wd)]) := new_tup h1 (.cons (.int 1) (.cons ia .nil))
        have ia := ia.same q1
        have hDb := hDa.same q1
        generalize upd Ha t1 (.tup [.int 1, .ref x]) = Hb at *
        have hnz := hn.z
        refine ⟨.ref t1, _, rfl, j1, ⟨by simp only [sz, szL] at hnz ⊢; omega, by simp only [txl, txlL]; exact ⟨trivial, chT_tx kd hw.t, trivial⟩⟩, fun Hc' sc => ⟨_, rfl, _, _, rfl, rfl, _, _, rfl, _, rfl, ?_⟩⟩
        have eh : okW 10 36 0 (.tup [.int 1, .atom kd (chT kd wd)]) = decide ((((rank wd : Nat) : Int) + 1) < 37) := by
          have := hn.ow 10 36 1
          rw [hcr] at this
          simp only [okW, okA] at this ⊢
          rw [hcr]
          have n1 : numOk 1 = true := by decide
          rw [n1]
          by_cases c : rank wd + 1 ≤ 36
          · rw [decide_eq_true c, decide_eq_true (show (((rank wd : Nat) : Int) + 1) < 37 by omega)]; decide
          · rw [decide_eq_false c, decide_eq_false (show ¬ (((rank wd : Nat) : Int) + 1) < 37 by omega)]; decide
        refine bF (by rw [eh]; simp) ⟨_, rfl, (by show 1 ≤ sizeLine; decide), fun t2 h2 => ?_⟩
        have q2 := same_new (o := .tup [.ref x]) h2
        have ia := ia.same sc
        have j2 : Is C (upd Hc' t2 (.tup [.ref x])) (.ref t2) (.tup [.atom kd (chT kd wd)]) := new_tup h2 (.cons ia .nil)
        refine ⟨.ref t2, _, rfl, j2, ⟨by simp only [sz, szL] at hnz ⊢; omega, by simp only [txl, txlL]; exact ⟨chT_tx kd hw.t, trivial⟩⟩, fun Hd sd => ⟨_, _, rfl, rfl, _, rfl, ?_⟩⟩
        have e4 : okW 40 40 0 (.tup [.atom kd (chT kd wd)]) = true := by
          have := hn.r4
          simp only [okW, okA]
          rw [decide_eq_true this]; decide
        refine bF (by rw [e4]; simp) ⟨.ref x, _, _, _, _, _, rfl, ((hDb.same sc).same q2).same sd, (ia.same q2).same sd, hn⟩
    · refine ifF (fun z => ht (V.str.inj z)) (iteF ?_)
      have hgo : rank wd + 1 ≤ mostR kd := by unfold mostR; rw [if_neg ht]; omega
      cases it with
      | @tup _ ts _ ut jt =>
      refine ⟨_, rfl, _, rfl, ?_⟩
      intro x dx hx hdx hne
      refine made3 ut jt hcok (by rw [hcr]; exact hgo) hcfit hx hdx hne fun Ha sa ia => ⟨rfl, ?_⟩
      have hn := hw.next hkd hgo
      have hDa := hD9.same sa
      have ib := ia
      cases ib with
      | @atom _ dx' _ _ _ _ svu1 u1 v1 w1 gmu1 =>
      refine ⟨_, rfl, x, C, dx', _, _, rfl, u1, T.cl.cl, T.cl.nR, rfl, _, rfl, rfl, _, rfl, bF (by rw [hcr]; simp) ?_⟩
      refine ⟨_, rfl, (by show 2 ≤ sizeLine; decide), fun t1 h1 => ?_⟩
      have q1 := same_new (o := .tup [.int 1, .ref x]) h1
      have j1 : Is C (upd Ha t1 (.tup [.int 1, .ref x])) (.ref t1) (.tup [.int 1, .atom kd (chT kd wd)]) := new_tup h1 (.cons (.int 1) (.cons ia .nil))
      have ia := ia.same q1
      have hDb := hDa.same q1
      generalize upd Ha t1 (.tup [.int 1, .ref x]) = Hb at *
      have hnz := hn.z
      refine ⟨.ref t1, _, rfl, j1, ⟨by simp only [sz, szL] at hnz ⊢; omega, by simp only [txl, txlL]; exact ⟨trivial, chT_tx kd hw.t, trivial⟩⟩, fun Hc' sc => ⟨_, rfl, _, _, rfl, rfl, _, _, rfl, _, rfl, ?_⟩⟩
      have eh : okW 10 36 0 (.tup [.int 1, .atom kd (chT kd wd)]) = decide ((((rank wd : Nat) : Int) + 1) < 37) := by
        have := hn.ow 10 36 1
        rw [hcr] at this
        simp only [okW, okA] at this ⊢
        rw [hcr]
        have n1 : numOk 1 = true := by decide
        rw [n1]
        by_cases c : rank wd + 1 ≤ 36
        · rw [decide_eq_true c, decide_eq_true (show (((rank wd : Nat) : Int) + 1) < 37 by omega)]; decide
        · rw [decide_eq_false c, decide_eq_false (show ¬ (((rank wd : Nat) : Int) + 1) < 37 by omega)]; decide
      refine bF (by rw [eh]; simp) ⟨_, rfl, (by show 1 ≤ sizeLine; decide), fun t2 h2 => ?_⟩
      have q2 := same_new (o := .tup [.ref x]) h2
      have ia := ia.same sc
      have j2 : Is C (upd Hc' t2 (.tup [.ref x])) (.ref t2) (.tup [.atom kd (chT kd wd)]) := new_tup h2 (.cons ia .nil)
      refine ⟨.ref t2, _, rfl, j2, ⟨by simp only [sz, szL] at hnz ⊢; omega, by simp only [txl, txlL]; exact ⟨chT_tx kd hw.t, trivial⟩⟩, fun Hd sd => ⟨_, _, rfl, rfl, _, rfl, ?_⟩⟩
      have e4 : okW 40 40 0 (.tup [.atom kd (chT kd wd)]) = true := by
        have := hn.r4
        simp only [okW, okA]
        rw [decide_eq_true this]; decide
      refine bF (by rw [e4]; simp) ⟨.ref x, _, _, _, _, _, rfl, ((hDb.same sc).same q2).same sd, (ia.same q2).same sd, hn⟩
  · rintro σ H4 ⟨v, wd, k2, k3, k4, k5, rfl, hD4, iv, hw⟩
    have hwz := hw.z
    have hwu := hw.u
    refine ⟨_, rfl, (by show 2 ≤ sizeLine; decide), fun t1 h1 => ⟨(by show 2 ≤ sizeLine; decide), fun t2 h2 => ?_⟩⟩
    have s1 := same_new (o := .tup [v, .int 3]) h1
    have i1 : Is C (upd H4 t1 (.tup [v, .int 3])) (.ref t1) (.tup [wd, .int 3]) := new_tup h1 (.cons iv (.cons (.int _) .nil))
    have s2 := same_new (o := .tup [.non, .ref t1]) h2
    have i2 : Is C (upd (upd H4 t1 (.tup [v, .int 3])) t2 (.tup [.non, .ref t1])) (.ref t2) (.tup [.non, .tup [wd, .int 3]]) := new_tup h2 (.cons .non (.cons i1 .nil))
    refine ⟨.ref t2, _, rfl, i2, ⟨by simp only [sz, szL]; omega, by simp only [txl, txlL]; exact ⟨trivial, ⟨hw.t, trivial, trivial⟩, trivial⟩⟩, fun H5 s5 => ⟨_, rfl, v, wd, rfl, ((iv.same s1).same s2).same s5, by omega, by omega, fun H6 s6 => ⟨rfl, ?_⟩⟩⟩
    rw [decide_eq_true (by simp only [rank, rankL]; congr 1; omega)]
    exact q H6 (((((hD4.same s1).same s2).same s5)).same s6)
end
end Hc

set_option maxHeartbeats 8000000
namespace Hr
open PySem PySem.Spec PyProof.Rows PySem.SeqAt
variable [Memo]
open AutoSeq1 (wpAny_loadPart')
open MeetsSeq MeetsSeq2 MeetsSeq3 SeqRoads2
section
variable {prog : Program} {w : World} {A : Around} {R : Result → Shared → Prop}
theorem tup_neB {l b : Addr} {items items2 : Array Value} {n n2 : Nat} {dd dd2 : Option Addr} {sl sl2 : Array (Option Value)} {bs : Nat → Bool} {J : Shared → Prop}
    (turn : ∀ i (h1 : i < items.size) (h2 : i < items2.size) s, J s → wpAny (model prog w) A.in1 (eqBool items[i] items2[i]) (fun r s' => r = bs i ∧ J s') (fun e s' => R (.error e) s') s)
    (fin : ∀ s, J s → R (.ok (.ret (.bool (!allP bs items.size items2.size)))) s) {s : Shared} (hl1 : s.heap.get? l = some { cls := .type "tuple", dict := dd, data := .seq items n, slots := sl }) (hb1 : s.heap.get? b = some { cls := .type "tuple", dict := dd2, data := .seq items2 n2, slots := sl2 }) (h : J s) :
    wpAny (model prog w) A.in1 (Builtin.«tuple.__ne__» ⟨[.ref l, .ref b], []⟩) (GQ.FinOf prog w A R) (fun e s' => R (.error e) s') s := by
  have f2 := AutoSeq1.sub_tuple_tuple
  have hZ : (items.toList.zip items2.toList).length = min items.size items2.size := by simp
  have h0 := h
  obtain ⟨hp, g, d, tk, os⟩ := s
  wp_walk using wpAny_loadPart' hl1, wpAny_loadPart' hb1, wpAny_forIn_list _ (fun rest b s' => b.1 = none ∧ ∃ i, rest = (items.toList.zip items2.toList).drop i ∧ i ≤ min items.size items2.size ∧ (∀ j, j < i → bs j = true) ∧ J s') _
  case turn =>
    rintro ⟨y, x⟩ rest b s' ⟨hb', i, hz, hi, hbs, hI⟩
    have hlt : i < (items.toList.zip items2.toList).length := by
      rcases Nat.lt_or_ge i (items.toList.zip items2.toList).length with h' | h'
      · exact h'
      · rw [List.drop_of_length_le h'] at hz; cases hz
    have hm : i < min items.size items2.size := hZ ▸ hlt
    have h1 : i < items.size := Nat.lt_of_lt_of_le hm (Nat.min_le_left _ _)
    have h2 : i < items2.size := Nat.lt_of_lt_of_le hm (Nat.min_le_right _ _)
    rw [List.drop_eq_getElem_cons hlt] at hz
    injection hz with hyx hrest
    have hy : y = items[i] := by have := congrArg Prod.fst hyx; simpa using this
    have hx : x = items2[i] := by have := congrArg Prod.snd hyx; simpa using this
    subst hy hx
    refine wpAny_bind (wpAny_mono (turn i h1 h2 s' hI) (fun r s2 q2 => ?_) fun _ _ x => x)
    obtain ⟨hr, q2⟩ := q2
    subst hr
    cases hbi : bs i with
    | true =>
      wp_walk
      exact ⟨rfl, i + 1, hrest, hm, fun j hj => by
        rcases Nat.lt_succ_iff_lt_or_eq.mp hj with h | rfl
        · exact hbs j h
        · exact hbi, q2⟩
    | false =>
      have hR := fin s2 q2
      rw [allP_no hm hbi] at hR
      wp_walk
      exact hR
  case fin =>
    rintro ⟨b1, b2⟩ s' ⟨hb', i, hz, hi, hbs, hI⟩
    simp only at hb'
    subst hb'
    have hge : min items.size items2.size ≤ i := by
      rcases Nat.lt_or_ge i (items.toList.zip items2.toList).length with h' | h'
      · rw [List.drop_eq_getElem_cons h'] at hz; cases hz
      · exact hZ ▸ h'
    have hR := fin s' hI
    rw [allP_yes fun j hj => hbs j (by omega)] at hR
    wp_walk
    simpa [Builtin.Tuple.tupleCompareSizes, bne] using hR
  case h =>
    exact ⟨rfl, 0, rfl, Nat.zero_le _, fun j hj => absurd hj (Nat.not_lt_zero _), h0⟩
end
end Hr
namespace Hc
open PySem PySem.Spec PyProof.Rows L2 Hr PySem.SeqAt
variable [Memo]
section
variable {X : Cx} {n N : Nat} {C : Addr}
def rNeW (C : Addr) (N : Nat) : R2 := fun x y H Q => ∃ d e, W2 C H x y d e ∧ dep d ≤ N ∧ ∀ H', Same H H' → Q (.bl (!eqD d e)) H'

theorem op_eqW (O : OwnS X.prog X.w X.K X.mg X.base n C (spEqG C)) (o : Oth X.K C) (hr : Room (N + n + 1) X.A) : OpR X (compareOp .Eq) (rEqW C N) := by
  intro pins s σ H x y v u Q I rx ry h
  obtain ⟨d, e, w2, hdp, q⟩ := h
  have hx := w2.x
  have hy := w2.y
  have wd := w2.wd
  have we := w2.we
  have zd := w2.zd
  have ze := w2.ze
  have sb0 : Sub X (N + n + 1) X.A := ⟨hr, rfl⟩
  have sb1 : Sub X n X.A.in1 := (sb0.mono (by omega : n + 1 ≤ N + n + 1)).in1
  have sb : Sub X n X.A := sb0.mono (by omega)
  have hu := hr.units0
  have hu1 := sb1.room.units0
  show wpAny (model X.prog X.w) X.A (richCompare .Eq v u) (EP X pins σ Q) X.xe s
  have fin : ∀ (b : Bool), b = (eqD d e) → ∀ s', LoopS X pins σ H s' → EP X pins σ Q (.bool b) s' := fun b hb s' j => by
    obtain ⟨H', I', e'⟩ := j
    rw [hb]
    exact ⟨.bl _, H', I', rfl, q H' e'⟩
  have here : LoopS X pins σ H s := ⟨H, I, Same.refl H⟩
  have own : ∀ {a dx : Addr} {fs : List (Str × V)} {y : V} {v : Value} {d e : D}, H a = some (.ins C dx fs) → Is C H (.ref a) d → Is C H y e → RelV y v → isAt d = true → wrd d = true → wrd e = true → sz d ≤ 1000000 → sz e ≤ 1000000 → Own X.prog X.w X.A X.xe a v (eqD d e) (LoopS X pins σ H) s :=
    fun u1 h1 h2 rv d1 wd we zd ze => own_run O sb I u1 rv ⟨_, _, _, _, rfl, h1, h2, d1, wd, we, zd, ze, fun H' s' => ⟨rfl, s'⟩⟩
  have inst : ∀ {a dx : Addr} {fs : List (Str × V)}, H a = some (.ins C dx fs) → ∃ od, PySem.W.InstAt s.heap a (PySem.W.instObj C dx) C (some od) := fun u1 => by
    obtain ⟨mA, J, _⟩ := ins_get I.hok u1
    obtain ⟨od, J, _⟩ := J.look
    exact ⟨od, J⟩
  have tups : ∀ {a : Addr} {xs : List V}, H a = some (.tup xs) → ∃ its : Array Value, s.heap.IsTuple a its := fun h => by
    obtain ⟨its, r, e, z⟩ := I.tuple (SqT.of h)
    exact ⟨_, e⟩
  have comm : isAt d = false → isAt e = true → eqD e d = eqD d e := fun h1 h2 => by
    cases d <;> cases e <;> first | rfl | (simp [isAt] at h1; done) | (simp [isAt] at h2; done)
  have left : ∀ {a dx : Addr} {fs : List (Str × V)} {T : String}, H a = some (.ins C dx fs) → x = .ref a → s.TypeIs u T → (T = "NoneType" ∨ T = "int" ∨ T = "str" ∨ T = "tuple") → isAt d = true → wpAny (model X.prog X.w) X.A (richCompare .Eq v u) (EP X pins σ Q) X.xe s := fun {a dx fs T} u1 hxa ht1 hT d1 => by
    subst hxa
    cases rx
    obtain ⟨od, J⟩ := inst u1
    exact rc_left (op := .Eq) hu I.kIn J ht1 hT (try_eq (own u1 hx hy ry d1 wd we zd ze)) (fun s' j => fin _ rfl s' j)
  have right : ∀ {c dy : Addr} {gs : List (Str × V)} {T id : String}, H c = some (.ins C dy gs) → y = .ref c → s.TypeIs v T → PySem.W.subIn X.K (.ref C) (.type T) = some false → oneThing? .Eq v (.ref c) = none → Slot T (cmpInfo .Eq).2.1 id →
      wpAny (model X.prog X.w) X.A (call (.builtin id) [v, .ref c]) (fun z s' => z = .notImplemented ∧ s' = s) X.xe s → isAt e = true → isAt d = false → wpAny (model X.prog X.w) X.A (richCompare .Eq v u) (EP X pins σ Q) X.xe s := fun {c dy gs T id} u1 hyc ht1 hT hone sl dec e1 d1 => by
    subst hyc
    cases ry
    obtain ⟨od, J⟩ := inst u1
    exact rc_right (op := .Eq) hu I.kIn J ht1 hT hone sl dec (try_eq (own u1 hy hx rx e1 we wd ze zd)) (fun s' j => fin _ (by rw [comm d1 e1]) s' j)
  have flat : scal x y = true → (decide (x = y)) = ((eqD d e)) → wpAny (model X.prog X.w) X.A (richCompare .Eq v u) (EP X pins σ Q) X.xe s := fun hs he => op_eq pins s σ H x y v u Q I rx ry ⟨hs, by rw [he]; exact q H (Same.refl H)⟩
  cases hx with
  | bl b => cases wd
  | lst _ _ => cases wd
  | dct _ => cases wd
  | @atom a1 dx1 t1 k1 xs1 ds1 svu1 u1 v1 i1 gmu1 =>
    cases hy with
    | bl b => cases we
    | lst _ _ => cases we
    | dct _ => cases we
    | @atom a2 dx2 t2 k2 xs2 ds2 svu2 u2 v2 i2 gmu2 =>
      cases rx
      cases ry
      obtain ⟨od, J⟩ := inst u1
      obtain ⟨od2, J2⟩ := inst u2
      have ow := try_eq (own u1 (.atom u1 v1 i1 gmu1) (.atom u2 v2 i2 gmu2) (rfl : RelV (.ref a2) (.ref a2)) rfl wd we zd ze)
      unfold richCompare
      simp only [oneThing_ref]
      refine wpAny_holding (wpAny_bind (wpAny_cRoomFor hu ?_))
      refine wpAny_bind (J.type.here (wpAny_bind (J2.type.here ?_)))
      split
      · rename_i z
        exact absurd z (by simp)
      · refine wpAny_bind (wpAny_pure ?_)
        simp only [Bool.false_eq_true, if_false]
        refine wpAny_bind (wpAny_mono ow (fun r s' z => ?_) fun _ _ z => z)
        obtain ⟨rfl, j⟩ := z
        exact wpAny_pure (fin _ rfl s' j)
    | non => cases ry; exact left u1 rfl rfl (.inl rfl) rfl
    | int j => obtain ⟨t, rfl⟩ := ry; exact left u1 rfl rfl (.inr (.inl rfl)) rfl
    | str z => obtain ⟨t, rfl⟩ := ry; exact left u1 rfl rfl (.inr (.inr (.inl rfl))) rfl
    | tup h2 i2 =>
      cases ry
      obtain ⟨its, oo, ho, hc, _⟩ := tups h2
      exact left u1 rfl ⟨oo, ho, hc⟩ (.inr (.inr (.inr rfl))) rfl
  | non =>
    cases rx
    cases hy with
    | bl b => cases we
    | lst _ _ => cases we
    | dct _ => cases we
    | non => exact flat rfl (by simp [eqD])
    | int j => exact flat rfl (by simp [eqD])
    | str z => exact flat rfl (by simp [eqD])
    | tup h2 i2 =>
      cases ry
      obtain ⟨its, hi⟩ := tups h2
      exact RcAt.none_tuple hi hu _ _ _ _ (fin _ rfl s here)
    | @atom c dy _ _ _ _ svu2 u2 _ _ gmu2 => exact right u2 rfl rfl o.sN rfl F.slot_NoneType_eq (call_gives F.slot_NoneType_eq rfl F.entry_NoneType_eq (F.args_NoneType_eq_2 _ _) (NoneType___eq___none_ref_0 c) ⟨rfl, rfl⟩) rfl rfl
  | int i =>
    obtain ⟨t, rfl⟩ := rx
    cases hy with
    | bl b => cases we
    | lst _ _ => cases we
    | dct _ => cases we
    | non => exact flat rfl (by simp [eqD])
    | int j => exact flat rfl (by simp [eqD])
    | str z => exact flat rfl (by simp [eqD])
    | tup h2 i2 =>
      cases ry
      obtain ⟨its, hi⟩ := tups h2
      exact RcAt.int_tuple i t hi hu _ _ _ _ (fin _ rfl s here)
    | @atom c dy _ _ _ _ svu2 u2 _ _ gmu2 =>
      obtain ⟨od, J⟩ := inst u2
      exact right u2 rfl rfl o.sI rfl F.slot_int_eq (call_meets F.slot_int_eq rfl F.entry_int_eq (F.args_int_eq_2 _ _) (int_eq_inst i t c C dy) ⟨J.at_, rfl, rfl⟩) rfl rfl
  | str z0 =>
    obtain ⟨t, rfl⟩ := rx
    cases hy with
    | bl b => cases we
    | lst _ _ => cases we
    | dct _ => cases we
    | non => exact flat rfl (by simp [eqD])
    | int j => exact flat rfl (by simp [eqD])
    | str z => exact flat rfl (by simp [eqD])
    | tup h2 i2 =>
      cases ry
      obtain ⟨its, hi⟩ := tups h2
      exact RcAt.str_tuple z0 t hi hu _ _ _ _ (fin _ rfl s here)
    | @atom c dy _ _ _ _ svu2 u2 _ _ gmu2 =>
      obtain ⟨od, J⟩ := inst u2
      exact right u2 rfl rfl o.sS rfl F.slot_str_eq (call_meets F.slot_str_eq rfl F.entry_str_eq (F.args_str_eq_2 _ _) (str_eq_inst z0 t c C dy) ⟨J.at_, rfl, rfl⟩) rfl rfl
  | @tup a1 xs1 ds1 h1 i1 =>
    cases rx
    obtain ⟨its, hi⟩ := tups h1
    cases hy with
    | bl b => cases we
    | lst _ _ => cases we
    | dct _ => cases we
    | non => cases ry; exact RcAt.tuple_none hi hu _ _ _ _ (fin _ rfl s here)
    | int j => obtain ⟨t, rfl⟩ := ry; exact RcAt.tuple_int j t hi hu _ _ _ _ (fin _ rfl s here)
    | str z => obtain ⟨t, rfl⟩ := ry; exact RcAt.tuple_str z t hi hu _ _ _ _ (fin _ rfl s here)
    | @atom c dy _ _ _ _ svu2 u2 _ _ gmu2 =>
      obtain ⟨od, J⟩ := inst u2
      obtain ⟨⟨cls, dd, data, sl⟩, ho, hc, k, hd⟩ := id hi
      simp only at hc hd
      subst hc hd
      exact right u2 rfl ⟨_, ho, rfl⟩ o.sT (oneThing_ref _ _ _) F.slot_tuple_eq (GQ.call_here F.slot_tuple_eq ⟨_, ho, rfl⟩ F.entry_tuple_eq (F.args_tuple_eq_2 _ _) (tup_eq_inst (PySem.W.looks_subIn I.kIn o.sT) J.at_ ho ⟨rfl, rfl⟩)) rfl rfl
    | @tup a2 ys1 es1 h2 i2 =>
      cases ry
      obtain ⟨its, r, eT, z⟩ := I.tuple (SqT.of h1)
      obtain ⟨its2, r2, eT2, z2⟩ := I.tuple (SqT.of h2)
      simp only [wrd] at wd we
      simp only [sz] at zd ze
      have l1 := r.length
      have l2 := r2.length
      have l3 := i1.len
      have l4 := i2.len
      obtain ⟨⟨cls, dd, data, sl⟩, ho, hc, n1, hd1⟩ := id eT
      obtain ⟨⟨cls2, dd2, data2, sl2⟩, ho2, hc2, n2, hd2⟩ := id eT2
      simp only at hc hd1 hc2 hd2
      subst hc hd1 hc2 hd2
      have hdep : depL ds1 ≤ N := by simp only [dep] at hdp; omega
      have pair : ∀ i (k1 : i < its.toArray.size) (k2 : i < its2.toArray.size) s1, LoopS X pins σ H s1 → wpAny (model X.prog X.w) X.A.in1 (eqBool its.toArray[i] its2.toArray[i]) (fun r s' => r = (match ds1[i]?, es1[i]? with | some d, some e => eqD d e | _, _ => false) ∧ LoopS X pins σ H s') X.xe s1 := fun i k1 k2 s1 j => by
        obtain ⟨H1, I1, e1⟩ := j
        have k1' : i < its.length := by simpa using k1
        have k2' : i < its2.length := by simpa using k2
        obtain ⟨p, hp, rp⟩ := r.get (List.getElem?_eq_getElem (show i < xs1.length by omega))
        obtain ⟨q, hq, rq⟩ := r2.get (List.getElem?_eq_getElem (show i < ys1.length by omega))
        rw [List.getElem?_eq_getElem k1'] at hp
        rw [List.getElem?_eq_getElem k2'] at hq
        have ep : its.toArray[i] = p := by simpa using Option.some.inj hp
        have eq : its2.toArray[i] = q := by simpa using Option.some.inj hq
        obtain ⟨d', hd', ix⟩ := i1.at (List.getElem?_eq_getElem (show i < xs1.length by omega))
        obtain ⟨e', he', iy⟩ := i2.at (List.getElem?_eq_getElem (show i < ys1.length by omega))
        have md := List.mem_of_getElem? hd'
        have me := List.mem_of_getElem? he'
        have s1' := szL_mem md
        have s2' := szL_mem me
        rw [ep, eq, hd', he']
        refine wpAny_mono (eqW O o N (A := X.A.in1) sb0.in1 (Nat.le_trans (depL_mem md) hdep) I1 rp rq ⟨ix.same e1, iy.same e1, wrdL_mem wd md, wrdL_mem we me, by omega, by omega⟩) (fun r s2 q2 => ?_) fun _ _ z => z
        obtain ⟨hr, H2, I2, e2⟩ := q2
        exact ⟨hr, H2, I2, e1.trans e2⟩
      have hall : allP (fun i => match ds1[i]?, es1[i]? with | some d, some e => eqD d e | _, _ => false) its.toArray.size its2.toArray.size = eqL ds1 es1 := by
        rw [List.size_toArray, List.size_toArray, ← l1, ← l2, l3, l4]
        exact eqL_all _ fun i d' e' h1 h2 => by simp only [h1, h2]
      refine wpAny_richCompare_same_room (op := .Eq) ⟨_, ho, rfl⟩ ⟨_, ho2, rfl⟩ F.slot_tuple_eq (GQ.call_here F.slot_tuple_eq ⟨_, ho, rfl⟩ F.entry_tuple_eq (F.args_tuple_eq_2 _ _) ?_) hu
      exact tup_eqB (R := wants (fun z s' => z ≠ .notImplemented ∧ EP X pins σ Q z s') X.xe) pair (fun s' j => ⟨(fun z => nomatch z), fin _ (by rw [hall]; rfl) s' j⟩) ho ho2 here

theorem op_neW (O : OwnS X.prog X.w X.K X.mg X.base n C (spEqG C)) (o : Oth X.K C) (hr : Room (N + n + 1) X.A) : OpR X (compareOp .NotEq) (rNeW C N) := by
  intro pins s σ H x y v u Q I rx ry h
  obtain ⟨d, e, w2, hdp, q⟩ := h
  have hx := w2.x
  have hy := w2.y
  have wd := w2.wd
  have we := w2.we
  have zd := w2.zd
  have ze := w2.ze
  have sb0 : Sub X (N + n + 1) X.A := ⟨hr, rfl⟩
  have sb1 : Sub X n X.A.in1 := (sb0.mono (by omega : n + 1 ≤ N + n + 1)).in1
  have sb : Sub X n X.A := sb0.mono (by omega)
  have hu := hr.units0
  have hu1 := sb1.room.units0
  show wpAny (model X.prog X.w) X.A (richCompare .NotEq v u) (EP X pins σ Q) X.xe s
  have fin : ∀ (b : Bool), b = !(eqD d e) → ∀ s', LoopS X pins σ H s' → EP X pins σ Q (.bool b) s' := fun b hb s' j => by
    obtain ⟨H', I', e'⟩ := j
    rw [hb]
    exact ⟨.bl _, H', I', rfl, q H' e'⟩
  have here : LoopS X pins σ H s := ⟨H, I, Same.refl H⟩
  have own : ∀ {a dx : Addr} {fs : List (Str × V)} {y : V} {v : Value} {d e : D}, H a = some (.ins C dx fs) → Is C H (.ref a) d → Is C H y e → RelV y v → isAt d = true → wrd d = true → wrd e = true → sz d ≤ 1000000 → sz e ≤ 1000000 → Own X.prog X.w X.A.in1 X.xe a v (eqD d e) (LoopS X pins σ H) s :=
    fun u1 h1 h2 rv d1 wd we zd ze => own_run O sb1 I u1 rv ⟨_, _, _, _, rfl, h1, h2, d1, wd, we, zd, ze, fun H' s' => ⟨rfl, s'⟩⟩
  have inst : ∀ {a dx : Addr} {fs : List (Str × V)}, H a = some (.ins C dx fs) → ∃ od, PySem.W.InstAt s.heap a (PySem.W.instObj C dx) C (some od) := fun u1 => by
    obtain ⟨mA, J, _⟩ := ins_get I.hok u1
    obtain ⟨od, J, _⟩ := J.look
    exact ⟨od, J⟩
  have tups : ∀ {a : Addr} {xs : List V}, H a = some (.tup xs) → ∃ its : Array Value, s.heap.IsTuple a its := fun h => by
    obtain ⟨its, r, e, z⟩ := I.tuple (SqT.of h)
    exact ⟨_, e⟩
  have comm : isAt d = false → isAt e = true → eqD e d = eqD d e := fun h1 h2 => by
    cases d <;> cases e <;> first | rfl | (simp [isAt] at h1; done) | (simp [isAt] at h2; done)
  have left : ∀ {a dx : Addr} {fs : List (Str × V)} {T : String}, H a = some (.ins C dx fs) → x = .ref a → s.TypeIs u T → (T = "NoneType" ∨ T = "int" ∨ T = "str" ∨ T = "tuple") → isAt d = true → wpAny (model X.prog X.w) X.A (richCompare .NotEq v u) (EP X pins σ Q) X.xe s := fun {a dx fs T} u1 hxa ht1 hT d1 => by
    subst hxa
    cases rx
    obtain ⟨od, J⟩ := inst u1
    exact rc_left (op := .NotEq) hu I.kIn J ht1 hT (try_ne hu hu1 I.kIn J o (own u1 hx hy ry d1 wd we zd ze)) (fun s' j => fin _ rfl s' j)
  have right : ∀ {c dy : Addr} {gs : List (Str × V)} {T id : String}, H c = some (.ins C dy gs) → y = .ref c → s.TypeIs v T → PySem.W.subIn X.K (.ref C) (.type T) = some false → oneThing? .NotEq v (.ref c) = none → Slot T (cmpInfo .NotEq).2.1 id →
      wpAny (model X.prog X.w) X.A (call (.builtin id) [v, .ref c]) (fun z s' => z = .notImplemented ∧ s' = s) X.xe s → isAt e = true → isAt d = false → wpAny (model X.prog X.w) X.A (richCompare .NotEq v u) (EP X pins σ Q) X.xe s := fun {c dy gs T id} u1 hyc ht1 hT hone sl dec e1 d1 => by
    subst hyc
    cases ry
    obtain ⟨od, J⟩ := inst u1
    exact rc_right (op := .NotEq) hu I.kIn J ht1 hT hone sl dec (try_ne hu hu1 I.kIn J o (own u1 hy hx rx e1 we wd ze zd)) (fun s' j => fin _ (by rw [comm d1 e1]) s' j)
  have flat : scal x y = true → (!decide (x = y)) = (!(eqD d e)) → wpAny (model X.prog X.w) X.A (richCompare .NotEq v u) (EP X pins σ Q) X.xe s := fun hs he => op_ne pins s σ H x y v u Q I rx ry ⟨hs, by rw [he]; exact q H (Same.refl H)⟩
  cases hx with
  | bl b => cases wd
  | lst _ _ => cases wd
  | dct _ => cases wd
  | @atom a1 dx1 t1 k1 xs1 ds1 svu1 u1 v1 i1 gmu1 =>
    cases hy with
    | bl b => cases we
    | lst _ _ => cases we
    | dct _ => cases we
    | @atom a2 dx2 t2 k2 xs2 ds2 svu2 u2 v2 i2 gmu2 =>
      cases rx
      cases ry
      obtain ⟨od, J⟩ := inst u1
      obtain ⟨od2, J2⟩ := inst u2
      have ow := try_ne hu hu1 I.kIn J o (own u1 (.atom u1 v1 i1 gmu1) (.atom u2 v2 i2 gmu2) (rfl : RelV (.ref a2) (.ref a2)) rfl wd we zd ze)
      unfold richCompare
      simp only [oneThing_ref]
      refine wpAny_holding (wpAny_bind (wpAny_cRoomFor hu ?_))
      refine wpAny_bind (J.type.here (wpAny_bind (J2.type.here ?_)))
      split
      · rename_i z
        exact absurd z (by simp)
      · refine wpAny_bind (wpAny_pure ?_)
        simp only [Bool.false_eq_true, if_false]
        refine wpAny_bind (wpAny_mono ow (fun r s' z => ?_) fun _ _ z => z)
        obtain ⟨rfl, j⟩ := z
        exact wpAny_pure (fin _ rfl s' j)
    | non => cases ry; exact left u1 rfl rfl (.inl rfl) rfl
    | int j => obtain ⟨t, rfl⟩ := ry; exact left u1 rfl rfl (.inr (.inl rfl)) rfl
    | str z => obtain ⟨t, rfl⟩ := ry; exact left u1 rfl rfl (.inr (.inr (.inl rfl))) rfl
    | tup h2 i2 =>
      cases ry
      obtain ⟨its, oo, ho, hc, _⟩ := tups h2
      exact left u1 rfl ⟨oo, ho, hc⟩ (.inr (.inr (.inr rfl))) rfl
  | non =>
    cases rx
    cases hy with
    | bl b => cases we
    | lst _ _ => cases we
    | dct _ => cases we
    | non => exact flat rfl (by simp [eqD])
    | int j => exact flat rfl (by simp [eqD])
    | str z => exact flat rfl (by simp [eqD])
    | tup h2 i2 =>
      cases ry
      obtain ⟨its, hi⟩ := tups h2
      exact RcNeAt.none_tuple hi hu _ _ _ _ (fin _ rfl s here)
    | @atom c dy _ _ _ _ svu2 u2 _ _ gmu2 => exact right u2 rfl rfl o.sN rfl F.slot_NoneType_ne (call_gives F.slot_NoneType_ne rfl F.entry_NoneType_ne (F.args_NoneType_ne_2 _ _) (NoneType___ne___none_ref_0 c) ⟨rfl, rfl⟩) rfl rfl
  | int i =>
    obtain ⟨t, rfl⟩ := rx
    cases hy with
    | bl b => cases we
    | lst _ _ => cases we
    | dct _ => cases we
    | non => exact flat rfl (by simp [eqD])
    | int j => exact flat rfl (by simp [eqD])
    | str z => exact flat rfl (by simp [eqD])
    | tup h2 i2 =>
      cases ry
      obtain ⟨its, hi⟩ := tups h2
      exact RcNeAt.int_tuple i t hi hu _ _ _ _ (fin _ rfl s here)
    | @atom c dy _ _ _ _ svu2 u2 _ _ gmu2 =>
      obtain ⟨od, J⟩ := inst u2
      exact right u2 rfl rfl o.sI rfl F.slot_int_ne (call_meets F.slot_int_ne rfl F.entry_int_ne (F.args_int_ne_2 _ _) (int_ne_inst i t c C dy) ⟨J.at_, rfl, rfl⟩) rfl rfl
  | str z0 =>
    obtain ⟨t, rfl⟩ := rx
    cases hy with
    | bl b => cases we
    | lst _ _ => cases we
    | dct _ => cases we
    | non => exact flat rfl (by simp [eqD])
    | int j => exact flat rfl (by simp [eqD])
    | str z => exact flat rfl (by simp [eqD])
    | tup h2 i2 =>
      cases ry
      obtain ⟨its, hi⟩ := tups h2
      exact RcNeAt.str_tuple z0 t hi hu _ _ _ _ (fin _ rfl s here)
    | @atom c dy _ _ _ _ svu2 u2 _ _ gmu2 =>
      obtain ⟨od, J⟩ := inst u2
      exact right u2 rfl rfl o.sS rfl F.slot_str_ne (call_meets F.slot_str_ne rfl F.entry_str_ne (F.args_str_ne_2 _ _) (str_ne_inst z0 t c C dy) ⟨J.at_, rfl, rfl⟩) rfl rfl
  | @tup a1 xs1 ds1 h1 i1 =>
    cases rx
    obtain ⟨its, hi⟩ := tups h1
    cases hy with
    | bl b => cases we
    | lst _ _ => cases we
    | dct _ => cases we
    | non => cases ry; exact RcNeAt.tuple_none hi hu _ _ _ _ (fin _ rfl s here)
    | int j => obtain ⟨t, rfl⟩ := ry; exact RcNeAt.tuple_int j t hi hu _ _ _ _ (fin _ rfl s here)
    | str z => obtain ⟨t, rfl⟩ := ry; exact RcNeAt.tuple_str z t hi hu _ _ _ _ (fin _ rfl s here)
    | @atom c dy _ _ _ _ svu2 u2 _ _ gmu2 =>
      obtain ⟨od, J⟩ := inst u2
      obtain ⟨⟨cls, dd, data, sl⟩, ho, hc, k, hd⟩ := id hi
      simp only at hc hd
      subst hc hd
      exact right u2 rfl ⟨_, ho, rfl⟩ o.sT (oneThing_ref _ _ _) F.slot_tuple_ne (GQ.call_here F.slot_tuple_ne ⟨_, ho, rfl⟩ F.entry_tuple_ne (F.args_tuple_ne_2 _ _) (tup_ne_inst (PySem.W.looks_subIn I.kIn o.sT) J.at_ ho ⟨rfl, rfl⟩)) rfl rfl
    | @tup a2 ys1 es1 h2 i2 =>
      cases ry
      obtain ⟨its, r, eT, z⟩ := I.tuple (SqT.of h1)
      obtain ⟨its2, r2, eT2, z2⟩ := I.tuple (SqT.of h2)
      simp only [wrd] at wd we
      simp only [sz] at zd ze
      have l1 := r.length
      have l2 := r2.length
      have l3 := i1.len
      have l4 := i2.len
      obtain ⟨⟨cls, dd, data, sl⟩, ho, hc, n1, hd1⟩ := id eT
      obtain ⟨⟨cls2, dd2, data2, sl2⟩, ho2, hc2, n2, hd2⟩ := id eT2
      simp only at hc hd1 hc2 hd2
      subst hc hd1 hc2 hd2
      have hdep : depL ds1 ≤ N := by simp only [dep] at hdp; omega
      have pair : ∀ i (k1 : i < its.toArray.size) (k2 : i < its2.toArray.size) s1, LoopS X pins σ H s1 → wpAny (model X.prog X.w) X.A.in1 (eqBool its.toArray[i] its2.toArray[i]) (fun r s' => r = (match ds1[i]?, es1[i]? with | some d, some e => eqD d e | _, _ => false) ∧ LoopS X pins σ H s') X.xe s1 := fun i k1 k2 s1 j => by
        obtain ⟨H1, I1, e1⟩ := j
        have k1' : i < its.length := by simpa using k1
        have k2' : i < its2.length := by simpa using k2
        obtain ⟨p, hp, rp⟩ := r.get (List.getElem?_eq_getElem (show i < xs1.length by omega))
        obtain ⟨q, hq, rq⟩ := r2.get (List.getElem?_eq_getElem (show i < ys1.length by omega))
        rw [List.getElem?_eq_getElem k1'] at hp
        rw [List.getElem?_eq_getElem k2'] at hq
        have ep : its.toArray[i] = p := by simpa using Option.some.inj hp
        have eq : its2.toArray[i] = q := by simpa using Option.some.inj hq
        obtain ⟨d', hd', ix⟩ := i1.at (List.getElem?_eq_getElem (show i < xs1.length by omega))
        obtain ⟨e', he', iy⟩ := i2.at (List.getElem?_eq_getElem (show i < ys1.length by omega))
        have md := List.mem_of_getElem? hd'
        have me := List.mem_of_getElem? he'
        have s1' := szL_mem md
        have s2' := szL_mem me
        rw [ep, eq, hd', he']
        refine wpAny_mono (eqW O o N (A := X.A.in1) sb0.in1 (Nat.le_trans (depL_mem md) hdep) I1 rp rq ⟨ix.same e1, iy.same e1, wrdL_mem wd md, wrdL_mem we me, by omega, by omega⟩) (fun r s2 q2 => ?_) fun _ _ z => z
        obtain ⟨hr, H2, I2, e2⟩ := q2
        exact ⟨hr, H2, I2, e1.trans e2⟩
      have hall : allP (fun i => match ds1[i]?, es1[i]? with | some d, some e => eqD d e | _, _ => false) its.toArray.size its2.toArray.size = eqL ds1 es1 := by
        rw [List.size_toArray, List.size_toArray, ← l1, ← l2, l3, l4]
        exact eqL_all _ fun i d' e' h1 h2 => by simp only [h1, h2]
      refine wpAny_richCompare_same_room (op := .NotEq) ⟨_, ho, rfl⟩ ⟨_, ho2, rfl⟩ F.slot_tuple_ne (GQ.call_here F.slot_tuple_ne ⟨_, ho, rfl⟩ F.entry_tuple_ne (F.args_tuple_ne_2 _ _) ?_) hu
      exact tup_neB (R := wants (fun z s' => z ≠ .notImplemented ∧ EP X pins σ Q z s') X.xe) pair (fun s' j => ⟨(fun z => nomatch z), fin _ (by rw [hall]; rfl) s' j⟩) ho ho2 here
end
end Hc

namespace Hc
open PySem PySem.Spec PyProof.Rows L2 Hr
variable [Memo]
mutual
theorem dep_full : ∀ d : D, dep d ≤ full d
  | .tup ds => by simp only [dep, full]; have := depL_full ds; omega
  | .atom k ds => by simp only [dep]; omega
  | .non | .bl _ | .int _ | .str _ | .lst _ | .dct => by simp only [dep]; omega
theorem depL_full : ∀ ds : List D, depL ds ≤ fullL ds
  | [] => Nat.le_refl _
  | d :: ds => by simp only [depL, fullL]; have := dep_full d; have := depL_full ds; omega
end
mutual
theorem places_in : ∀ (d : D), ∀ a ∈ places d, (wrd d = true → wrd a = true) ∧ full a ≤ full d ∧ sz a ≤ sz d
  | .tup ds, a, h => by
    simp only [places] at h
    have := placesL_in ds a h
    simp only [wrd, full, sz]
    exact ⟨this.1, by omega, by omega⟩
  | .atom k ds, a, h => by
    simp only [places, List.mem_singleton] at h
    rw [h]
    exact ⟨fun x => x, Nat.le_refl _, Nat.le_refl _⟩
  | .non, a, h | .bl _, a, h | .int _, a, h | .str _, a, h | .lst _, a, h | .dct, a, h => by simp [places] at h
theorem placesL_in : ∀ (ds : List D), ∀ a ∈ placesL ds, (wrdL ds = true → wrd a = true) ∧ full a ≤ fullL ds ∧ sz a ≤ szL ds
  | [], a, h => by simp [placesL] at h
  | d :: ds, a, h => by
    simp only [placesL] at h
    simp only [wrdL, fullL, szL, Bool.and_eq_true]
    rcases List.mem_append.mp h with h | h
    · have := places_in d a h
      exact ⟨fun x => this.1 x.1, by omega, by omega⟩
    · have := placesL_in ds a h
      exact ⟨fun x => this.1 x.2, by omega, by omega⟩
end
mutual
theorem full_strip : ∀ d : D, full (stripD d) ≤ full d
  | .tup ds => by simp only [stripD, full]; have := fullL_strip ds; omega
  | .atom k ds => by
    simp only [stripD]
    split
    · simp only [full]; have := fullL_strip ds; omega
    · simp only [wo]
      split
      · simp only [full]
        have : fullL (ds.take 3 ++ [.non]) ≤ fullL ds := by
          have h1 : ∀ (n : Nat) (xs : List D), fullL (xs.take n ++ [.non]) ≤ fullL xs := fun n => by
            induction n with
            | zero => intro xs; simp only [List.take_zero, List.nil_append, fullL, full]; omega
            | succ n ih =>
              intro xs
              cases xs with
              | nil => simp only [List.take_nil, List.nil_append, fullL, full]; omega
              | cons x xs => simp only [List.take_succ_cons, List.cons_append, fullL]; have := ih xs; omega
          exact h1 3 ds
        omega
      · exact Nat.le_refl _
  | .non | .bl _ | .int _ | .str _ | .lst _ | .dct => Nat.le_refl _
theorem fullL_strip : ∀ ds : List D, fullL (stripL ds) ≤ fullL ds
  | [] => Nat.le_refl _
  | d :: ds => by simp only [stripL, fullL]; have := full_strip d; have := fullL_strip ds; omega
end
mutual
theorem rkk_strip : ∀ d : D, wrd d = true → rkk d = true → rkk (stripD d) = true
  | .tup ds, w, h => by simp only [rkk] at h; simp only [wrd] at w; simp only [stripD, rkk]; exact rkkL_strip ds w h
  | .atom k ds, w, h => by
    simp only [wrd, Bool.and_eq_true] at w
    simp only [rkk, Bool.and_eq_true, decide_eq_true_eq] at h
    have hr := rank_strip (.atom k ds)
    simp only [stripD] at hr ⊢
    split
    · rename_i c
      rw [if_pos c] at hr
      simp only [rkk, Bool.and_eq_true, decide_eq_true_eq]
      exact ⟨Nat.le_trans hr h.1, rkkL_strip ds w.1 h.2⟩
    · rename_i c
      rw [if_neg c] at hr
      simp only [wo] at hr ⊢
      by_cases c2 : hid k = true
      · rw [if_pos c2] at hr ⊢
        simp only [rkk, Bool.and_eq_true, decide_eq_true_eq]
        refine ⟨Nat.le_trans hr h.1, ?_⟩
        have h1 : ∀ (n : Nat) (xs : List D), rkkL xs = true → rkkL (xs.take n ++ [.non]) = true := fun n => by
          induction n with
          | zero => intro xs _; rfl
          | succ n ih =>
            intro xs hx
            cases xs with
            | nil => rfl
            | cons x xs =>
              simp only [rkkL, Bool.and_eq_true] at hx
              simp only [List.take_succ_cons, List.cons_append, rkkL, Bool.and_eq_true]
              exact ⟨hx.1, ih xs hx.2⟩
        exact h1 3 ds h.2
      · rw [if_neg c2]
        simp only [rkk, Bool.and_eq_true, decide_eq_true_eq]
        exact h
  | .non, _, h | .bl _, _, h | .int _, _, h | .str _, _, h | .lst _, _, h | .dct, _, h => h
theorem rkkL_strip : ∀ ds : List D, wrdL ds = true → rkkL ds = true → rkkL (stripL ds) = true
  | [], _, _ => rfl
  | d :: ds, w, h => by
    simp only [rkkL, Bool.and_eq_true] at h
    simp only [wrdL, Bool.and_eq_true] at w
    simp only [stripL, rkkL, Bool.and_eq_true]
    exact ⟨rkk_strip d w.1 h.1, rkkL_strip ds w.2 h.2⟩
end
mutual
theorem strip_twice : ∀ d : D, wrd d = true → stripD (stripD d) = stripD d
  | .tup ds, w => by simp only [wrd] at w; simp only [stripD]; rw [stripL_twice ds w]
  | .atom k ds, w => by
    simp only [wrd, Bool.and_eq_true] at w
    simp only [stripD]
    split
    · rename_i c
      simp only [stripD]; rw [if_pos c, stripL_twice ds w.1]
    · rename_i c
      by_cases c2 : hid k = true
      · obtain ⟨a, b, e, g, rfl, e1, _⟩ := wo_hid c2 w.2
        rw [e1]
        simp only [stripD]
        rw [if_neg c]
        simp only [wo]
        rw [if_pos c2]; rfl
      · simp only [wo]
        rw [if_neg c2]
        simp only [stripD]
        rw [if_neg c]
        simp only [wo]
        rw [if_neg c2]
  | .non, _ | .bl _, _ | .int _, _ | .str _, _ | .lst _, _ | .dct, _ => rfl
theorem stripL_twice : ∀ ds : List D, wrdL ds = true → stripL (stripL ds) = stripL ds
  | [], _ => rfl
  | d :: ds, w => by
    simp only [wrdL, Bool.and_eq_true] at w
    simp only [stripL]; rw [strip_twice d w.1, stripL_twice ds w.2]
end
theorem PartOk.strip {d : D} (h : PartOk d) : PartOk (stripD d) :=
  ⟨(wrd_strip d h.w).1, rkk_strip d h.w h.r, txl_strip d h.t, Nat.le_trans (wrd_strip d h.w).2 h.z⟩
theorem Wk.part {k : Nat} {d : D} (h : Wk k d) (hk : k ≤ 4) : PartOk d := by
  have h5 : 5 ^ k ≤ 5 ^ 4 := Nat.pow_le_pow_right (by decide) hk
  exact ⟨h.1.w, h.1.k, h.1.t, by have := h.1.z; omega⟩
/-! ### a written dict of texts and ints, compared with a fresh one -/
inductive Ents : List DictEntry → List (Str × Int) → Prop
  | nil : Ents [] []
  | cons {e : DictEntry} {es : List DictEntry} {x : Str} {i : Int} {ks : List (Str × Int)} (h1 : ∃ t, e.key = .str x t) (h2 : ∃ u, e.val = .int i u) (t : Ents es ks) : Ents (e :: es) ((x, i) :: ks)
structure KInts (K : PySem.W.Frag) (w : World) (d : Addr) (ks : List (Str × Int)) : Prop where
  ex : ∃ es n, K.lookup d = some ⟨.type "dict", none, .dict es n, #[]⟩ ∧ PySem.W.KeysLit w.params es.toList ∧ Ents es.toList ks
  low : (d == sysModules) = false
  nd : (ks.map (·.1)).Nodup
def kiV (ks : List (Str × Int)) : List (Key × V) := ks.map fun p => (Sum.inr p.1, .int p.2)
theorem ents_pairs {prog : Program} {w : World} : ∀ {es : List DictEntry} {ks : List (Str × Int)}, Ents es ks → PySem.W.KeysLit w.params es → ∃ va : List (Key × Value), Pairs (mixKind prog w) es va ∧ KV (kiV ks) va ∧ va.map (·.1) = ks.map (fun p => (Sum.inr p.1 : Key)) ∧ ∀ e ∈ es, ∃ k, (mixKind prog w).is k e.key = true ∧ e.hash = (mixKind prog w).hash k
  | _, _, .nil, _ => ⟨[], .nil, .nil, rfl, fun e h => by cases h⟩
  | _, _, .cons (e := e) (x := x) (i := i) h1 h2 t, kl => by
    obtain ⟨kl1, kl2⟩ := kl
    obtain ⟨va, p1, p2, p3, p4⟩ := ents_pairs (prog := prog) t kl2
    obtain ⟨tk, hk⟩ := h1
    obtain ⟨tv, hv⟩ := h2
    obtain ⟨x', t', e1, e2⟩ := kl1
    have ex : x' = x := by rw [hk] at e1; cases e1; rfl
    subst ex
    refine ⟨(Sum.inr x', .int i tv) :: va, .cons (by rw [hk]; exact keyIs_str x' tk) hv p1, .cons ⟨rfl, tv, rfl⟩ p2, by rw [List.map_cons, List.map_cons, p3], fun e' he => ?_⟩
    rcases List.mem_cons.mp he with rfl | he
    · exact ⟨Sum.inr x', by rw [hk]; exact keyIs_str x' tk, e2⟩
    · exact p4 e' he
theorem KInts.dict {prog : Program} {w : World} {K : PySem.W.Frag} {d : Addr} {ks : List (Str × Int)} (k : KInts K w d ks) {h : Heap} (X : K.In h) : ∃ va, h.DictOf (mixKind prog w) d va ∧ KV (kiV ks) va ∧ va.length = ks.length := by
  obtain ⟨es, n, hl, hk, he⟩ := k.ex
  obtain ⟨va, p1, p2, p3, p4⟩ := ents_pairs (prog := prog) he hk
  have nd : (va.map (·.1)).Nodup := by
    rw [p3]
    have h2 : ks.map (fun p => (Sum.inr p.1 : Key)) = (ks.map (·.1)).map Sum.inr := by rw [List.map_map]; rfl
    rw [h2]
    exact List.pairwise_map.mpr (List.Pairwise.imp (fun {a b} z => fun q => z (Sum.inr.inj q)) k.nd)
  refine ⟨va, ⟨_, es, n, X _ _ hl, ⟨rfl, rfl, rfl⟩, rfl, fun e he => p4 e (Array.mem_toList_iff.mpr he), p1, nd⟩, p2, ?_⟩
  have := congrArg List.length p3
  simpa using this
def rNeKI (d : Addr) (ks : List (Str × Int)) : R2 := fun x y H Q => ∃ b ls, x = .ref d ∧ y = .ref b ∧ H b = some (.dK ls) ∧ ks.length = ls.length ∧ (∀ p ∈ kiV ks, valV ls p.1 = some p.2 ∧ flatB p.2 = true) ∧ Q (.bl false) H
theorem op_neKI {X : Cx} {d : Addr} {ks : List (Str × Int)} (k : KInts X.K X.w d ks) (hu : X.A.units < cLine) : OpR X (compareOp .NotEq) (rNeKI d ks) := by
  intro pins s σ H x y v u Q I rx ry h
  obtain ⟨b, ls, rfl, rfl, eb, hlen, hp, q⟩ := h
  cases rx
  cases ry
  obtain ⟨va, da, ra, la⟩ := k.dict (prog := X.prog) I.kIn
  obtain ⟨_, yb, vb, rb, db⟩ := (show ObjOk X.prog X.w H s.heap b (.dK ls) from I.hok b _ eb)
  have hl : va.length = vb.length := by rw [la, hlen, rb.length]
  exact PySem.W.keq_ne (knd := mixKind X.prog X.w) (r := true) k.low yb da db hu (fun _ => hits_all rb ra hp) (fin_bl I q (by simp [hl]))
end Hc

/-! atoms that have noted their stripped ones -/
namespace Hc
open PySem PySem.Spec PyProof.Rows L2 Hr
/-- an atom can have noted anything -/
def memoW : Memo := ⟨fun _ => True, trivial⟩
/-- no atom has noted anything -/
def memo0 : Memo := ⟨fun v => v = .non, rfl⟩
mutual
/-- what atoms have noted is right, at every depth -/
inductive IsS (C : Addr) (H : Hp) : V → D → Prop
  | non : IsS C H .non .non
  | bl (b : Bool) : IsS C H (.bl b) (.bl b)
  | int (i : Int) : IsS C H (.int i) (.int i)
  | str (s : Str) : IsS C H (.str s) (.str s)
  | tup {a : Addr} {xs : List V} {ds : List D} (h : H a = some (.tup xs)) (t : ISA C H xs ds) : IsS C H (.ref a) (.tup ds)
  | lst {a : Addr} {xs : List V} {ds : List D} (h : H a = some (.lst xs)) (t : ISA C H xs ds) : IsS C H (.ref a) (.lst ds)
  | dct {a : Addr} {kvs : List (Key × V)} (h : H a = some (.dK kvs)) : IsS C H (.ref a) .dct
  | atN {a dx t : Addr} {k : Str} {xs : List V} {ds : List D} (h : H a = some (.ins C dx (atF k t (rank (.atom k ds)) .non))) (h2 : H t = some (.tup xs)) (t : ISA C H xs ds) : IsS C H (.ref a) (.atom k ds)
  | atS {a dx t : Addr} {k : Str} {xs : List V} {ds : List D} (h : H a = some (.ins C dx (atF k t (rank (.atom k ds)) (.ref a)))) (h2 : H t = some (.tup xs)) (t : ISA C H xs ds) (e : stripD (.atom k ds) = .atom k ds) : IsS C H (.ref a) (.atom k ds)
  | atO {a b dx t : Addr} {k : Str} {xs : List V} {ds : List D} (h : H a = some (.ins C dx (atF k t (rank (.atom k ds)) (.ref b)))) (h2 : H t = some (.tup xs)) (t : ISA C H xs ds) (z : sz (stripD (.atom k ds)) ≤ sz (.atom k ds)) (w : IsS C H (.ref b) (stripD (.atom k ds))) : IsS C H (.ref a) (.atom k ds)
inductive ISA (C : Addr) (H : Hp) : List V → List D → Prop
  | nil : ISA C H [] []
  | cons {x : V} {xs : List V} {d : D} {ds : List D} (h : IsS C H x d) (t : ISA C H xs ds) : ISA C H (x :: xs) (d :: ds)
end
section
variable {C : Addr} {H H' : Hp}
mutual
theorem IsS.is : ∀ {x : V} {d : D}, IsS C H x d → @Is memoW C H x d
  | _, _, .non => @Is.non memoW _ _
  | _, _, .bl b => @Is.bl memoW _ _ b
  | _, _, .int i => @Is.int memoW _ _ i
  | _, _, .str s => @Is.str memoW _ _ s
  | _, _, .tup h t => @Is.tup memoW _ _ _ _ _ h (ISA.is t)
  | _, _, .lst h t => @Is.lst memoW _ _ _ _ _ h (ISA.is t)
  | _, _, .dct h => @Is.dct memoW _ _ _ _ h
  | _, _, .atN h h2 t => @Is.atom memoW _ _ _ _ _ _ _ _ _ h h2 (ISA.is t) trivial
  | _, _, .atS h h2 t _ => @Is.atom memoW _ _ _ _ _ _ _ _ _ h h2 (ISA.is t) trivial
  | _, _, .atO h h2 t _ _ => @Is.atom memoW _ _ _ _ _ _ _ _ _ h h2 (ISA.is t) trivial
theorem ISA.is : ∀ {xs : List V} {ds : List D}, ISA C H xs ds → @IsA memoW C H xs ds
  | _, _, .nil => @IsA.nil memoW _ _
  | _, _, .cons h t => @IsA.cons memoW _ _ _ _ _ _ (IsS.is h) (ISA.is t)
end
section
local instance iwS1 : Memo := memo0
mutual
/-- where nothing is noted, all that is noted is right -/
theorem Is.isS : ∀ {x : V} {d : D}, @Is memo0 C H x d → IsS C H x d
  | _, _, .non => .non
  | _, _, .bl b => .bl b
  | _, _, .int i => .int i
  | _, _, .str s => .str s
  | _, _, .tup h t => .tup h (IsA.isS t)
  | _, _, .lst h t => .lst h (IsA.isS t)
  | _, _, .dct h => .dct h
  | _, _, .atom h h2 t g => .atN (by rw [show _ = V.non from g] at h; exact h) h2 (IsA.isS t)
theorem IsA.isS : ∀ {xs : List V} {ds : List D}, @IsA memo0 C H xs ds → ISA C H xs ds
  | _, _, .nil => .nil
  | _, _, .cons h t => .cons (Is.isS h) (IsA.isS t)
end
end
theorem IsS.uniq {x : V} {d e : D} (h : IsS C H x d) (g : IsS C H x e) : d = e := @Is.uniq memoW C H x d e h.is g.is
/-- an atom has noted something, the rest stays -/
structure Note (C : Addr) (H H' : Hp) (a : Addr) (s : Nat) : Prop where
  st : ∀ b o, H b = some o → b ≠ a → H' b = some o
  no : ∀ d, IsS C H (.ref a) d → sz d = s
  it : ∀ o, H a = some o → ∃ dx fs, o = .ins C dx fs
mutual
theorem IsS.low {a : Addr} {s : Nat} (n : Note C H H' a s) : ∀ {x : V} {d : D}, IsS C H x d → sz d < s → IsS C H' x d
  | _, _, .non, _ => .non
  | _, _, .bl b, _ => .bl b
  | _, _, .int i, _ => .int i
  | _, _, .str z, _ => .str z
  | _, _, .tup h t, l => .tup (n.st _ _ h (fun z => by subst z; obtain ⟨_, _, y⟩ := n.it _ h; cases y)) (ISA.low n t (by simp only [sz] at l; omega))
  | _, _, .lst h t, l => .lst (n.st _ _ h (fun z => by subst z; obtain ⟨_, _, y⟩ := n.it _ h; cases y)) (ISA.low n t (by simp only [sz] at l; omega))
  | _, _, .dct h, _ => .dct (n.st _ _ h (fun z => by subst z; obtain ⟨_, _, y⟩ := n.it _ h; cases y))
  | _, _, .atN h h2 t, l => .atN (n.st _ _ h (fun z => by subst z; have := n.no _ (.atN h h2 t); omega)) (n.st _ _ h2 (fun z => by subst z; obtain ⟨_, _, y⟩ := n.it _ h2; cases y)) (ISA.low n t (by simp only [sz] at l; omega))
  | _, _, .atS h h2 t e, l => .atS (n.st _ _ h (fun z => by subst z; have := n.no _ (.atS h h2 t e); omega)) (n.st _ _ h2 (fun z => by subst z; obtain ⟨_, _, y⟩ := n.it _ h2; cases y)) (ISA.low n t (by simp only [sz] at l; omega)) e
  | _, _, .atO h h2 t z w, l => .atO (n.st _ _ h (fun y => by subst y; have := n.no _ (.atO h h2 t z w); omega)) (n.st _ _ h2 (fun z => by subst z; obtain ⟨_, _, y⟩ := n.it _ h2; cases y)) (ISA.low n t (by simp only [sz] at l; omega)) z (IsS.low n w (by omega))
theorem ISA.low {a : Addr} {s : Nat} (n : Note C H H' a s) : ∀ {xs : List V} {ds : List D}, ISA C H xs ds → szL ds < s → ISA C H' xs ds
  | _, _, .nil, _ => .nil
  | _, _, .cons h t, l => .cons (IsS.low n h (by simp only [szL] at l; omega)) (ISA.low n t (by simp only [szL] at l; omega))
end
mutual
/-- behind the note, everything that was right is right -/
theorem IsS.noted {a dx t : Addr} {k : Str} {ds : List D} {sv : V} (n : Note C H H' a (sz (.atom k ds))) (ia : IsS C H (.ref a) (.atom k ds)) (hs : H' a = some (.ins C dx (atF k t (rank (.atom k ds)) sv))) (ht : ∀ xs dy t' sv', H a = some (.ins C dy (atF k t' (rank (.atom k ds)) sv')) → H t' = some (.tup xs) → t' = t ∧ H' t = some (.tup xs))
    (mk : ∀ xs, H' t = some (.tup xs) → ISA C H' xs ds → IsS C H' (.ref a) (.atom k ds)) : ∀ {x : V} {d : D}, IsS C H x d → IsS C H' x d
  | _, _, .non => .non
  | _, _, .bl b => .bl b
  | _, _, .int i => .int i
  | _, _, .str z => .str z
  | _, _, .tup h t => .tup (n.st _ _ h (fun z => by subst z; obtain ⟨_, _, y⟩ := n.it _ h; cases y)) (ISA.noted n ia hs ht mk t)
  | _, _, .lst h t => .lst (n.st _ _ h (fun z => by subst z; obtain ⟨_, _, y⟩ := n.it _ h; cases y)) (ISA.noted n ia hs ht mk t)
  | _, _, .dct h => .dct (n.st _ _ h (fun z => by subst z; obtain ⟨_, _, y⟩ := n.it _ h; cases y))
  | _, _, @IsS.atN _ _ c dy t' k' xs ds' h h2 it => by
    have it' := ISA.noted n ia hs ht mk it
    by_cases e : c = a
    · subst e
      have := ia.uniq (.atN h h2 it)
      cases this
      obtain ⟨e1, e2⟩ := ht _ _ _ _ h h2
      exact mk _ e2 it'
    · exact .atN (n.st _ _ h e) (n.st _ _ h2 (fun z => by subst z; obtain ⟨_, _, y⟩ := n.it _ h2; cases y)) it'
  | _, _, @IsS.atS _ _ c dy t' k' xs ds' h h2 it es => by
    have it' := ISA.noted n ia hs ht mk it
    by_cases e : c = a
    · subst e
      have := ia.uniq (.atS h h2 it es)
      cases this
      obtain ⟨e1, e2⟩ := ht _ _ _ _ h h2
      exact mk _ e2 it'
    · exact .atS (n.st _ _ h e) (n.st _ _ h2 (fun z => by subst z; obtain ⟨_, _, y⟩ := n.it _ h2; cases y)) it' es
  | _, _, @IsS.atO _ _ c b' dy t' k' xs ds' h h2 it z w => by
    have it' := ISA.noted n ia hs ht mk it
    have w' := IsS.noted n ia hs ht mk w
    by_cases e : c = a
    · subst e
      have := ia.uniq (.atO h h2 it z w)
      cases this
      obtain ⟨e1, e2⟩ := ht _ _ _ _ h h2
      exact mk _ e2 it'
    · exact .atO (n.st _ _ h e) (n.st _ _ h2 (fun z => by subst z; obtain ⟨_, _, y⟩ := n.it _ h2; cases y)) it' z w'
theorem ISA.noted {a dx t : Addr} {k : Str} {ds : List D} {sv : V} (n : Note C H H' a (sz (.atom k ds))) (ia : IsS C H (.ref a) (.atom k ds)) (hs : H' a = some (.ins C dx (atF k t (rank (.atom k ds)) sv))) (ht : ∀ xs dy t' sv', H a = some (.ins C dy (atF k t' (rank (.atom k ds)) sv')) → H t' = some (.tup xs) → t' = t ∧ H' t = some (.tup xs))
    (mk : ∀ xs, H' t = some (.tup xs) → ISA C H' xs ds → IsS C H' (.ref a) (.atom k ds)) : ∀ {xs : List V} {ds' : List D}, ISA C H xs ds' → ISA C H' xs ds'
  | _, _, .nil => .nil
  | _, _, .cons h t => .cons (IsS.noted n ia hs ht mk h) (ISA.noted n ia hs ht mk t)
end
end
end Hc

/-! from one heap to another, while atoms note things -/
namespace Hc
open PySem PySem.Spec PyProof.Rows L2 Hr LamX
section
variable {C : Addr} {H H' H1 H2 : Hp}
mutual
theorem IsS.ext (e : ExtN H H') : ∀ {x : V} {d : D}, IsS C H x d → IsS C H' x d
  | _, _, .non => .non
  | _, _, .bl b => .bl b
  | _, _, .int i => .int i
  | _, _, .str s => .str s
  | _, _, .tup h t => .tup (e _ _ h (fun _ z => by cases z)) (ISA.ext e t)
  | _, _, .lst h t => .lst (e _ _ h (fun _ z => by cases z)) (ISA.ext e t)
  | _, _, .dct h => .dct (e _ _ h (fun _ z => by cases z))
  | _, _, .atN h h2 t => .atN (e _ _ h (fun _ z => by cases z)) (e _ _ h2 (fun _ z => by cases z)) (ISA.ext e t)
  | _, _, .atS h h2 t s => .atS (e _ _ h (fun _ z => by cases z)) (e _ _ h2 (fun _ z => by cases z)) (ISA.ext e t) s
  | _, _, .atO h h2 t z w => .atO (e _ _ h (fun _ z => by cases z)) (e _ _ h2 (fun _ z => by cases z)) (ISA.ext e t) z (IsS.ext e w)
theorem ISA.ext (e : ExtN H H') : ∀ {xs : List V} {ds : List D}, ISA C H xs ds → ISA C H' xs ds
  | _, _, .nil => .nil
  | _, _, .cons h t => .cons (IsS.ext e h) (ISA.ext e t)
end
theorem IsS.same (e : Same H H') {x : V} {d : D} (h : IsS C H x d) : IsS C H' x d := h.ext (ExtN.of e)
theorem ISA.same (e : Same H H') {xs : List V} {ds : List D} (h : ISA C H xs ds) : ISA C H' xs ds := h.ext (ExtN.of e)
/-- all that is right stays right, all that is no atom and no table stays, the tables stay right -/
structure StrM (C : Addr) (T : List (Addr × Str)) (H H' : Hp) : Prop where
  is : ∀ x d, wrd d = true → IsS C H x d → IsS C H' x d
  st : ∀ b o, H b = some o → (∀ dx fs, o ≠ .ins C dx fs) → (∀ ps, o ≠ .tbl ps) → H' b = some o
  fr : ∀ b, H' b = none → H b = none
  ta : Tabs T H → Tabs T H'
theorem Same.dom (e : Same H H') {b : Addr} (h : H' b = none) : H b = none := by
  cases z : H b with
  | none => rfl
  | some o => rw [e _ _ z] at h; cases h
theorem StrM.same {T : List (Addr × Str)} (e : Same H H') : StrM C T H H' := ⟨fun _ _ _ h => h.same e, fun b o h _ _ => e _ _ h, fun b h => Same.dom e h, fun t => t.ext e⟩
theorem StrM.ext {T : List (Addr × Str)} (e : ExtN H H') (f : ∀ b, H' b = none → H b = none) (t : Tabs T H') : StrM C T H H' := ⟨fun _ _ _ h => h.ext e, fun b o h _ n => e _ _ h n, f, fun _ => t⟩
theorem StrM.refl {T : List (Addr × Str)} : StrM C T H H := StrM.same (Same.refl H)
theorem StrM.trans {T : List (Addr × Str)} (u : StrM C T H H1) (v : StrM C T H1 H2) : StrM C T H H2 := ⟨fun x d w h => v.is _ _ w (u.is _ _ w h), fun b o h n n' => v.st _ _ (u.st _ _ h n n') n n', fun b h => u.fr _ (v.fr _ h), fun t => v.ta (u.ta t)⟩
/-- an atom's cell is no table's -/
theorem tabs_upd {T : List (Addr × Str)} {a dx : Addr} {fs fs' : List (Str × V)} (h : H a = some (.ins C dx fs)) (t : Tabs T H) : Tabs T (upd H a (.ins C dx fs')) := fun p hp => by
  obtain ⟨ps, h1, h2, h3⟩ := t p hp
  refine ⟨ps, by rw [upd_ne (fun z => by rw [z, h] at h1; cases h1)]; exact h1, h2, fun pos cv hc => ?_⟩
  obtain ⟨c, e1, e2⟩ := h3 pos cv hc
  exact ⟨c, e1, by rw [upd_ne (fun z => by rw [z, h] at e2; cases e2)]; exact e2⟩
theorem StrM.isA {T : List (Addr × Str)} (u : StrM C T H H') : ∀ {xs : List V} {ds : List D}, wrdL ds = true → ISA C H xs ds → ISA C H' xs ds
  | _, _, _, .nil => .nil
  | _, _, w, .cons h t => by
    simp only [wrdL, Bool.and_eq_true] at w
    exact .cons (u.is _ _ w.1 h) (StrM.isA u w.2 t)
/-- the parts of an atom -/
theorem IsS.parts {a : Addr} {k : Str} {ds : List D} (h : IsS C H (.ref a) (.atom k ds)) : ∃ dx t xs sv, H a = some (.ins C dx (atF k t (rank (.atom k ds)) sv)) ∧ H t = some (.tup xs) ∧ ISA C H xs ds ∧ (sv = .non ∨ (sv = .ref a ∧ stripD (.atom k ds) = .atom k ds) ∨ ∃ b, sv = .ref b ∧ IsS C H (.ref b) (stripD (.atom k ds))) := by
  cases h with
  | atN h h2 t => exact ⟨_, _, _, _, h, h2, t, .inl rfl⟩
  | atS h h2 t e => exact ⟨_, _, _, _, h, h2, t, .inr (.inl ⟨rfl, e⟩)⟩
  | atO h h2 t z w => exact ⟨_, _, _, _, h, h2, t, .inr (.inr ⟨_, rfl, w⟩)⟩
/-- an atom notes itself -/
theorem StrM.self {T : List (Addr × Str)} {a dx t : Addr} {k : Str} {xs : List V} {ds : List D} {sv : V} (h : H a = some (.ins C dx (atF k t (rank (.atom k ds)) sv))) (h2 : H t = some (.tup xs)) (ia : IsS C H (.ref a) (.atom k ds)) (e : stripD (.atom k ds) = .atom k ds) :
    StrM C T H (upd H a (.ins C dx (atF k t (rank (.atom k ds)) (.ref a)))) ∧ IsS C (upd H a (.ins C dx (atF k t (rank (.atom k ds)) (.ref a)))) (.ref a) (.atom k ds) := by
  have n : Note C H (upd H a (.ins C dx (atF k t (rank (.atom k ds)) (.ref a)))) a (sz (.atom k ds)) := ⟨fun b o e n => by rw [upd_ne n]; exact e, fun d g => by rw [ia.uniq g], fun o g => by rw [h] at g; cases g; exact ⟨_, _, rfl⟩⟩
  have ta : t ≠ a := fun z => by rw [z, h] at h2; cases h2
  have ht : ∀ xs dy t' sv', H a = some (.ins C dy (atF k t' (rank (.atom k ds)) sv')) → H t' = some (.tup xs) → t' = t ∧ (upd H a (.ins C dx (atF k t (rank (.atom k ds)) (.ref a)))) t = some (.tup xs) := fun xs' dy t' sv' g g2 => by
    rw [h] at g
    have g := Option.some.inj g
    unfold atF at g
    injection g with g1 g2' g3
    injection g3 with g4 g5
    injection g5 with g6 g7
    have et := V.ref.inj (congrArg Prod.snd g6)
    subst et
    exact ⟨rfl, by rw [upd_ne ta]; exact g2⟩
  have all : ∀ x d, IsS C H x d → IsS C (upd H a (.ins C dx (atF k t (rank (.atom k ds)) (.ref a)))) x d := fun x d g => IsS.noted n ia upd_same ht (fun xs g2 i' => .atS upd_same g2 i' e) g
  refine ⟨⟨fun x d _ g => all x d g, fun b o g z _ => ?_, fun b g => ?_, tabs_upd h⟩, all _ _ ia⟩
  · by_cases c : b = a
    · subst c; rw [h] at g; cases g; exact absurd rfl (z _ _)
    · rw [upd_ne c]; exact g
  · by_cases c : b = a
    · subst c; rw [upd_same] at g; cases g
    · rw [upd_ne c] at g; exact g
/-- an atom notes a new one -/
theorem StrM.note {T : List (Addr × Str)} {a dx t b db u : Addr} {k : Str} {xs ys : List V} {ds es : List D} {sv : V} (h : H a = some (.ins C dx (atF k t (rank (.atom k ds)) sv))) (h2 : H t = some (.tup xs)) (ia : IsS C H (.ref a) (.atom k ds)) (e : stripD (.atom k ds) = .atom k es) (hb : H b = some (.ins C db (atF k u (rank (.atom k es)) .non))) (hu : H u = some (.tup ys)) (iy : ISA C H ys es) (ne : b ≠ a) (z : szL es ≤ szL ds) :
    StrM C T H (upd H a (.ins C dx (atF k t (rank (.atom k ds)) (.ref b)))) ∧ IsS C (upd H a (.ins C dx (atF k t (rank (.atom k ds)) (.ref b)))) (.ref b) (.atom k es) ∧ IsS C (upd H a (.ins C dx (atF k t (rank (.atom k ds)) (.ref b)))) (.ref a) (.atom k ds) := by
  have n : Note C H (upd H a (.ins C dx (atF k t (rank (.atom k ds)) (.ref b)))) a (sz (.atom k ds)) := ⟨fun b o e n => by rw [upd_ne n]; exact e, fun d g => by rw [ia.uniq g], fun o g => by rw [h] at g; cases g; exact ⟨_, _, rfl⟩⟩
  have ta : t ≠ a := fun z => by rw [z, h] at h2; cases h2
  have ua : u ≠ a := fun z => by rw [z, h] at hu; cases hu
  have ht : ∀ xs dy t' sv', H a = some (.ins C dy (atF k t' (rank (.atom k ds)) sv')) → H t' = some (.tup xs) → t' = t ∧ (upd H a (.ins C dx (atF k t (rank (.atom k ds)) (.ref b)))) t = some (.tup xs) := fun xs' dy t' sv' g g2 => by
    rw [h] at g
    have g := Option.some.inj g
    unfold atF at g
    injection g with g1 g2' g3
    injection g3 with g4 g5
    injection g5 with g6 g7
    have et := V.ref.inj (congrArg Prod.snd g6)
    subst et
    exact ⟨rfl, by rw [upd_ne ta]; exact g2⟩
  have ib : IsS C (upd H a (.ins C dx (atF k t (rank (.atom k ds)) (.ref b)))) (.ref b) (.atom k es) := .atN (by rw [upd_ne ne]; exact hb) (by rw [upd_ne ua]; exact hu) (ISA.low n iy (by simp only [sz]; omega))
  have all : ∀ x d, IsS C H x d → IsS C (upd H a (.ins C dx (atF k t (rank (.atom k ds)) (.ref b)))) x d := fun x d g => IsS.noted n ia upd_same ht (fun xs g2 i' => .atO upd_same g2 i' (by rw [e]; simp only [sz]; omega) (by rw [e]; exact ib)) g
  refine ⟨⟨fun x d _ g => all x d g, fun b' o g z _ => ?_, fun b' g => ?_, tabs_upd h⟩, ib, all _ _ ia⟩
  · by_cases c : b' = a
    · subst c; rw [h] at g; cases g; exact absurd rfl (z _ _)
    · rw [upd_ne c]; exact g
  · by_cases c : b' = a
    · subst c; rw [upd_same] at g; cases g
    · rw [upd_ne c] at g; exact g
end
end Hc

/-! a lambda of one parameter, given to a def -/
namespace Lm
open PySem PySem.Spec PyProof.Rows L2 LamX NdefX
/-- its words, what it captured, its code object -/
structure LF where
  q : Str
  ps : Arguments
  bd : Expr
  sc : Scope
  cl : List (Str × Addr)
  c : Addr
abbrev LF.ob (F : LF) (pm ctv : Value) : Obj := PySem.W.kla_obj "<lambda>" F.q F.ps F.bd F.sc F.cl pm F.c ctv
/-- at f lies this lambda -/
def LamO (f : Addr) (F : LF) : HO := .ext fun h => ∃ pm ctv, h.get? f = some (F.ob pm ctv)
theorem lamO_at {P : Program} {w : World} {H : Hp} {h : Heap} {f : Addr} {F : LF} (ok : HOk P w H h) (e : H f = some (LamO f F)) : ∃ pm ctv, h.get? f = some (F.ob pm ctv) := (ok f _ e).1
section
variable {X : Cx} {pins : List (Addr × Obj)} {σ : L2.St} {H : Hp} {s : Shared}
theorem inv_lam {F : LF} {u : Nat} {pm ctv : Value} (I : Inv X pins σ H s) : Inv X pins σ (upd H s.heap.objs.size (LamO s.heap.objs.size F)) { s with heap := s.heap.push (F.ob pm ctv), toks := u } := by
  have at_ : (s.heap.push (F.ob pm ctv)).get? s.heap.objs.size = some (F.ob pm ctv) := Heap.get?_push_size _ rfl
  exact I.laid (fun b o e => Heap.get?_push_of_some _ e) (Nat.le_refl _) ⟨⟨pm, ctv, at_⟩, ⟨_, at_⟩, fun h1 h2 ⟨p, t, z⟩ st => ⟨p, t, st _ z⟩⟩
/-- the tables behind a new code object -/
theorem tabs_snoc {T : List (Addr × Str)} {P c' : Addr} {q : Str} {ps : Array Value} {l k : Value} {H1 : Hp} {pos : Pos} (hT : Tabs T H) (hP : H P = some (.tbl ps)) (ht : TriplesOk ps.toList) (hu : ∀ p ∈ T, p.1 = P → p.2 = q) (nC : H c' = none)
    (old : ∀ b o, H b = some o → b ≠ P → H1 b = some o) (tab : H1 P = some (.tbl (ps ++ #[rawInt pos.line, rawInt pos.col, .ref c']))) (new : H1 c' = some (CodeO c' q)) : Tabs T H1 := fun p hp => by
  have stay : ∀ {z : Addr} {n : Str}, H z = some (CodeO z n) → H1 z = some (CodeO z n) := fun {z n} g => old _ _ g (fun w => by
    rw [w, hP] at g
    exact codeO_ne ps (Option.some.inj g).symm)
  obtain ⟨as, g1, g2, g3⟩ := hT p hp
  rcases Decidable.em (p.1 = P) with e | e
  · rw [e, hP] at g1
    cases g1
    rw [hu p hp e] at g3 ⊢
    rw [e]
    have el : (ps ++ #[rawInt pos.line, rawInt pos.col, .ref c']).toList = ps.toList ++ [rawInt pos.line, rawInt pos.col, .ref c'] := by simp
    refine ⟨_, tab, el ▸ PySem.TriplesOk_snoc _ _ _ _ ht, fun p' cv hcv => ?_⟩
    rw [el] at hcv
    rcases among_app _ ht hcv with z | z
    · obtain ⟨a, a1, a2⟩ := g3 p' cv z
      exact ⟨a, a1, stay a2⟩
    · exact ⟨c', z, new⟩
  · exact ⟨as, old _ _ g1 e, g2, fun p' cv hcv => by
      obtain ⟨a, a1, a2⟩ := g3 p' cv hcv
      exact ⟨a, a1, stay a2⟩⟩
/-- a lambda is made -/
theorem lam_mk {T : List (Addr × Str)} {c P : Addr} {ps : Arguments} {bd : Expr} {sc : Scope} {pos : Pos} {E Q : Value → Shared → Prop} (I : Inv X pins σ H s) (TB : TabB X.base X.mg c P) (hcode : X.env.code = .ref c)
    (hm : (P, X.env.qual ++ "<lambda>") ∈ T) (hu : ∀ p ∈ T, p.1 = P → p.2 = X.env.qual ++ "<lambda>") (hT : Tabs T H) (hdef : defaultsOf ps X.env = ([], [])) (hno : ∀ y ∈ sc.names, y.2 ≠ .free)
    (go : ∀ (f c' : Addr) (H1 : Hp) (s' : Shared), Inv X pins σ H1 s' → ExtN H H1 → (∀ b, H1 b = none → H b = none) → Tabs T H1 → H f = none → H1 f = some (LamO f ⟨X.env.qual ++ "<lambda>", ps, bd, sc, cloFrom X.env.cells sc.names [], c'⟩) → H1 c' = some (CodeO c' (X.env.qual ++ "<lambda>")) → Q (.ref f) s') :
    wpAny (model X.prog X.w) X.A (eval (.Lambda ps bd sc pos) X.env) Q E s := by
  have fr : ∀ y ∈ sc.names, y.2 = .free → ∃ c, X.env.cells.lookup y.1 = some c := fun y hy z => absurd z (hno y hy)
  have bP := TB.bm.keeps I.bk
  obtain ⟨tb, hP, ht, ha⟩ := hT _ hm
  have hP' := I.hok P _ hP
  refine PySem.W.kla_eval hdef ?_
  cases hc : codeAmong pos tb.toList with
  | some cv =>
    obtain ⟨c', rfl, hco⟩ := ha pos cv hc
    refine PySem.W.kla_makeFunctionHit (closure_ok fr) I.ok.glob (I.mod.glob.keeps I.bk) hcode (TB.code.keeps I.bk) hP' ht hc bP fun ctv h' tk hx _ => ?_
    have J : Inv X pins σ H { s with heap := h', toks := tk } := I.kept hx
    have nF := J.hok.fresh (Nat.le_refl _)
    have up : ∀ {b o}, H b = some o → upd H h'.objs.size (LamO h'.objs.size ⟨X.env.qual ++ "<lambda>", ps, bd, sc, cloFrom X.env.cells sc.names [], c'⟩) b = some o := fun {b o} e => (upd_ne (ne_of_none e nF)).trans e
    exact go h'.objs.size c' _ _ (inv_lam J) (fun b o e _ => up e) (fun b e => NdefX.upd_none e) (hT.ext fun b o e => up e) nF upd_same (up hco)
  | none =>
    refine PySem.W.kla_makeFunction (closure_ok fr) I.ok.glob (I.mod.glob.keeps I.bk) hcode (TB.code.keeps I.bk) hP' ht hc TB.gP bP fun c' ctv h' tk hx hge hlt hrec htb => ?_
    obtain ⟨_, oc, vs, t, e2, hoc, hd, hv⟩ := hrec
    cases e2
    have nC := I.hok.fresh hge
    have J := inv_table (t' := tk) (more := #[rawInt pos.line, rawInt pos.col, .ref c']) I hP (fun b o hb e => hx b o hb e) htb hge ⟨oc, vs, t, hoc, hd, hv⟩
    have nF := J.hok.fresh (Nat.le_refl _)
    generalize hH1 : upd (upd H P (.tbl (tb ++ #[rawInt pos.line, rawInt pos.col, .ref c']))) c' (CodeO c' (X.env.qual ++ "<lambda>")) = H1 at *
    have nPc : P ≠ c' := ne_of_none hP nC
    have old : ∀ b o, H b = some o → b ≠ P → H1 b = some o := fun b o e n => by rw [← hH1, upd_ne (ne_of_none e nC), upd_ne n]; exact e
    have t1 : Tabs T H1 := tabs_snoc (l := .none) (k := .none) hT hP ht hu nC old (by rw [← hH1, upd_ne nPc, upd_same]) (by rw [← hH1, upd_same])
    have up : ∀ {b o}, H1 b = some o → upd H1 h'.objs.size (LamO h'.objs.size ⟨X.env.qual ++ "<lambda>", ps, bd, sc, cloFrom X.env.cells sc.names [], c'⟩) b = some o := fun {b o} e => (upd_ne (ne_of_none e nF)).trans e
    refine go h'.objs.size c' _ _ (inv_lam J) (fun b o e n => up (old b o e (fun z => n tb (Option.some.inj (e.symm.trans (by rw [z]; exact hP)))))) (fun b e => ?_) (t1.ext fun b o e => up e) (I.hok.fresh (Nat.le_trans hge (Nat.le_of_lt hlt))) upd_same (up (by rw [← hH1, upd_same]))
    have e := NdefX.upd_none e
    rw [← hH1] at e
    exact NdefX.upd_none (NdefX.upd_none e)
end
end Lm

namespace Lm
open PySem PySem.Spec PyProof.Rows L2 LamX NdefX
/-- its frame is that of a def of the same names -/
def LF.nf (F : LF) : NF := ⟨"<lambda>", F.q, F.ps, [], F.sc, F.cl, F.c⟩
/-- what it promises -/
structure LOk (P : Program) (w : World) (K : PySem.W.Frag) (mg : Str → Option Value) (base : Heap) (k : Nat) (f : Addr) (F : LF) (sp : Sp) : Prop where
  run : ∀ (A : Around) (o : List Env) (s : Shared) (H : Hp) (us : List Value) (vs : List V) (Q : VK) (E : XK), Room k A → Env0 P w K mg base A o s H → H f = some (LamO f F) → H F.c = some (CodeO F.c F.q) → Vals vs us → sp vs H Q E →
    codeAny (model P w) A (.call (.ref f) ⟨us, []⟩) (CR C8.CX0 o P w H s Q E) s
theorem LOk.mono {P : Program} {w : World} {K : PySem.W.Frag} {mg : Str → Option Value} {base : Heap} {k j : Nat} {f : Addr} {F : LF} {sp : Sp} (h : LOk P w K mg base j f F sp) (l : j ≤ k) : LOk P w K mg base k f F sp := ⟨fun A o s H us vs Q E r => h.run A o s H us vs Q E (r.mono l)⟩
theorem lok_of {P : Program} {w : World} {K : PySem.W.Frag} {mg : Str → Option Value} {base : Heap} {k : Nat} {f : Addr} {F : LF} {N ps : List Str} {sp : Sp} (S : NScope N ps [] F.sc) (hcl : F.cl = [])
    (bnd : ∀ (pm ctv : Value) (us : List Value), us.length = ps.length → bindArgs (PySem.W.kla_fn "<lambda>" F.q F.ps F.bd F.sc F.cl pm (.ref F.c) ctv) ⟨us, []⟩ = pure (ps.zip us)) (len : ∀ vs H Q E, sp vs H Q E → vs.length = ps.length)
    (body : ∀ (A : Around) (o : List Env) (s : Shared) (H : Hp) (vs : List V) (Q : VK) (E : XK), Room k (A.deeper (envF F.nf f s.heap.objs.size)) → sp vs H Q E → ∃ t, PE (ncx C8.CX0 P w K mg base N F.nf f A o s H E) F.bd t ∧ t (startF N vs []) H Q) :
    LOk P w K mg base (k + 1) f F sp := by
  refine ⟨fun A o s H us vs Q E hr e0 hf hc r hs => ?_⟩
  have hl := len _ _ _ _ hs
  obtain ⟨pm, ctv, ho⟩ := lamO_at e0.hok hf
  have nolim : s.heap.NoLimit := e0.mod.nolimit.keeps fun b o e => (e0.bs b o e).1
  refine PySem.W.kla_callFunE hr.depth ho rfl S.co S.gen rfl (codeO_at e0.hok hc) ?_
  rw [bnd pm ctv us (r.length.symm.trans hl)]
  refine wpAny_pure (wpAny_newFunctionEnv S.nocell (fun y hy => S.par _ (List.of_mem_zip (a := y.1) (b := y.2) hy).1) (fun h1 hns hsb => ⟨nolim.fresh _ hsb, ?_⟩) S.kind)
  obtain ⟨t, ht, hq⟩ := body A o s H vs Q E (hr.deeper _) hs
  have C : CellsAt F.nf.cl [] [] s.heap H := ⟨rfl, fun y c e => (by rw [show F.nf.cl = [] from hcl] at e; cases e), fun y z c e => (by rw [show F.nf.cl = [] from hcl] at e; cases e), fun i y e => (by cases e)⟩
  have kept : ∀ b u, s.heap.get? b = some u → h1.get? b = some u := fun b u e => hsb.extBut b u (Nat.ne_of_lt (Heap.lt_size e)) (Heap.get?_push_of_some _ e)
  have J : Inv (ncx C8.CX0 P w K mg base N F.nf f A o s H E) [] (startF N vs []) H { s with heap := h1, toks := s.toks + (ps.zip us).length } := inv_startN S hr.hd e0 hl r C hns kept
  refine PySem.W.kla_codeExpr (wpAny_mono (ht.run [] _ _ H Q J hq) (fun u s' z => ?_) fun _ _ z => z)
  obtain ⟨v, H', J', rv, q⟩ := z
  exact ⟨v, H', J'.os, J'.bare, J'.base, J'.hok, rv, q⟩
end Lm

namespace Lm
open PySem PySem.Spec PyProof.Rows L2 LamX NdefX
/-- lambda ..: .. as a value -/
def tLm (T : List (Addr × Str)) (F : Addr → LF) : TE := fun _ H Q => Tabs T H ∧ ∀ (f c' : Addr) (H1 : Hp), ExtN H H1 → (∀ b, H1 b = none → H b = none) → Tabs T H1 → H f = none → H1 f = some (LamO f (F c')) → H1 c' = some (CodeO c' (F c').q) → Q (.ref f) H1
/-- x(..), x a name that holds a lambda -/
def tCallL (F : Addr → LF) (i : Nat) (sp : Addr → Addr → Sp) (E : XK) (t : TA) : TE := fun σ H Q => ∃ f c', σ[i]? = some (some (.ref f)) ∧ H f = some (LamO f (F c')) ∧ t σ H fun vs H1 => H1 f = some (LamO f (F c')) ∧ H1 (F c').c = some (CodeO (F c').c (F c').q) ∧ sp f c' vs H1 Q E
section
variable {X : Cx}
theorem pe_lm {T : List (Addr × Str)} {c P : Addr} {ps : Arguments} {bd : Expr} {sc : Scope} {pos : Pos} (TB : TabB X.base X.mg c P) (hcode : X.env.code = .ref c) (hm : (P, X.env.qual ++ "<lambda>") ∈ T) (hu : ∀ p ∈ T, p.1 = P → p.2 = X.env.qual ++ "<lambda>") (hdef : defaultsOf ps X.env = ([], [])) (hno : ∀ y ∈ sc.names, y.2 ≠ .free) :
    PE X (.Lambda ps bd sc pos) (tLm T fun c' => ⟨X.env.qual ++ "<lambda>", ps, bd, sc, cloFrom X.env.cells sc.names [], c'⟩) :=
  ⟨fun _ _ _ _ _ I h => lam_mk I TB hcode hm hu h.1 hdef hno fun f c' H1 _ J e1 e2 e3 e4 e5 e6 => ⟨.ref f, H1, J, rfl, h.2 f c' H1 e1 e2 e3 e4 e5 e6⟩⟩
theorem lam_fnAt {pins : List (Addr × Obj)} {σ : L2.St} {H : Hp} {s : Shared} {f : Addr} {F : LF} (I : Inv X pins σ H s) (e : H f = some (LamO f F)) : PySem.W.FnAt f s.heap := by
  obtain ⟨pm, ctv, ho⟩ := lamO_at I.hok e
  exact ⟨_, _, _, _, ho⟩
theorem pe_callL {F : Addr → LF} {sp : Addr → Addr → Sp} {i j k : Nat} {x : Str} {E : XK} {t : TA} {e : Expr} {es : List Expr} {p pos : Pos} (ok : ∀ f c', LOk X.prog X.w X.K X.mg X.base k f (F c') (sp f c')) (hr : Room j X.A) (hk : k ≤ j) (hx : Passes C8.CX0 X E) (hN : X.N[i]? = some x) (hv : Vis X.env.scope x) (ha : PA X (e :: es) t)
    (d1 : (x == ("__debug__" : Str)) = false := by decide) (d2 : (x == ("__classdict__" : Str)) = false := by decide) (st : starEach (e :: es) X.env = (false, eval e X.env) :: starEach es X.env := by rfl) (pl : (backTo pos (starEach es X.env)).any (·.1) = false := by rfl) :
    PE X (.Call (.Name x p) (e :: es) [] pos) (tCallL F i sp E t) := by
  refine ⟨fun pins s σ H Q I ⟨f, c', hs, hf, ht⟩ => ?_⟩
  have vr := (pe_var (X := X) (pos := p) hN hv d1 d2).run pins s σ H (fun v H1 => v = .ref f ∧ H1 = H) I ⟨.ref f, hs, rfl, rfl⟩
  refine wpAny_Call_Name_kw (thn vr fun u s1 ⟨v, H1, I1, r1, e1, e2⟩ => ?_)
  cases e1
  cases e2
  cases (show u = Value.ref f from r1)
  refine PySem.W.callWith_F (first := []) (lam_fnAt I1 hf) (thn (ha.run pos pins s1 σ H _ I1 ht) fun us s2 ⟨vs, H2, I2, r, h1, h2, q⟩ => ⟨lam_fnAt I2 h1, ?_⟩) st pl
  have go := (ok f c').run X.A X.stack s2 H2 us vs Q E (hr.mono hk) I2.env0 h1 h2 r q
  refine wpAny_call (codeAny_mono go fun res s3 z => ?_)
  cases res with
  | error err => exact hx pins σ H2 s2 err s3 I2 z
  | ok fl => cases fl <;> first | exact I2.after z | exact z.elim
end
end Lm

/-! strip, with notes: data, frames -/
namespace Hc
open PySem PySem.Spec PyProof.Rows L2 Hr LamX
local instance iwS3 : Memo := memoW
section
variable {C : Addr} {H H' : Hp}
theorem ISA.len : ∀ {xs : List V} {ds : List D}, ISA C H xs ds → xs.length = ds.length
  | _, _, .nil => rfl
  | _, _, .cons _ t => congrArg (· + 1) t.len
theorem ISA.at : ∀ {xs : List V} {ds : List D} {i : Nat} {x : V}, ISA C H xs ds → xs[i]? = some x → ∃ d, ds[i]? = some d ∧ IsS C H x d
  | _, _, _, _, .nil, h => by simp at h
  | _, _, 0, _, .cons h _, e => by simp at e; subst e; exact ⟨_, rfl, h⟩
  | _, _, i + 1, _, .cons _ t, e => by
    obtain ⟨d, h1, h2⟩ := ISA.at (i := i) t (by simpa using e)
    exact ⟨d, by simpa using h1, h2⟩
theorem ISA.app : ∀ {xs ys : List V} {ds es : List D}, ISA C H xs ds → ISA C H ys es → ISA C H (xs ++ ys) (ds ++ es)
  | _, _, _, _, .nil, t => t
  | _, _, _, _, .cons h u, t => .cons h (u.app t)
theorem ISA.rev : ∀ {xs : List V} {ds : List D}, ISA C H xs ds → ISA C H xs.reverse ds.reverse
  | _, _, .nil => .nil
  | _, _, .cons h t => by
    rw [List.reverse_cons, List.reverse_cons]
    exact t.rev.app (.cons h .nil)
theorem ISA.concat : ∀ {xs : List V} {ds : List D} {e : D}, ISA C H xs (ds.concat e) → ∃ ys y, xs = ys ++ [y] ∧ ISA C H ys ds ∧ IsS C H y e
  | _, [], _, .cons h .nil => ⟨[], _, rfl, .nil, h⟩
  | _, d :: ds, e, .cons h t => by
    obtain ⟨ys, y, e1, h1, h2⟩ := ISA.concat (ds := ds) (e := e) t
    exact ⟨_ :: ys, y, by rw [e1]; rfl, .cons h h1, h2⟩
/-- words stay words, tuples stay -/
structure Kp (C : Addr) (H H' : Hp) : Prop where
  is : ∀ x d, wrd d = true → IsS C H x d → IsS C H' x d
  tup : ∀ b xs, H b = some (.tup xs) → H' b = some (.tup xs)
mutual
theorem IsS.keep (k : Keep C H H') : ∀ {x : V} {d : D}, wrd d = true → IsS C H x d → IsS C H' x d
  | _, _, _, .non => .non
  | _, _, _, .bl b => .bl b
  | _, _, _, .int i => .int i
  | _, _, _, .str s => .str s
  | _, _, w, .tup h t => .tup (k.tup _ _ h) (ISA.keep k (by simpa [wrd] using w) t)
  | _, _, w, .lst h t => by simp [wrd] at w
  | _, _, w, .dct h => by simp [wrd] at w
  | _, _, w, .atN h h2 t => .atN (k.ins _ _ _ h) (k.tup _ _ h2) (ISA.keep k (by simp only [wrd, Bool.and_eq_true] at w; exact w.1) t)
  | _, _, w, .atS h h2 t e => .atS (k.ins _ _ _ h) (k.tup _ _ h2) (ISA.keep k (by simp only [wrd, Bool.and_eq_true] at w; exact w.1) t) e
  | _, _, w, .atO h h2 t z g => .atO (k.ins _ _ _ h) (k.tup _ _ h2) (ISA.keep k (by simp only [wrd, Bool.and_eq_true] at w; exact w.1) t) z (IsS.keep k (wrd_strip _ w).1 g)
theorem ISA.keep (k : Keep C H H') : ∀ {xs : List V} {ds : List D}, wrdL ds = true → ISA C H xs ds → ISA C H' xs ds
  | _, _, _, .nil => .nil
  | _, _, w, .cons h t => .cons (IsS.keep k (by simp only [wrdL, Bool.and_eq_true] at w; exact w.1) h) (ISA.keep k (by simp only [wrdL, Bool.and_eq_true] at w; exact w.2) t)
end
theorem Kp.of (k : Keep C H H') : Kp C H H' := ⟨fun _ _ w h => IsS.keep k w h, k.tup⟩
theorem Kp.ofM {T : List (Addr × Str)} (u : StrM C T H H') : Kp C H H' := ⟨u.is, fun b xs e => u.st b _ e (fun _ _ z => nomatch z) fun _ z => nomatch z⟩
theorem Kp.same (s : Same H H') : Kp C H H' := Kp.of (Keep.of s)
theorem Kp.trans {H1 : Hp} (u : Kp C H H1) (v : Kp C H1 H') : Kp C H H' := ⟨fun x d w h => v.is x d w (u.is x d w h), fun b xs e => v.tup b xs (u.tup b xs e)⟩
theorem Kp.isA (k : Kp C H H') : ∀ {xs : List V} {ds : List D}, wrdL ds = true → ISA C H xs ds → ISA C H' xs ds
  | _, _, _, .nil => .nil
  | _, _, w, .cons h t => by
    simp only [wrdL, Bool.and_eq_true] at w
    exact .cons (k.is _ _ w.1 h) (Kp.isA k w.2 t)
theorem StrM.lst {T : List (Addr × Str)} (u : StrM C T H H') {l : Addr} {xs : List V} (h : H l = some (.lst xs)) : H' l = some (.lst xs) := u.st l _ h (fun _ _ z => nomatch z) fun _ z => nomatch z
theorem StrM.tup {T : List (Addr × Str)} (u : StrM C T H H') {l : Addr} {xs : List V} (h : H l = some (.tup xs)) : H' l = some (.tup xs) := u.st l _ h (fun _ _ z => nomatch z) fun _ z => nomatch z
theorem StrM.lamO {T : List (Addr × Str)} (u : StrM C T H H') {f : Addr} {F : Lm.LF} (h : H f = some (Lm.LamO f F)) : H' f = some (Lm.LamO f F) := u.st f _ h (fun _ _ z => by unfold Lm.LamO at z; nomatch z) fun _ z => by unfold Lm.LamO at z; nomatch z
theorem StrM.code {T : List (Addr × Str)} (u : StrM C T H H') {f : Addr} {q : Str} (h : H f = some (CodeO f q)) : H' f = some (CodeO f q) := u.st f _ h (fun _ _ z => by unfold CodeO at z; nomatch z) fun _ z => by unfold CodeO at z; nomatch z
theorem tabs_lst {T : List (Addr × Str)} {l : Addr} {xs ys : List V} (h : H l = some (.lst xs)) (t : Tabs T H) : Tabs T (upd H l (.lst ys)) := fun p hp => by
  obtain ⟨ps, h1, h2, h3⟩ := t p hp
  refine ⟨ps, by rw [upd_ne (fun z => by rw [z, h] at h1; cases h1)]; exact h1, h2, fun pos cv hc => ?_⟩
  obtain ⟨c, e1, e2⟩ := h3 pos cv hc
  exact ⟨c, e1, by rw [upd_ne (fun z => by rw [z, h] at e2; unfold CodeO at e2; cases e2)]; exact e2⟩
/-- a list that is new since H is changed -/
theorem StrM.put {T : List (Addr × Str)} (u : StrM C T H H') {l : Addr} {xs ys : List V} (h0 : H l = none) (h : H' l = some (.lst xs)) : StrM C T H (upd H' l (.lst ys)) :=
  ⟨fun x d w g => IsS.keep (Keep.lst h) w (u.is x d w g), fun b o e n n' => by rw [upd_ne (ne_of_none e h0)]; exact u.st b o e n n', fun b e => by
    by_cases c : b = l
    · rw [c]; exact h0
    · rw [upd_ne c] at e; exact u.fr b e, fun t => tabs_lst h (u.ta t)⟩
theorem StrM.free {T : List (Addr × Str)} (u : StrM C T H H') {b : Addr} (h : H' b = none) : H b = none := u.fr b h
end
theorem placesL_strip : ∀ (ds : List D), (∀ e ∈ placesL ds, stripD e = e) → (∀ d ∈ ds, (∀ e ∈ places d, stripD e = e) → stripD d = d) → stripL ds = ds
  | [], _, _ => rfl
  | d :: ds, h, g => by
    simp only [stripL]
    rw [g d List.mem_cons_self fun e he => h e (by simp only [placesL]; exact List.mem_append_left _ he), placesL_strip ds (fun e he => h e (by simp only [placesL]; exact List.mem_append_right _ he)) fun d hd => g d (List.mem_cons_of_mem _ hd)]
mutual
/-- where no atom changes, nothing changes -/
theorem places_strip : ∀ (d : D), (∀ e ∈ places d, stripD e = e) → stripD d = d
  | .tup ds, h => by simp only [stripD]; rw [placesL_strip' ds (by simpa [places] using h)]
  | .atom k ds, h => h _ (by simp [places])
  | .non, _ => rfl
  | .bl _, _ => rfl
  | .int _, _ => rfl
  | .str _, _ => rfl
  | .lst _, _ => rfl
  | .dct, _ => rfl
theorem placesL_strip' : ∀ (ds : List D), (∀ e ∈ placesL ds, stripD e = e) → stripL ds = ds
  | [], _ => rfl
  | d :: ds, h => by
    simp only [stripL]
    rw [places_strip d fun e he => h e (by simp only [placesL]; exact List.mem_append_left _ he), placesL_strip' ds fun e he => h e (by simp only [placesL]; exact List.mem_append_right _ he)]
end
/-- a part as it is met, nested less than n -/
structure Pt (n : Nat) (d : D) : Prop extends PartOk d where
  f : full d < n
theorem Pt.tup {n : Nat} {ds : List D} (h : Pt n (.tup ds)) {e : D} (he : e ∈ ds) : Pt n e :=
  { h.toPartOk.inn (ds := ds) rfl he with f := by have h1 := h.f; have h2 := fullL_mem he; simp only [full] at h1; omega }
theorem PartOk.term0 {k : Str} {ds : List D} (h : PartOk (.atom k ds)) : PartOk (.tup ds) := by
  have w := h.w
  have r := h.r
  have z := h.z
  simp only [wrd, Bool.and_eq_true] at w
  simp only [rkk, Bool.and_eq_true] at r
  exact ⟨by simpa [wrd] using w.1, by simpa [rkk] using r.2, by simpa [txl] using h.t, by simpa [sz] using z⟩
theorem Pt.term {n : Nat} {k : Str} {ds : List D} (h : Pt (n + 1) (.atom k ds)) : Pt n (.tup ds) :=
  { h.toPartOk.term0 with f := by have h1 := h.f; simp only [full] at h1 ⊢; omega }
mutual
theorem places_pt {n : Nat} : ∀ (d : D), Pt n d → ∀ e ∈ places d, Pt n e
  | .tup ds, h, e, he => placesL_pt ds (fun d hd => h.tup hd) e (by simpa [places] using he)
  | .atom k ds, h, e, he => by simp [places] at he; rw [he]; exact h
  | .non, h, e, he => by simp [places] at he
  | .bl _, h, e, he => by simp [places] at he
  | .int _, h, e, he => by simp [places] at he
  | .str _, h, e, he => by simp [places] at he
  | .lst _, h, e, he => by simp [places] at he
  | .dct, h, e, he => by simp [places] at he
theorem placesL_pt {n : Nat} : ∀ (ds : List D), (∀ d ∈ ds, Pt n d) → ∀ e ∈ placesL ds, Pt n e
  | [], _, e, he => by simp [placesL] at he
  | d :: ds, h, e, he => by
    simp only [placesL] at he
    rcases List.mem_append.mp he with he | he
    · exact places_pt d (h d List.mem_cons_self) e he
    · exact placesL_pt ds (fun d hd => h d (List.mem_cons_of_mem _ hd)) e he
end
/-- the steps that are left end well; rs: the rows, the last one first -/
def GoodS (n : Nat) (d0 : D) : List (D × Bool) → List (List D) → Prop
  | [], rs => rs = [[stripD d0]]
  | (d, false) :: st, rs => Pt n d ∧ ∃ r rs', rs = r :: rs' ∧ GoodS n d0 st ((r ++ [stripD d]) :: rs')
  | (d, true) :: st, rs => Pt n d ∧ ∃ ds r' rs', d = .tup ds ∧ rs = stripL ds :: r' :: rs' ∧ GoodS n d0 st ((r' ++ [stripD d]) :: rs')
theorem goodS_parts {n : Nat} {d0 : D} {ds : List D} {st : List (D × Bool)} {rs' : List (List D)} {r' : List D} (hp : Pt n (.tup ds)) (g : GoodS n d0 st ((r' ++ [stripD (.tup ds)]) :: rs')) :
    ∀ (ps : List D) (acc : List D), (∀ e ∈ ps, Pt n e) → acc ++ stripL ps = stripL ds → GoodS n d0 (ps.map (fun e => (e, false)) ++ (.tup ds, true) :: st) (acc :: r' :: rs')
  | [], acc, _, e => ⟨hp, ds, r', rs', rfl, by simp only [stripL, List.append_nil] at e; rw [e], g⟩
  | p :: ps, acc, h, e => ⟨h p List.mem_cons_self, acc, r' :: rs', rfl, goodS_parts hp g ps (acc ++ [stripD p]) (fun x hx => h x (List.mem_cons_of_mem _ hx)) (by rw [List.append_assoc]; simpa [stripL] using e)⟩
def wt : D × Bool → Nat
  | (d, false) => 2 * sz d
  | (_, true) => 1
def wtL : List (D × Bool) → Nat
  | [] => 0
  | p :: ps => wt p + wtL ps
theorem wtL_app : ∀ a b : List (D × Bool), wtL (a ++ b) = wtL a + wtL b
  | [], b => by simp [wtL]
  | p :: a, b => by rw [List.cons_append]; simp only [wtL]; rw [wtL_app a b]; omega
theorem wtL_map : ∀ ds : List D, wtL (ds.map fun e => (e, false)) = 2 * szL ds
  | [] => rfl
  | d :: ds => by simp only [List.map_cons, wtL, wt, szL]; rw [wtL_map ds]; omega
theorem wtL_len : ∀ ps : List (D × Bool), ps.length ≤ wtL ps
  | [] => Nat.le_refl _
  | (d, false) :: ps => by simp only [wtL, wt, List.length_cons]; have := wtL_len ps; have := sz_pos d; omega
  | (d, true) :: ps => by simp only [wtL, wt, List.length_cons]; have := wtL_len ps; omega
def tot : List (List D) → Nat
  | [] => 0
  | r :: rs => r.length + 1 + tot rs
/-- the stack of parts -/
inductive StB (C : Addr) (H : Hp) : List V → List (D × Bool) → Prop
  | nil : StB C H [] []
  | cons {q : Addr} {x : V} {d : D} {b : Bool} {xs : List V} {ps : List (D × Bool)} (h : H q = some (.tup [x, .bl b])) (hx : IsS C H x d) (w : wrd d = true) (t : StB C H xs ps) : StB C H (.ref q :: xs) ((d, b) :: ps)
theorem StB.keep {C : Addr} {H H' : Hp} (k : Kp C H H') : ∀ {xs : List V} {ps : List (D × Bool)}, StB C H xs ps → StB C H' xs ps
  | _, _, .nil => .nil
  | _, _, .cons h hx w t => .cons (k.tup _ _ h) (k.is _ _ w hx) w (t.keep k)
theorem StB.len {C : Addr} {H : Hp} : ∀ {xs : List V} {ps : List (D × Bool)}, StB C H xs ps → xs.length = ps.length
  | _, _, .nil => rfl
  | _, _, .cons _ _ _ t => congrArg (· + 1) t.len
theorem StB.app {C : Addr} {H : Hp} : ∀ {xs ys : List V} {ps qs : List (D × Bool)}, StB C H xs ps → StB C H ys qs → StB C H (xs ++ ys) (ps ++ qs)
  | _, _, _, _, .nil, t => t
  | _, _, _, _, .cons h hx w u, t => .cons h hx w (u.app t)
theorem StB.last {C : Addr} {H : Hp} : ∀ {xs : List V} {ps : List (D × Bool)} {p : D × Bool}, StB C H xs (ps ++ [p]) → ∃ (q : Addr) (x : V) (ys : List V), xs = ys ++ [.ref q] ∧ H q = some (.tup [x, .bl p.2]) ∧ IsS C H x p.1 ∧ wrd p.1 = true ∧ StB C H ys ps
  | _, [], _, .cons h hx w .nil => ⟨_, _, [], rfl, h, hx, w, .nil⟩
  | _, _ :: ps, p, .cons h hx w t => by
    obtain ⟨q, x, ys, e, h1, h2, h3, h4⟩ := StB.last (ps := ps) (p := p) t
    exact ⟨q, x, _ :: ys, by rw [e]; rfl, h1, h2, h3, .cons h hx w h4⟩
/-- the rows: lists of their own -/
inductive Rws (C : Addr) (H : Hp) : List Addr → List (List D) → Prop
  | nil : Rws C H [] []
  | cons {a : Addr} {ys : List V} {r : List D} {as : List Addr} {rs : List (List D)} (h : H a = some (.lst ys)) (hx : ISA C H ys r) (w : wrdL r = true) (t : Rws C H as rs) : Rws C H (a :: as) (r :: rs)
theorem Rws.keep {C : Addr} {H H' : Hp} (k : Kp C H H') : ∀ {as : List Addr} {rs : List (List D)}, (∀ a ∈ as, ∀ ys, H a = some (.lst ys) → H' a = some (.lst ys)) → Rws C H as rs → Rws C H' as rs
  | _, _, _, .nil => .nil
  | _, _, e, .cons h hx w t => .cons (e _ List.mem_cons_self _ h) (k.isA w hx) w (t.keep k fun a ha => e a (List.mem_cons_of_mem _ ha))
theorem Rws.len {C : Addr} {H : Hp} : ∀ {as : List Addr} {rs : List (List D)}, Rws C H as rs → as.length = rs.length
  | _, _, .nil => rfl
  | _, _, .cons _ _ _ t => congrArg (· + 1) t.len
theorem Rws.some {C : Addr} {H : Hp} : ∀ {as : List Addr} {rs : List (List D)}, Rws C H as rs → ∀ a ∈ as, ∃ ys, H a = .some (.lst ys)
  | _, _, .cons h _ _ t, a, ha => by
    rcases List.mem_cons.mp ha with rfl | ha
    · exact ⟨_, h⟩
    · exact t.some a ha
/-! ### promises -/
/-- an atom is stripped -/
def spLam (C : Addr) (T : List (Addr × Str)) (n : Nat) : Sp := fun vs H Q _ => ∃ a k ds, vs = [.ref a] ∧ IsS C H (.ref a) (.atom k ds) ∧ Pt n (.atom k ds) ∧ Tabs T H ∧ ∀ H' b, StrM C T H H' → IsS C H' (.ref b) (stripD (.atom k ds)) → (b = a → stripD (.atom k ds) = .atom k ds) → Q (.ref b) H'
/-- what an atom stripped anew is -/
def AnewS (C : Addr) (H : Hp) (a b : Addr) (k : Str) (ds : List D) : Prop :=
  (b = a ∧ stripD (.atom k ds) = .atom k ds) ∨ ∃ db u es ys, stripD (.atom k ds) = .atom k es ∧ H b = some (.ins C db (atF k u (rank (.atom k es)) .non)) ∧ H u = some (.tup ys) ∧ ISA C H ys es ∧ b ≠ a ∧ szL es ≤ szL ds
def spSA (C : Addr) (T : List (Addr × Str)) (n : Nat) : Sp := fun vs H Q _ => ∃ a k ds, vs = [.ref a] ∧ IsS C H (.ref a) (.atom k ds) ∧ Pt n (.atom k ds) ∧ Tabs T H ∧ ∀ H' b, StrM C T H H' → AnewS C H' a b k ds → Q (.ref b) H'
def spPlS (C : Addr) : Sp := fun vs H Q _ => ∃ x d, vs = [x] ∧ IsS C H x d ∧ Fit d ∧ ∀ H' p xs, Same H H' → H p = none → H' p = some (.lst xs) → ISA C H' xs (places d) → Q (.ref p) H'
/-- a word is stripped -/
def spStr (C : Addr) (T : List (Addr × Str)) (n : Nat) : Sp := fun vs H Q _ => ∃ x d, vs = [x] ∧ IsS C H x d ∧ Pt n d ∧ Tabs T H ∧ ∀ H' v, StrM C T H H' → IsS C H' v (stripD d) → Q v H'
/-- .. by a function given -/
def spWith (C : Addr) (T : List (Addr × Str)) (F : Addr → Lm.LF) (n : Nat) : Sp := fun vs H Q _ => ∃ x d f c', vs = [x, .ref f] ∧ H f = some (Lm.LamO f (F c')) ∧ H (F c').c = some (CodeO (F c').c (F c').q) ∧ IsS C H x d ∧ Pt n d ∧ Tabs T H ∧ ∀ H' v, StrM C T H H' → IsS C H' v (stripD d) → Q v H'
end Hc

namespace Hc
open PySem PySem.Spec PyProof.Rows L2 Hr LamX
local instance iwS4 : Memo := memoW
section
variable {P : Program} {w : World} {K : PySem.W.Frag} {mg : Str → Option Value} {base : Heap} {f : Addr} {fd : FuncData} {C : Addr} {Tb : List (Addr × Str)}
theorem okS__places_of_atoms (F : C8.Def K mg "_places_of_atoms" s__places_of_atoms f fd) (b : Binds K fd ["value"] []) (T : Txt K mg w C) : C8.Cal P w K mg base 1 "_places_of_atoms" (spPlS C) [] := by
  refine C8.cal0 F b .nil sc__places_of_atoms (fun vs H Q E h => ?_) (fun cdv A outer s H vs Q E hr h => ?_)
  · obtain ⟨x, d, rfl, _⟩ := h; rfl
  obtain ⟨x, d, rfl, hx, hz, q⟩ := h
  refine ⟨_, (pss_cons (ps_set (i := 1) sc__places_of_atoms.nd rfl (Or.inl rfl) (pe_lst pa_nil))
      (pss_cons (ps_set (i := 2) sc__places_of_atoms.nd rfl (Or.inl rfl) (pe_lst (pa_cons (pv 0) pa_nil)))
      (pss_cons (ps_while PassesOwn.never (pt_truth (pv 2) (fun _ => rfl))
      (pss_cons (ps_set (i := 3) sc__places_of_atoms.nd rfl (Or.inl rfl) (pe_bm0 PySem.F.plainAttrs_list PySem.F.slot_list_pop PySem.F.type_list_pop mt_pop (pv 2)))
      (pss_one (ps_if (pt_cmpR (op_isTyA (C := C)) (pe_callTy (call_typeA (C := C)) rfl T.z_type bt_type (pa_cons (pv 3) pa_nil)) (pe_bltn (v := .ty "tuple") rfl T.z_tuple bt_tuple rfl) (nomark _)) (pss_one (ps_expr (pe_bm PySem.F.plainAttrs_list PySem.F.slot_list_extend PySem.F.type_list_extend mt_extendT (pv 2) (pa_cons (pe_revT (pv 3)) pa_nil)))) (pss_one (ps_if (pt_cmpR (op_isTyA (C := C)) (pe_callTy (call_typeA (C := C)) rfl T.z_type bt_type (pa_cons (pv 3) pa_nil)) (pe_glob (v := .ref C) rfl T.g_Atom rfl) (nomark _)) (pss_one (ps_expr (pe_bm PySem.F.plainAttrs_list PySem.F.slot_list_append PySem.F.type_list_append mt_append (pv 1) (pa_cons (pv 3) pa_nil)))) pss_nil))))))
      (pss_one (ps_ret (pv 1)))))), ?_⟩
  refine ⟨(by show 0 ≤ sizeLine; decide), fun fo hfo => ⟨x, rfl, (by show 1 ≤ sizeLine; decide), fun l hl => ?_⟩⟩
  have s1 := same_new (o := .lst []) hfo
  have s2 := same_new (o := .lst [x]) hl
  have hl0 : H l = none := s1.free hl
  have nfl : fo ≠ l := fun z => by rw [← z, upd_same] at hl; cases hl
  refine ⟨fun m σ' H' => ∃ v3 fs xs es ds, σ' = [some x, some (.ref fo), some (.ref l), v3] ∧ Same H H' ∧ H' fo = some (.lst fs) ∧ H' l = some (.lst xs) ∧ ISA C H fs es ∧ ISA C H xs ds ∧ es ++ placesL ds.reverse = places d ∧ m = szL ds ∧ szL ds ≤ 1000000,
    ⟨_, none, [], [x], [], [d], rfl, s1.trans s2, s2 _ _ upd_same, upd_same, .nil, .cons hx .nil, by simp [placesL], rfl, by simp [szL]; exact hz.1⟩, ?_⟩
  rintro m σ' H' ⟨v3, fs, xs, es, ds, rfl, sm, hf', hl', hfs, hxs, e0, rfl, hm⟩
  refine ⟨_, rfl, _, .inl ⟨xs, SqL.of hl', rfl⟩, ?_⟩
  rcases List.eq_nil_or_concat ds with rfl | ⟨ds', e, rfl⟩
  · cases hxs
    refine iteF ⟨_, rfl, ?_⟩
    simp only [List.reverse_nil, placesL, List.append_nil] at e0
    rw [e0] at hfs
    exact q H' fo fs sm hfo hf' (hfs.same sm)
  obtain ⟨ys, y, rfl, hys, hy⟩ := hxs.concat
  simp only [List.concat_eq_append] at e0 hm ⊢
  refine bT (by simp) ⟨fun σ2 H2 => ∃ m', m' < szL (ds' ++ [e]) ∧ ∃ v3 fs xs es ds, σ2 = [some x, some (.ref fo), some (.ref l), v3] ∧ Same H H2 ∧ H2 fo = some (.lst fs) ∧ H2 l = some (.lst xs) ∧ ISA C H fs es ∧ ISA C H xs ds ∧ es ++ placesL ds.reverse = places d ∧ m' = szL ds ∧ szL ds ≤ 1000000, fun σ2 H2 h => h, ?_⟩
  refine ⟨_, rfl, .inl ⟨rfl, _, SqL.of hl'⟩, l, _, y, rfl, rfl, hl', by simp, ?_⟩
  rw [List.dropLast_concat]
  have sm2 : Same H (upd H' l (.lst ys)) := same_put sm hl0
  have hl2 : (upd H' l (.lst ys)) l = some (.lst ys) := upd_same
  have hf2 : (upd H' l (.lst ys)) fo = some (.lst fs) := by rw [upd_ne nfl]; exact hf'
  generalize upd H' l (.lst ys) = H2 at sm2 hl2 hf2
  rw [List.reverse_append, List.reverse_singleton, List.singleton_append] at e0
  simp only [placesL] at e0
  have hse := sz_pos e
  have hsz : szL (ds' ++ [e]) = szL ds' + sz e := by rw [szL_app]; simp [szL]
  have hdl := len_szL ds'
  have hyl := hys.len
  refine ⟨_, rfl, y, e, rfl, (hy.same sm2).is, kyV_ok e, .inl ⟨_, rfl⟩, _, rfl, ?_⟩
  by_cases ct : kyV C e = .ty "tuple"
  · refine ifT ct ?_
    obtain ⟨gs, rfl⟩ := kyV_tup.mp ct
    cases hy with
    | @tup ta txs _ hta tis =>
      refine ⟨_, rfl, .inl ⟨rfl, _, SqL.of hl2⟩, _, rfl, ta, _, rfl, SqT.of (sm2 _ _ hta), fun r hr' => ?_⟩
      have s3 := same_new (o := .tup txs.reverse) hr'
      have htl := tis.len
      have hgl := len_szL gs
      refine ⟨l, r, ys, _, rfl, rfl, s3 _ _ hl2, upd_same, Nat.le_trans (show ys.length + txs.reverse.length ≤ 1000000 by simp only [sz] at hsz; rw [List.length_reverse]; omega) (by decide), ?_⟩
      refine ⟨szL (ds' ++ gs.reverse), ?_, _, fs, ys ++ txs.reverse, es, ds' ++ gs.reverse, rfl, same_put (sm2.trans s3) hl0, by rw [upd_ne nfl]; exact s3 _ _ hf2, upd_same, hfs, hys.app tis.rev, ?_, rfl, ?_⟩
      · rw [szL_app, szL_rev, hsz]; simp only [sz]; omega
      · rw [List.reverse_append, List.reverse_reverse, placesL_app]; simp only [places] at e0; exact e0
      · rw [szL_app, szL_rev]; simp only [sz] at hsz; omega
  · refine ifF ct ⟨_, rfl, y, e, rfl, (hy.same sm2).is, kyV_ok e, .inr rfl, _, rfl, ?_⟩
    by_cases ca : kyV C e = .ref C
    · refine ifT ca ?_
      obtain ⟨k, gs, rfl⟩ := kyV_atom.mp ca
      have hel : es.length + 1 ≤ 1000000 := by
        have h1 := congrArg List.length e0
        have h2 := places_len d
        have h3 := hz.1
        simp only [List.length_append, places, List.length_singleton] at h1
        omega
      have hfl := hfs.len
      refine ⟨_, rfl, .inl ⟨rfl, _, SqL.of hf2⟩, _, rfl, fo, fs, y, rfl, rfl, hf2, Nat.lt_of_lt_of_le (show fs.length < 1000001 by omega) (by decide), ?_⟩
      refine ⟨szL ds', by omega, _, fs ++ [y], ys, es ++ [.atom k gs], ds', rfl, same_put sm2 hfo, upd_same, by rw [upd_ne nfl.symm]; exact hl2, hfs.app (.cons hy .nil), hys, ?_, rfl, by omega⟩
      simp only [places] at e0
      rw [List.append_assoc]; exact e0
    · refine ifF ca ⟨szL ds', by omega, _, fs, ys, es, ds', rfl, sm2, hf2, hl2, hfs, hys, ?_, rfl, by omega⟩
      have hp : places e = [] := by cases e <;> first | rfl | exact absurd rfl ct | exact absurd rfl ca
      rw [hp] at e0; exact e0
theorem no_places {k : Str} {ds : List D} (h1 : hid k = false) (h2 : ¬ (k = "token" ∨ k = "ticket")) (h : isTermK k ds = true) : placesL ds = [] := by
  have hc : k = "challenge" := by
    rcases term_kind h with rfl | rfl | rfl | rfl | rfl | rfl
    · exact absurd (.inl rfl) h2
    · rfl
    · revert h1; decide +kernel
    · revert h1; decide +kernel
    · exact absurd (.inr rfl) h2
    · revert h; unfold isTermK; rw [show formsOf "key" = none by decide +kernel]; intro h; cases h
  subst hc
  unfold isTermK at h
  rw [show formsOf "challenge" = some (["text", "number"] : List Str) by decide +kernel] at h
  simp only [Bool.and_eq_true, decide_eq_true_eq] at h
  obtain ⟨hl, ha⟩ := h
  match ds, hl with
  | [x, y], _ =>
    simp only [List.zip_cons_cons, List.zip_nil_right, List.all_cons, List.all_nil, Bool.and_true, Bool.and_eq_true] at ha
    have nh : ∀ (d : D) (s : Str), s = "text" ∨ s = "number" → partOk d s = true → places d = [] := fun d s hs hd => by
      unfold partOk hasF at hd
      cases d <;> first
        | rfl
        | (exfalso; rcases hs with rfl | rfl <;> (revert hd; simp [isS, isI, isT]))
    simp only [placesL]
    rw [nh x _ (.inl rfl) ha.1, nh y _ (.inr rfl) ha.2]; rfl
/-- an atom made -/
theorem made3S {C t : Addr} {H : Hp} {k : Str} {xs : List V} {ds : List D} (ht : H t = some (.tup xs)) (ix : ISA C H xs ds) (ok : isTermK k ds = true) (hrk : rank (.atom k ds) ≤ mostR k) (hz : Fit (.tup ds)) {x dx : Addr} (hx : H x = none) (hdx : H dx = none) (hne : dx ≠ x) {Q2 : VK}
    (q : ∀ H', Same H H' → H' x = some (.ins C dx (atF k t (rank (.atom k ds)))) → Q2 .non H') : spInit C (.ref x :: ([.str k, .ref t] ++ [])) (upd (upd H dx (.own x)) x (.ins C dx [])) Q2 C8.E0 := by
  have s1 : Same H (upd (upd H dx (.own x)) x (.ins C dx [])) := same_put (same_new hdx) hx
  refine ⟨x, dx, k, t, ds, rfl, upd_same, (Is.tup ht ix.is).same s1, ok, hrk, hz, fun H' e1 e2 => ?_⟩
  have s2 : Same H H' := fun b o e => e2 b o (s1 b o e) (ne_of_none e hx)
  exact q H' s2 e1
abbrev s__strip_atom : Stmt := top 30
theorem sc__strip_atom : FnScope ["atom", "each"] ["atom"] (C8.fnScope s__strip_atom) := C8.fnScope_by (by decide +kernel)
theorem ok__strip_atom {n k : Nat} (hk : 6 ≤ k) (F : C8.Def K mg "_strip_atom" s__strip_atom f fd) (b : Binds K fd ["atom"] []) (T : Txt K mg w C) (k_Atom : C8.Mak P w K mg base 5 "Atom" C (spInit C) []) (c__places_of_atoms : C8.Cal P w K mg base 1 "_places_of_atoms" (spPlS C) []) (m_is_same : C8.Met P w K mg base 1 C "is_same" (spSame C) [])
    (m_stripped : C8.Met P w K mg base k C "stripped" (spLam C Tb n) []) (c_strip : C8.Cal P w K mg base k "strip" (spStr C Tb n) []) : C8.Cal P w K mg base (k + 1) "_strip_atom" (spSA C Tb (n + 1)) [] := by
  refine C8.cal0 F b .nil sc__strip_atom (fun vs H Q E h => ?_) (fun cdv A outer s H vs Q E hr h => ?_)
  · obtain ⟨a, k, ds, rfl, _⟩ := h; rfl
  obtain ⟨a, k, ds, rfl, hx, hp, hT, q⟩ := h
  refine ⟨_, (pss_cons (ps_if (pt_cmpR op_in_seq (pe_fld (pv 0) rfl) (pe_tup (pa_cons pe_str (pa_cons pe_str pa_nil))) (by with_unfolding_all rfl)) (pss_one (ps_ret (pe_ifExp (pt_cmpR op_isN (pe_ix ix_tup (pe_fld (pv 0) rfl) pe_int (fun _ _ => rfl)) pe_non (nomark _)) (pv 0) (C8.pe_mk k_Atom hr (by first | decide | omega) rfl (pa_cons (pe_fld (pv 0) rfl) (pa_cons (pe_op op_catA (pe_slice sl_tupA (pe_fld (pv 0) rfl) po_none (po_some pe_int)) (pe_tup (pa_cons pe_non pa_nil))) pa_nil)))))) pss_nil)
      (pss_cons (ps_if (pt_val (pe_callB (cr_all rfl) rfl T.z_all bt_all (pa_cons (pe_lc (own := [("each", 1)]) (g := gName 1) rfl sc__strip_atom.nd (pi_list (C8.pe_c c__places_of_atoms hr (by first | decide | omega) rfl (pa_cons (pe_fld (pv 0) rfl) pa_nil))) (blkOk_by (own := [("each", 1)]) (N := ["atom", "each"]) (sc := C8.fnScope s__strip_atom) (by decide +kernel)) (fun _ _ _ _ _ => (pg_name (i := 1) sc__strip_atom.nd rfl (Or.inl rfl))) (fun _ _ _ _ _ => pts_nil) (fun _ _ _ _ _ => (C8.pe_mt m_is_same hr (by first | decide | omega) (pv 1) (pa_cons (C8.pe_mt0 m_stripped hr (by first | decide | omega) (pv 1)) pa_nil)))) pa_nil))) (pss_one (ps_ret (pv 0))) pss_nil)
      (pss_one (ps_ret (C8.pe_mk k_Atom hr (by first | decide | omega) rfl (pa_cons (pe_fld (pv 0) rfl) (pa_cons (C8.pe_c c_strip hr (by first | decide | omega) rfl (pa_cons (pe_fld (pv 0) rfl) pa_nil)) pa_nil))))))), ?_⟩
  obtain ⟨dx, t, xs, sv, u1, v1, i1, _⟩ := hx.parts
  have w1 : wrdL ds = true ∧ isTermK k ds = true := by simpa [wrd] using hp.w
  refine ⟨_, rfl, a, C, dx, _, _, rfl, u1, T.cl.cl, T.cl.nK, rfl, (by show 2 ≤ sizeLine; decide), fun m hm => ?_⟩
  have s1 := same_new (o := .tup [.str "seal", .str "page"]) hm
  refine ⟨m, _, rfl, .inr (SqT.of upd_same), rfl, rfl, _, rfl, ?_⟩
  show (if (inV (.str k) [.str "seal", .str "page"]) = true then _ else _)
  rw [inVab]
  by_cases c : k = "seal" ∨ k = "page"
  · have hk' : hid k = true := by unfold hid; exact decide_eq_true c
    refine bT (by simpa using c) ?_
    obtain ⟨a1, b1, c1, e1, rfl, hterm⟩ := hid_term hk' w1.2
    have est : stripD (.atom k [a1, b1, c1, e1]) = .atom k [a1, b1, c1, .non] := by simp [stripD, hid_tt hk', wo, hk']
    cases i1 with
    | @cons xa _ _ _ ia i1 => cases i1 with
    | @cons xb _ _ _ ib i1 => cases i1 with
    | @cons xc _ _ _ ic i1 => cases i1 with
    | @cons xe _ _ _ ie i1 =>
    cases i1
    refine ⟨_, rfl, a, C, dx, _, _, rfl, s1 _ _ u1, T.cl.cl, T.cl.nT, rfl, t, [xa, xb, xc, xe], 3, xe, rfl, rfl, SqT.of (s1 _ _ v1), atI_nat (j := 3) rfl, rfl, _, rfl, ?_⟩
    by_cases ce : xe = V.non
    · refine ifT ce ⟨_, rfl, q _ a (StrM.same s1) (.inl ⟨rfl, ?_⟩)⟩
      subst ce
      cases ie
      exact est
    · refine ifF ce ?_
      refine ⟨_, rfl, a, C, dx, _, _, rfl, s1 _ _ u1, T.cl.cl, T.cl.nK, rfl, ?_⟩
      refine ⟨_, rfl, a, C, dx, _, _, rfl, s1 _ _ u1, T.cl.cl, T.cl.nT, rfl, ?_⟩
      refine ⟨3, rfl, t, [xa, xb, xc, xe], rfl, SqT.of (s1 _ _ v1), fun z => absurd z.2 (show ¬ (3 = 4) by decide), fun _ p hp' => ⟨(by show 1 ≤ sizeLine; decide), fun n hn => ?_⟩⟩
      have s2 := same_new (o := .tup [xa, xb, xc]) hp'
      have s3 := same_new (o := .tup [.non]) hn
      refine ⟨p, n, [xa, xb, xc], [.non], rfl, rfl, SqT.of (s3 _ _ upd_same), SqT.of upd_same, Nat.le_trans (show 4 ≤ 1000000 by decide) (by decide), fun z => absurd z (List.cons_ne_nil _ _), fun _ z => absurd z (List.cons_ne_nil _ _), fun _ _ r hr' => ?_⟩
      have s4 := same_new (o := .tup [xa, xb, xc, .non]) hr'
      have s14 := ((s1.trans s2).trans s3).trans s4
      intro y dy hy hdy hney
      have hrk : rank (.atom k [a1, b1, c1, .non]) ≤ mostR k := by
        have : rank (.atom k [a1, b1, c1, .non]) = 1 := by simp only [rank]; rw [if_pos c]
        rw [this]
        unfold mostR
        split <;> omega
      have hz := hp.z
      have ht := hp.t
      have he := sz_pos e1
      have hfit : Fit (.tup [a1, b1, c1, .non]) := by
        simp only [sz, szL] at hz
        refine ⟨by simp only [sz, szL]; omega, ?_⟩
        simp only [txl, txlL] at ht ⊢
        exact ⟨ht.1, ht.2.1, ht.2.2.1, trivial, trivial⟩
      have iy : ISA C _ [xa, xb, xc, .non] [a1, b1, c1, .non] := .cons (ia.same s14) (.cons (ib.same s14) (.cons (ic.same s14) (.cons .non .nil)))
      refine made3S (ds := [a1, b1, c1, .non]) upd_same iy hterm hrk hfit hy hdy hney fun H6 s6 ix6 => ⟨rfl, q H6 _ (StrM.same (s14.trans s6)) (.inr ⟨dy, r, _, [xa, xb, xc, .non], est, ix6, s6 _ _ upd_same, iy.same s6, (ne_of_none (s14 _ _ u1) hy).symm, by simp only [szL, sz]; omega⟩)⟩
  · have hk' : hid k = false := by unfold hid; exact decide_eq_false c
    refine bF (by simpa using c) ?_
    unfold tNext; dsimp only
    refine ⟨_, rfl, a, C, dx, _, _, rfl, s1 _ _ u1, T.cl.cl, T.cl.nT, rfl, .ref t, .tup ds, rfl, .tup (s1 _ _ v1) (i1.same s1), ⟨by have := hp.z; simpa [sz] using this, by have := hp.t; simpa [txl] using this⟩, fun H2 pl ps s2 hpl hps iA => ⟨pl, rfl, ⟨ps, SqL.of hps⟩, fun Dl hDl => ?_⟩⟩
    have zz := hp.z
    have fitT : (placesL ds).length ≤ 1000000 := by have := placesL_len ds; simp only [sz] at zz; omega
    have wP : ∀ e ∈ places (.tup ds), Pt n e := fun e he => places_pt _ hp.term e he
    have hT2 : Tabs Tb H2 := (hT.ext fun b o e => s1 _ _ e).ext fun b o e => s2 _ _ e
    have s12 := s1.trans s2
    refine lc_list (K := K) (a := pl) (xs := ps) (fun i H3 => StrM C Tb H2 H3 ∧ ∃ bs : List Bool, H3 Dl = some (.lst (bs.map V.bl)) ∧ bs.length = i ∧ (bs.all id = true → ∀ e ∈ (places (.tup ds)).take i, stripD e = e)) ⟨StrM.same (same_new hDl), [], upd_same, rfl, fun _ e he => by simp at he⟩ (fun i H3 _ h => SqL.of (h.1.lst hps)) ?_ ?_
    · rintro i z H3 hi ⟨s3, bs, hb3, hbl, hbs⟩
      obtain ⟨e, he, hie⟩ := iA.at hi
      have hem := List.mem_of_getElem? he
      obtain ⟨ke, es, rfl⟩ := places_atom _ e hem
      have pe := wP _ hem
      have hie3 := s3.is _ _ pe.w hie
      obtain ⟨ea, rfl⟩ : ∃ ea, z = .ref ea := by cases hie <;> exact ⟨_, rfl⟩
      obtain ⟨edx, et, exs, esv, eu, ev, _, _⟩ := hie3.parts
      refine ⟨rfl, yes ?_⟩
      refine ⟨_, rfl, ea, edx, _, rfl, eu, rfl, _, rfl, ea, edx, _, rfl, eu, rfl, ea, ke, es, rfl, hie3, pe, s3.ta hT2, fun H4 bb s4 ib hsame => ?_⟩
      obtain ⟨e4dx, e4t, _, _, eu4, _, _, _⟩ := (s4.is _ _ pe.w hie3).parts
      obtain ⟨gs, eg⟩ := strip_atom ke es
      rw [eg] at ib
      obtain ⟨b4dx, b4t, _, _, bu4, _, _, _⟩ := ib.parts
      have hlt := (List.getElem?_eq_some_iff.mp he).1
      have hb4 := s4.lst hb3
      refine ⟨ea, bb, e4dx, _, b4dx, _, rfl, eu4, bu4, bs.map V.bl, hb4, Nat.lt_of_lt_of_le (show (bs.map V.bl).length < 1000001 by rw [List.length_map]; simp only [places] at hlt; omega) (by decide), (s3.trans s4).put hDl hb4, bs ++ [decide (ea = bb)], by rw [upd_same, List.map_append]; rfl, by simp [hbl], fun hall e he2 => ?_⟩
      rw [List.all_append, Bool.and_eq_true] at hall
      rw [List.take_add_one, he] at he2
      rcases List.mem_append.mp he2 with h | h
      · exact hbs hall.1 e h
      · simp only [Option.toList, List.mem_singleton] at h
        subst h
        exact hsame (by have := hall.2; simpa using Eq.symm (show ea = bb by simpa using this))
    · rintro H3 ⟨s3, bs, hb3, hbl, hbs⟩
      rw [iA.len, List.take_of_length_le (Nat.le_refl _)] at hbs
      refine ⟨Dl, bs, rfl, SqL.of hb3, _, rfl, ?_⟩
      have hx3 := s3.is _ _ hp.w (hx.same s12)
      obtain ⟨dx3, t3, xs3, sv3, u3, v3, i3, _⟩ := hx3.parts
      have es : stripD (.atom k ds) = .atom k (stripL ds) := by
        simp only [stripD]
        by_cases c2 : k = "token" ∨ k = "ticket"
        · rw [if_pos c2]
        · rw [if_neg c2]
          have e0 : placesL ds = [] := no_places hk' c2 w1.2
          have e1 : stripL ds = ds := placesL_strip' ds fun e he => by rw [e0] at he; cases he
          rw [e1]; simp [wo, hk']
      cases hall : bs.all id with
      | true =>
        refine iteT ⟨_, rfl, q _ a ((StrM.same s12).trans s3) (.inl ⟨rfl, ?_⟩)⟩
        have e1 : stripL ds = ds := placesL_strip' ds fun e he => hbs hall e (by simpa [places] using he)
        rw [es, e1]
      | false =>
        refine iteF ⟨_, rfl, a, C, dx3, _, _, rfl, u3, T.cl.cl, T.cl.nK, rfl, _, rfl, a, C, dx3, _, _, rfl, u3, T.cl.cl, T.cl.nT, rfl, .ref t3, .tup ds, rfl, .tup v3 i3, hp.term, s3.ta hT2, fun H4 v s4 iv => ?_⟩
        simp only [stripD] at iv
        cases iv with
        | @tup t4 ts4 _ ht4 it4 =>
        intro y dy hy hdy hney
        have h1 := rank_strip (.atom k ds)
        rw [es] at h1
        have hr := hp.r
        simp only [rkk, Bool.and_eq_true, decide_eq_true_eq] at hr
        have hsz := (wrdL_strip ds w1.1).2
        have hfit : Fit (.tup (stripL ds)) := by
          refine ⟨by simp only [sz] at zz ⊢; omega, ?_⟩
          have := hp.t
          simp only [txl] at this ⊢
          exact txlL_strip ds this
        refine made3S ht4 it4 (term_strip w1.2) (by omega) hfit hy hdy hney fun H6 s6 ix6 => ⟨rfl, q H6 _ (((StrM.same s12).trans s3).trans (s4.trans (StrM.same s6))) (.inr ⟨dy, t4, _, ts4, es, ix6, s6 _ _ ht4, it4.same s6, ?_, hsz⟩)⟩
        obtain ⟨_, _, _, _, u4, _, _, _⟩ := (s4.is _ _ hp.w hx3).parts
        exact (ne_of_none u4 hy).symm
end
end Hc

namespace Hc
open PySem PySem.Spec PyProof.Rows L2 Hr LamX
local instance iwS4b : Memo := memoW
section
variable {P : Program} {w : World} {K : PySem.W.Frag} {mg : Str → Option Value} {base : Heap} {f : Addr} {fd : FuncData} {C : Addr} {Tb : List (Addr × Str)}
theorem putS (k : Str) (t : Addr) (r : Nat) (sv b : V) : putF "_stripped" b (atF k t r sv) = atF k t r b := by
  have n1 : ¬ (("kind" : Str) = "_stripped") := by decide +kernel
  have n2 : ¬ (("term" : Str) = "_stripped") := by decide +kernel
  have n3 : ¬ (("rank" : Str) = "_stripped") := by decide +kernel
  simp [putF, atF, n1, n2, n3]
abbrev s_Atom_stripped : Stmt := L2.inClass (top 22) 3
theorem sc_Atom_stripped : FnScope ["self"] ["self"] (C8.fnScope s_Atom_stripped) := C8.fnScope_by (by decide +kernel)
theorem ok_stripped {n k : Nat} {fI : Addr} {fdI : FuncData} (me : Meth K C "stripped" fI) (T : Txt K mg w C) (F : C8.Fun K "stripped" "Atom.stripped" s_Atom_stripped fI fdI) (b : Binds K fdI ["self"] []) (c__strip_atom : C8.Cal P w K mg base k "_strip_atom" (spSA C Tb n) []) : C8.Met P w K mg base (k + 1) C "stripped" (spLam C Tb n) [] := by
  refine C8.met0 T.cl.cl me F b sc_Atom_stripped (fun vs H Q E h => ?_) (fun cdv A outer s H vs Q E hr h => ?_)
  · obtain ⟨a, k, ds, rfl, _⟩ := h; rfl
  obtain ⟨a, k, ds, rfl, hx, hp, hT, q⟩ := h
  refine ⟨_, (pss_cons (ps_if (pt_cmpR op_isN (pe_fld (pv 0) rfl) pe_non (nomark _)) (pss_one (ps_fld (pv 0) (C8.pe_c c__strip_atom hr (by first | decide | omega) rfl (pa_cons (pv 0) pa_nil)) rfl)) pss_nil)
      (pss_one (ps_ret (pe_fld (pv 0) rfl)))), ?_⟩
  obtain ⟨dx, t, xs, sv, u1, v1, i1, hsv⟩ := hx.parts
  refine ⟨_, rfl, a, C, dx, _, _, rfl, u1, T.cl.cl, T.cl.nS, rfl, rfl, _, rfl, ?_⟩
  by_cases cn : sv = .non
  · refine ifT cn ⟨_, rfl, a, k, ds, rfl, hx, hp, hT, fun H1 bb s1 an => ?_⟩
    obtain ⟨dx1, t1, xs1, sv1, u2, v2, i2, _⟩ := (s1.is _ _ hp.w hx).parts
    refine ⟨_, rfl, a, C, dx1, _, rfl, u2, T.cl.cl, T.cl.nS, (by show 4 < 1000; decide), ?_⟩
    rw [putS]
    refine ⟨_, rfl, a, C, dx1, _, _, rfl, upd_same, T.cl.cl, T.cl.nS, rfl, ?_⟩
    rcases an with ⟨rfl, es⟩ | ⟨db, u, es, ys, e1, hb, hu, iy, ne, hz⟩
    · obtain ⟨g1, g2⟩ := StrM.self (T := Tb) u2 v2 (s1.is _ _ hp.w hx) es
      exact q _ _ (s1.trans g1) (by rw [es]; exact g2) fun _ => es
    · obtain ⟨g1, g2, g3⟩ := StrM.note (T := Tb) u2 v2 (s1.is _ _ hp.w hx) e1 hb hu iy ne hz
      exact q _ _ (s1.trans g1) (by rw [e1]; exact g2) fun z => absurd z ne
  · refine ifF cn ⟨_, rfl, a, C, dx, _, _, rfl, u1, T.cl.cl, T.cl.nS, rfl, ?_⟩
    rcases hsv with rfl | ⟨rfl, es⟩ | ⟨bb, rfl, ib⟩
    · exact absurd rfl cn
    · exact q H a StrM.refl (by rw [es]; exact hx) fun _ => es
    · exact q H bb StrM.refl ib fun z => by rw [z] at ib; exact ib.uniq hx
end
end Hc

namespace Hc
open PySem PySem.Spec PyProof.Rows L2 Hr LamX
local instance iwS5 : Memo := memoW
section
variable {P : Program} {w : World} {K : PySem.W.Frag} {mg : Str → Option Value} {base : Heap} {f : Addr} {fd : FuncData} {C : Addr} {Tb : List (Addr × Str)}
abbrev s_with_atoms : Stmt := top 21
theorem sc_with_atoms : FnScope ["value", "change", "todo", "rows", "part", "is_at_its_end", "row", "each"] ["value", "change"] (C8.fnScope s_with_atoms) := C8.fnScope_by (by decide +kernel)
theorem ok_with_atoms {n k : Nat} {G : Addr → Lm.LF} (F : C8.Def K mg "with_atoms" s_with_atoms f fd) (b : Binds K fd ["value", "change"] []) (T : Txt K mg w C) (okL : ∀ f c', Lm.LOk P w K mg base k f (G c') (spLam C Tb n)) : C8.Cal P w K mg base (k + 1) "with_atoms" (spWith C Tb G n) [] := by
  refine C8.cal0 F b .nil sc_with_atoms (fun vs H Q E h => ?_) (fun cdv A outer s H vs Q E hr h => ?_)
  · obtain ⟨x, d, fv, c', rfl, _⟩ := h; rfl
  obtain ⟨x, d, fv, c', rfl, hfv, hcv, hx, hp, hT, q⟩ := h
  refine ⟨_, (pss_cons (ps_set (i := 2) sc_with_atoms.nd rfl (Or.inl rfl) (pe_lst (pa_cons (pe_tup (pa_cons (pv 0) (pa_cons pe_bl pa_nil))) pa_nil)))
      (pss_cons (ps_set (i := 3) sc_with_atoms.nd rfl (Or.inl rfl) (pe_lst (pa_cons (pe_lst pa_nil) pa_nil)))
      (pss_cons (ps_while PassesOwn.never (pt_truth (pv 2) (fun _ => rfl))
      (pss_cons (ps_asg (pe_bm0 PySem.F.plainAttrs_list PySem.F.slot_list_pop PySem.F.type_list_pop mt_pop (pv 2)) (pg_tup rfl (pgs_cons (pg_name (i := 4) sc_with_atoms.nd rfl (Or.inl rfl)) (pgs_cons (pg_name (i := 5) sc_with_atoms.nd rfl (Or.inl rfl)) pgs_nil))))
      (pss_one (ps_if (pt_val (pv 5)) (pss_cons (ps_set (i := 6) sc_with_atoms.nd rfl (Or.inl rfl) (pe_callTy call_tuple_of rfl T.z_tuple bt_tuple (pa_cons (pe_bm0 PySem.F.plainAttrs_list PySem.F.slot_list_pop PySem.F.type_list_pop mt_pop (pv 3)) pa_nil)))
      (pss_one (ps_expr (pe_bm PySem.F.plainAttrs_list PySem.F.slot_list_append PySem.F.type_list_append mt_append (pe_ix ix_list (pv 3) (pe_un un_neg pe_int) (fun _ _ => rfl)) (pa_cons (pv 6) pa_nil))))) (pss_one (ps_if (pt_cmpR (op_isTyA (C := C)) (pe_callTy (call_typeA (C := C)) rfl T.z_type bt_type (pa_cons (pv 4) pa_nil)) (pe_bltn (v := .ty "tuple") rfl T.z_tuple bt_tuple rfl) (nomark _)) (pss_cons (ps_expr (pe_bm PySem.F.plainAttrs_list PySem.F.slot_list_append PySem.F.type_list_append mt_append (pv 3) (pa_cons (pe_lst pa_nil) pa_nil)))
      (pss_cons (ps_expr (pe_bm PySem.F.plainAttrs_list PySem.F.slot_list_append PySem.F.type_list_append mt_append (pv 2) (pa_cons (pe_tup (pa_cons (pv 4) (pa_cons pe_bl pa_nil))) pa_nil)))
      (pss_one (ps_expr (pe_bm PySem.F.plainAttrs_list PySem.F.slot_list_extend PySem.F.type_list_extend mt_extend (pv 2) (pa_cons (pe_lc (own := [("each", 7)]) (g := gName 7) rfl sc_with_atoms.nd (pi_tup (pe_revT (pv 4))) (blkOk_by (own := [("each", 7)]) (N := ["value", "change", "todo", "rows", "part", "is_at_its_end", "row", "each"]) (sc := C8.fnScope s_with_atoms) (by decide +kernel)) (fun _ _ _ _ _ => (pg_name (i := 7) sc_with_atoms.nd rfl (Or.inl rfl))) (fun _ _ _ _ _ => pts_nil) (fun _ _ _ _ _ => (pe_tup (pa_cons (pv 7) (pa_cons pe_bl pa_nil))))) pa_nil)))))) (pss_one (ps_expr (pe_bm PySem.F.plainAttrs_list PySem.F.slot_list_append PySem.F.type_list_append mt_append (pe_ix ix_list (pv 3) (pe_un un_neg pe_int) (fun _ _ => rfl)) (pa_cons (pe_ifExp (pt_cmpR (op_isTyA (C := C)) (pe_callTy (call_typeA (C := C)) rfl T.z_type bt_type (pa_cons (pv 4) pa_nil)) (pe_glob (v := .ref C) rfl T.g_Atom rfl) (nomark _)) (Lm.pe_callL (F := G) (E := C8.E0) (i := 1) okL hr (by first | decide | omega) C8.pass0 rfl (Or.inl rfl) (pa_cons (pv 4) pa_nil)) (pv 4)) pa_nil))))))))))
      (pss_one (ps_ret (pe_ix ix_list (pe_ix ix_list (pv 3) pe_int (fun _ _ => rfl)) pe_int (fun _ _ => rfl))))))), ?_⟩
  refine ⟨_, rfl, (by show 2 ≤ sizeLine; decide), fun u hu => ⟨(by show 1 ≤ sizeLine; decide), fun l hl => ⟨(by show 0 ≤ sizeLine; decide), fun a0 ha0 => ⟨(by show 1 ≤ sizeLine; decide), fun R hR => ?_⟩⟩⟩⟩
  have z1 := same_new (o := .tup [x, .bl false]) hu
  have z2 := same_new (o := .lst [.ref u]) hl
  have z3 := same_new (o := .lst []) ha0
  have z4 := same_new (o := .lst [.ref a0]) hR
  have e1 : (upd H u (.tup [x, .bl false])) u = some (.tup [x, .bl false]) := upd_same
  have e2 : (upd (upd H u (.tup [x, .bl false])) l (.lst [.ref u])) l = some (.lst [.ref u]) := upd_same
  have e3 : (upd (upd (upd H u (.tup [x, .bl false])) l (.lst [.ref u])) a0 (.lst [])) a0 = some (.lst []) := upd_same
  have e4 : (upd (upd (upd (upd H u (.tup [x, .bl false])) l (.lst [.ref u])) a0 (.lst [])) R (.lst [.ref a0])) R = some (.lst [.ref a0]) := upd_same
  have hl0 : H l = none := z1.free hl
  have ha00 : H a0 = none := (z1.trans z2).free ha0
  have hR0 : H R = none := ((z1.trans z2).trans z3).free hR
  have nlR : l ≠ R := ne_of_none (z3 _ _ e2) hR
  have nal : a0 ≠ l := (ne_of_none e2 ha0).symm
  have naR : a0 ≠ R := ne_of_none e3 hR
  have zz := ((z1.trans z2).trans z3).trans z4
  have e1 := ((z2.trans z3).trans z4) _ _ e1
  have e2 := (z3.trans z4) _ _ e2
  have e3 := z4 _ _ e3
  generalize (upd (upd (upd (upd H u (.tup [x, .bl false])) l (.lst [.ref u])) a0 (.lst [])) R (.lst [.ref a0])) = H0 at zz e1 e2 e3 e4 ⊢
  have hsz := sz_pos d
  have hz := hp.z
  refine ⟨fun m σ' H' => ∃ v3 v4 v5 xs ps as rs, σ' = [some x, some (.ref fv), some (.ref l), some (.ref R), v3, v4, v5, none] ∧ StrM C Tb H H' ∧ H' l = some (.lst xs) ∧ StB C H' xs ps ∧ H' R = some (.lst (as.reverse.map V.ref)) ∧ Rws C H' as rs ∧ as.Nodup ∧ (∀ a ∈ as, a ≠ l ∧ a ≠ R ∧ H a = none) ∧ GoodS n d ps.reverse rs ∧ m = wtL ps ∧ tot rs + wtL ps ≤ 2000001,
    ⟨_, none, none, none, [.ref u], [(d, false)], [a0], [[]], rfl, StrM.same zz, e2, .cons e1 (hx.same zz) hp.w .nil, e4, .cons e3 .nil rfl .nil, by simp, fun a ha => (by rw [List.mem_singleton.mp ha]; exact ⟨nal, naR, ha00⟩), ⟨hp, [], [], rfl, rfl⟩, rfl, by simp only [tot, wtL, wt, List.length_nil]; omega⟩, ?_⟩
  clear e1 e2 e3 e4 zz z1 z2 z3 z4 nal naR
  rintro m σ' H' ⟨v3, v4, v5, xs, ps, as, rs, rfl, sm, hl1, ist, hR1, irw, hnd, hoff, hg, rfl, hB⟩
  refine ⟨_, rfl, _, .inl ⟨xs, SqL.of hl1, rfl⟩, ?_⟩
  rcases List.eq_nil_or_concat ps with rfl | ⟨ps', p, rfl⟩
  · cases ist
    have hrs : rs = [[stripD d]] := hg
    subst hrs
    cases irw with
    | @cons a ys _ as' _ ha iy wy tl =>
      cases tl
      cases iy with
      | @cons y _ _ _ iy0 tl2 =>
        cases tl2
        refine iteF ⟨_, rfl, R, [.ref a], 0, .ref a, rfl, rfl, SqL.of hR1, rfl, a, [y], 0, y, rfl, rfl, SqL.of ha, rfl, q H' y sm iy0⟩
  simp only [List.concat_eq_append] at ist hg hB ⊢
  obtain ⟨q0, xv, ys, rfl, hq0, ixv, wp, ist'⟩ := ist.last
  rw [List.reverse_append, List.reverse_singleton, List.singleton_append] at hg
  have hwt : wtL (ps' ++ [p]) = wtL ps' + wt p := by rw [wtL_app]; simp [wtL]
  refine bT (by simp) ⟨fun σ2 H2 => ∃ m', m' < wtL (ps' ++ [p]) ∧ ∃ v3 v4 v5 xs ps as rs, σ2 = [some x, some (.ref fv), some (.ref l), some (.ref R), v3, v4, v5, none] ∧ StrM C Tb H H2 ∧ H2 l = some (.lst xs) ∧ StB C H2 xs ps ∧ H2 R = some (.lst (as.reverse.map V.ref)) ∧ Rws C H2 as rs ∧ as.Nodup ∧ (∀ a ∈ as, a ≠ l ∧ a ≠ R ∧ H a = none) ∧ GoodS n d ps.reverse rs ∧ m' = wtL ps ∧ tot rs + wtL ps ≤ 2000001, fun σ2 H2 h => h, ?_⟩
  refine ⟨_, rfl, .inl ⟨rfl, _, SqL.of hl1⟩, l, _, .ref q0, rfl, rfl, hl1, by simp, ?_⟩
  rw [List.dropLast_concat]
  have kl : Kp C H' (upd H' l (.lst ys)) := Kp.of (Keep.lst hl1)
  have hl2 : (upd H' l (.lst ys)) l = some (.lst ys) := upd_same
  have hR2 : (upd H' l (.lst ys)) R = some (.lst (as.reverse.map V.ref)) := by rw [upd_ne nlR.symm]; exact hR1
  have irw2 := irw.keep kl fun a ha o e => by rw [upd_ne (hoff a ha).1]; exact e
  have ist2 := ist'.keep kl
  have ixv2 := kl.is _ _ wp ixv
  have hq2 := kl.tup _ _ hq0
  have sm2 := sm.put (ys := ys) hl0 hl1
  generalize upd H' l (.lst ys) = H2 at hl2 hR2 irw2 ist2 ixv2 hq2 sm2 ⊢
  clear irw ist' ixv hq0 sm hR1 hl1 kl
  obtain ⟨pd, pb⟩ := p
  refine ⟨q0, [xv, .bl pb], rfl, SqT.of hq2, rfl, xv, [.bl pb], rfl, .bl pb, [], rfl, rfl, ?_⟩
  refine ⟨_, rfl, pb, rfl, ?_⟩
  cases pb with
  | true =>
    obtain ⟨pok, ds, r', rs', rfl, rfl, hg'⟩ := hg
    simp only [wt] at hwt
    refine iteT ?_
    cases irw2 with
    | @cons a yrow _ as1 _ ha iy wr tl =>
    cases tl with
    | @cons a' yr' _ as' _ ha' iy' wr' tl' =>
    have hnd1 : a ∉ a' :: as' := (List.nodup_cons.mp hnd).1
    have hnd2 : (a' :: as').Nodup := (List.nodup_cons.mp hnd).2
    have hnd3 : a' ∉ as' := (List.nodup_cons.mp hnd2).1
    have eR : (a :: a' :: as').reverse.map V.ref = (a' :: as').reverse.map V.ref ++ [.ref a] := by simp
    have eR2 : (a' :: as').reverse.map V.ref = as'.reverse.map V.ref ++ [.ref a'] := by simp
    rw [eR] at hR2
    refine ⟨_, rfl, .inl ⟨rfl, _, SqL.of hR2⟩, R, _, .ref a, rfl, rfl, hR2, by simp, ?_⟩
    rw [List.dropLast_concat]
    have k4 : Kp C H2 (upd H2 R (.lst ((a' :: as').reverse.map V.ref))) := Kp.of (Keep.lst hR2)
    have oa := hoff a List.mem_cons_self
    have oa' := hoff a' (List.mem_cons_of_mem _ List.mem_cons_self)
    have ha4 : (upd H2 R (.lst ((a' :: as').reverse.map V.ref))) a = some (.lst yrow) := by rw [upd_ne oa.2.1]; exact ha
    have ha4' : (upd H2 R (.lst ((a' :: as').reverse.map V.ref))) a' = some (.lst yr') := by rw [upd_ne oa'.2.1]; exact ha'
    have hl4 : (upd H2 R (.lst ((a' :: as').reverse.map V.ref))) l = some (.lst ys) := by rw [upd_ne nlR]; exact hl2
    have hR4 : (upd H2 R (.lst ((a' :: as').reverse.map V.ref))) R = some (.lst ((a' :: as').reverse.map V.ref)) := upd_same
    have tl4 := tl'.keep k4 fun b hb o e => by rw [upd_ne (hoff b (List.mem_cons_of_mem _ (List.mem_cons_of_mem _ hb))).2.1]; exact e
    have ist4 := ist2.keep k4
    have iy4 := k4.isA wr iy
    have iy4' := k4.isA wr' iy'
    have sm4 := sm2.put (ys := (a' :: as').reverse.map V.ref) hR0 hR2
    generalize upd H2 R (.lst ((a' :: as').reverse.map V.ref)) = H4 at ha4 ha4' hl4 hR4 tl4 ist4 iy4 iy4' sm4 ⊢
    clear k4 ha ha' hl2 hR2 tl' ist2 ixv2 iy iy' sm2
    refine ⟨a, yrow, rfl, .inl ⟨SqL.of ha4, fun t ht => ?_⟩⟩
    have s5 := same_new (o := .tup yrow) ht
    have it : IsS C (upd H4 t (.tup yrow)) (.ref t) (stripD (.tup ds)) := by simp only [stripD]; exact .tup upd_same (iy4.same s5)
    rw [eR2] at hR4
    have ha6 := s5 _ _ ha4'
    have hlen' := iy4'.len
    have hyb : yr'.length < sizeLine := by
      simp only [tot] at hB
      exact Nat.lt_of_lt_of_le (show yr'.length < 2000002 by omega) (by decide)
    refine ⟨_, rfl, 1, rfl, R, _, -1, .ref a', rfl, rfl, SqL.of (s5 _ _ hR4), atI_last _ _, .inl ⟨rfl, _, SqL.of ha6⟩, _, rfl, a', yr', .ref t, rfl, rfl, ha6, hyb, ?_⟩
    have kq : Kp C H4 (upd (upd H4 t (.tup yrow)) a' (.lst (yr' ++ [.ref t]))) := (Kp.same s5).trans (Kp.of (Keep.lst ha6))
    have k6 : Kp C (upd H4 t (.tup yrow)) (upd (upd H4 t (.tup yrow)) a' (.lst (yr' ++ [.ref t]))) := Kp.of (Keep.lst ha6)
    have ws := (wrd_strip (.tup ds) pok.w).1
    refine ⟨wtL ps', by omega, _, _, _, ys, ps', a' :: as', (r' ++ [stripD (.tup ds)]) :: rs', rfl, (sm4.trans (StrM.same s5)).put oa'.2.2 ha6, by rw [upd_ne oa'.1.symm]; exact s5 _ _ hl4, ist4.keep kq, by rw [upd_ne oa'.2.1.symm, eR2]; exact s5 _ _ hR4, .cons upd_same ((kq.isA wr' iy4').app (.cons (k6.is _ _ ws it) .nil)) (by rw [wrdL_app, wr']; simp [wrdL, ws]) (tl4.keep kq fun b hb o e => by
        have hne : b ≠ a' := fun z => hnd3 (by rw [← z]; exact hb)
        rw [upd_ne hne]; exact s5 _ _ e), hnd2, fun b hb => hoff b (List.mem_cons_of_mem _ hb), hg', rfl, ?_⟩
    simp only [tot, List.length_append, List.length_singleton] at hB ⊢
    omega
  | false =>
    obtain ⟨pok, r, rs', rfl, hg'⟩ := hg
    simp only [wt] at hwt
    have hszp := sz_pos pd
    have hlenp := ist2.len
    have hwl := wtL_len ps'
    refine iteF ⟨_, rfl, xv, pd, rfl, ixv2.is, kyV_ok pd, .inl ⟨_, rfl⟩, _, rfl, ?_⟩
    by_cases ct : kyV C pd = .ty "tuple"
    · refine ifT ct ?_
      obtain ⟨ds, rfl⟩ := kyV_tup.mp ct
      cases ixv2 with
      | @tup t ts _ ht2 its2 =>
      have ixv2 : IsS C H2 (.ref t) (.tup ds) := .tup ht2 its2
      have hlr := irw2.len
      have hrl : as.length ≤ 2000001 := by
        have : ∀ l : List (List D), l.length ≤ tot l := fun l => by
          induction l with
          | nil => exact Nat.le_refl _
          | cons y l ih => simp only [tot, List.length_cons]; omega
        have := this (r :: rs')
        omega
      refine ⟨_, rfl, .inl ⟨rfl, _, SqL.of hR2⟩, (by show 0 ≤ sizeLine; decide), fun b hb => ⟨R, _, .ref b, rfl, rfl, same_new hb _ _ hR2, Nat.lt_of_lt_of_le (show _ < 2000002 by rw [List.length_map, List.length_reverse]; omega) (by decide), ?_⟩⟩
      have sb := same_new (o := .lst []) hb
      have nbR : b ≠ R := (ne_of_none hR2 hb).symm
      have nbl : b ≠ l := (ne_of_none hl2 hb).symm
      have hbH : H b = none := sm2.free hb
      have hnb : b ∉ as := fun z => by
        obtain ⟨yy, hy⟩ := irw2.some b z
        rw [hb] at hy; cases hy
      have kR : Kp C H2 (upd (upd H2 b (.lst [])) R (.lst (as.reverse.map V.ref ++ [.ref b]))) := (Kp.same sb).trans (Kp.of (Keep.lst (sb _ _ hR2)))
      have f1 : (upd (upd H2 b (.lst [])) R (.lst (as.reverse.map V.ref ++ [.ref b]))) l = some (.lst ys) := by rw [upd_ne nlR]; exact sb _ _ hl2
      have f2 : (upd (upd H2 b (.lst [])) R (.lst (as.reverse.map V.ref ++ [.ref b]))) R = some (.lst ((b :: as).reverse.map V.ref)) := by rw [upd_same]; simp
      have f3 : (upd (upd H2 b (.lst [])) R (.lst (as.reverse.map V.ref ++ [.ref b]))) b = some (.lst []) := by rw [upd_ne nbR]; exact upd_same
      have f4 := irw2.keep kR fun a ha o e => by rw [upd_ne (hoff a ha).2.1]; exact sb _ _ e
      have f5 := ist2.keep kR
      have f6 := kR.is _ _ wp ixv2
      have f7 : (upd (upd H2 b (.lst [])) R (.lst (as.reverse.map V.ref ++ [.ref b]))) t = some (.tup ts) := kR.tup _ _ ht2
      have wds : wrdL ds = true := by simpa [wrd] using wp
      have f8 := kR.isA wds its2
      have f9 : StrM C Tb H (upd (upd H2 b (.lst [])) R (.lst (as.reverse.map V.ref ++ [.ref b]))) := (sm2.trans (StrM.same sb)).put hR0 (sb _ _ hR2)
      generalize (upd (upd H2 b (.lst [])) R (.lst (as.reverse.map V.ref ++ [.ref b]))) = H5 at f1 f2 f3 f4 f5 f6 f7 f8 f9 ⊢
      clear kR hR2 hl2 irw2 ist2 ixv2 ht2 its2 sm2 sb hb
      -- todo.append((part, True))
      refine ⟨_, rfl, .inl ⟨rfl, _, SqL.of f1⟩, _, rfl, (by show 2 ≤ sizeLine; decide), fun u2 hu2 => ⟨l, ys, .ref u2, rfl, rfl, same_new hu2 _ _ f1, Nat.lt_of_lt_of_le (show _ < 2000002 by omega) (by decide), ?_⟩⟩
      have su := same_new (o := .tup [.ref t, .bl true]) hu2
      have ku : Kp C H5 (upd (upd H5 u2 (.tup [.ref t, .bl true])) l (.lst (ys ++ [.ref u2]))) := (Kp.same su).trans (Kp.of (Keep.lst (su _ _ f1)))
      have ku2 : Kp C (upd H5 u2 (.tup [.ref t, .bl true])) (upd (upd H5 u2 (.tup [.ref t, .bl true])) l (.lst (ys ++ [.ref u2]))) := Kp.of (Keep.lst (su _ _ f1))
      have g1 : (upd (upd H5 u2 (.tup [.ref t, .bl true])) l (.lst (ys ++ [.ref u2]))) l = some (.lst (ys ++ [.ref u2])) := upd_same
      have g2 : (upd (upd H5 u2 (.tup [.ref t, .bl true])) l (.lst (ys ++ [.ref u2]))) R = some (.lst ((b :: as).reverse.map V.ref)) := by rw [upd_ne nlR.symm]; exact su _ _ f2
      have g4 : Rws C (upd (upd H5 u2 (.tup [.ref t, .bl true])) l (.lst (ys ++ [.ref u2]))) (b :: as) ([] :: r :: rs') := (Rws.cons f3 .nil rfl f4).keep ku fun a ha o e => by
        have hne : a ≠ l := by
          rcases List.mem_cons.mp ha with rfl | ha
          · exact nbl
          · exact (hoff a ha).1
        rw [upd_ne hne]; exact su _ _ e
      have g5 : StB C (upd (upd H5 u2 (.tup [.ref t, .bl true])) l (.lst (ys ++ [.ref u2]))) (ys ++ [.ref u2]) (ps' ++ [(.tup ds, true)]) := (f5.keep ku).app (.cons (ku2.tup _ _ upd_same) (ku.is _ _ wp f6) wp .nil)
      have g7 := ku.tup _ _ f7
      have g8 := ku.isA wds f8
      have g9 : StrM C Tb H (upd (upd H5 u2 (.tup [.ref t, .bl true])) l (.lst (ys ++ [.ref u2]))) := (f9.trans (StrM.same su)).put hl0 (su _ _ f1)
      generalize (upd (upd H5 u2 (.tup [.ref t, .bl true])) l (.lst (ys ++ [.ref u2]))) = H6 at g1 g2 g4 g5 g7 g8 g9 ⊢
      clear ku ku2 f1 f2 f3 f4 f5 f6 f7 f8 f9 su hu2
      -- todo.extend([..])
      refine ⟨_, rfl, .inl ⟨rfl, _, SqL.of g1⟩, _, rfl, t, ts, rfl, SqT.of g7, fun rv hrv => ⟨rv, rfl, ⟨_, SqT.of upd_same⟩, fun Dl hDl => ?_⟩⟩
      have s7 := same_new (o := .tup ts.reverse) hrv
      have irev : ISA C (upd H6 rv (.tup ts.reverse)) ts.reverse ds.reverse := (g8.same s7).rev
      have hrvt : (upd H6 rv (.tup ts.reverse)) rv = some (.tup ts.reverse) := upd_same
      have wdr : wrdL ds.reverse = true := wrdL_iff.mpr fun e he => (pok.tup (List.mem_reverse.mp he)).w
      generalize (upd H6 rv (.tup ts.reverse)) = H7 at s7 irev hrvt hDl ⊢
      have hil := irev.len
      have hdl := len_szL ds
      have pz := pok.z
      simp only [sz] at hszp hwt pz
      refine lc_it (walk_tup (xs := ts.reverse)) (fun j H8 => Same H7 H8 ∧ ∃ acc, H8 Dl = some (.lst acc) ∧ StB C H8 acc ((ds.reverse.take j).map fun e => (e, false))) ⟨same_new hDl, [], upd_same, .nil⟩ (fun j H8 _ h => SqT.of (h.1 _ _ hrvt)) ?_ ?_
      · rintro j z H8 H9 hj ⟨s8, acc, hz8, ia⟩ ⟨rfl, hz'⟩
        obtain ⟨e, he, hze⟩ := irev.at hz'
        have hlacc := ia.len
        rw [List.length_map, List.length_take, List.length_reverse] at hlacc
        refine ⟨rfl, yes ?_⟩
        refine ⟨_, rfl, (by show 2 ≤ sizeLine; decide), fun u3 hu3 => ?_⟩
        have su := same_new (o := .tup [z, .bl false]) hu3
        have hacc := su _ _ hz8
        have kq : Kp C (upd H9 u3 (.tup [z, .bl false])) (upd (upd H9 u3 (.tup [z, .bl false])) Dl (.lst (acc ++ [.ref u3]))) := Kp.of (Keep.lst hacc)
        have we := wrdL_mem wdr (List.mem_of_getElem? he)
        refine ⟨acc, hacc, Nat.lt_of_lt_of_le (show acc.length < 1000002 by omega) (by decide), same_put (s8.trans su) hDl, acc ++ [.ref u3], upd_same, ?_⟩
        rw [List.take_add_one, he, List.map_append]
        exact (ia.keep ((Kp.same su).trans kq)).app (.cons (kq.tup _ _ upd_same) (kq.is _ _ we ((hze.same s8).same su)) we .nil)
      · rintro H8 ⟨s8, acc, hz8, ia⟩
        rw [List.take_of_length_le (l := ds.reverse) (i := ts.reverse.length) (by omega)] at ia
        have hlacc := ia.len
        rw [List.length_map, List.length_reverse] at hlacc
        have s78 := s7.trans s8
        have hl8 := s78 _ _ g1
        have k8 : Kp C H6 (upd H8 l (.lst (ys ++ [.ref u2] ++ acc))) := (Kp.same s78).trans (Kp.of (Keep.lst hl8))
        have k88 : Kp C H8 (upd H8 l (.lst (ys ++ [.ref u2] ++ acc))) := Kp.of (Keep.lst hl8)
        have hw2 : wtL (ps' ++ [((.tup ds : D), true)] ++ ds.reverse.map fun e => (e, false)) = wtL ps' + 1 + 2 * szL ds := by
          rw [wtL_app, wtL_app, wtL_map, szL_rev]; simp only [wtL, wt]
        refine ⟨l, Dl, _, acc, rfl, rfl, hl8, hz8, Nat.le_trans (show _ ≤ 4000000 by rw [List.length_append, List.length_singleton]; omega) (by decide), ?_⟩
        refine ⟨wtL (ps' ++ [(.tup ds, true)] ++ ds.reverse.map fun e => (e, false)), by rw [hw2, hwt]; omega, _, _, _, _, ps' ++ [(.tup ds, true)] ++ ds.reverse.map (fun e => (e, false)), b :: as, [] :: r :: rs', rfl, (g9.trans (StrM.same s78)).put hl0 hl8, upd_same, (g5.keep k8).app (ia.keep k88), by rw [upd_ne nlR.symm]; exact s78 _ _ g2, g4.keep k8 fun a ha o e => ?_, List.nodup_cons.mpr ⟨hnb, hnd⟩, fun a ha => ?_, ?_, rfl, ?_⟩
        · have hne : a ≠ l := by
            rcases List.mem_cons.mp ha with rfl | ha
            · exact nbl
            · exact (hoff a ha).1
          rw [upd_ne hne]; exact s78 _ _ e
        · rcases List.mem_cons.mp ha with rfl | ha
          · exact ⟨nbl, nbR, hbH⟩
          · exact hoff a ha
        · rw [List.reverse_append, List.reverse_append, ← List.map_reverse, List.reverse_reverse, List.reverse_singleton, List.singleton_append]
          exact goodS_parts pok hg' ds [] (fun e he => pok.tup he) rfl
        · rw [hw2]
          simp only [tot, List.length_nil] at hB ⊢
          omega
    · refine ifF ct ?_
      cases irw2 with
      | @cons a yrow _ as1 _ ha iy wr tl =>
      have hnd1 : a ∉ as1 := (List.nodup_cons.mp hnd).1
      have eR : (a :: as1).reverse.map V.ref = as1.reverse.map V.ref ++ [.ref a] := by simp
      have oa := hoff a List.mem_cons_self
      rw [eR] at hR2
      have hlen' := iy.len
      have hyb : yrow.length < sizeLine := by
        simp only [tot] at hB
        exact Nat.lt_of_lt_of_le (show yrow.length < 2000002 by omega) (by decide)
      have ws := (wrd_strip pd pok.w).1
      -- behind the append
      have fin : ∀ (H4 : Hp) (v : V), StrM C Tb H2 H4 → IsS C H4 v (stripD pd) → ∃ m', m' < wtL (ps' ++ [(pd, false)]) ∧ ∃ v3 v4 v5' xs ps as rs, ([some x, some (.ref fv), some (.ref l), some (.ref R), some xv, some (.bl false), v5, none] : L2.St) = [some x, some (.ref fv), some (.ref l), some (.ref R), v3, v4, v5', none] ∧ StrM C Tb H (upd H4 a (.lst (yrow ++ [v]))) ∧ (upd H4 a (.lst (yrow ++ [v]))) l = some (.lst xs) ∧ StB C (upd H4 a (.lst (yrow ++ [v]))) xs ps ∧ (upd H4 a (.lst (yrow ++ [v]))) R = some (.lst (as.reverse.map V.ref)) ∧ Rws C (upd H4 a (.lst (yrow ++ [v]))) as rs ∧ as.Nodup ∧ (∀ a ∈ as, a ≠ l ∧ a ≠ R ∧ H a = none) ∧ GoodS n d ps.reverse rs ∧ m' = wtL ps ∧ tot rs + wtL ps ≤ 2000001 := fun H4 v s4 iv4 => by
        have ha4 := s4.lst ha
        have kq : Kp C H2 (upd H4 a (.lst (yrow ++ [v]))) := (Kp.ofM s4).trans (Kp.of (Keep.lst ha4))
        have k4 : Kp C H4 (upd H4 a (.lst (yrow ++ [v]))) := Kp.of (Keep.lst ha4)
        refine ⟨wtL ps', by omega, _, _, _, ys, ps', a :: as1, (r ++ [stripD pd]) :: rs', rfl, (sm2.trans s4).put oa.2.2 ha4, by rw [upd_ne oa.1.symm]; exact s4.lst hl2, ist2.keep kq, by rw [upd_ne oa.2.1.symm, eR]; exact s4.lst hR2, .cons upd_same ((kq.isA wr iy).app (.cons (k4.is _ _ ws iv4) .nil)) (by rw [wrdL_app, wr]; simp [wrdL, ws]) (tl.keep kq fun b hb o e => by
          have hne : b ≠ a := fun z => hnd1 (by rw [← z]; exact hb)
          rw [upd_ne hne]; exact s4.lst e), hnd, hoff, hg', rfl, ?_⟩
        simp only [tot, List.length_append, List.length_singleton] at hB ⊢
        omega
      refine ⟨_, rfl, 1, rfl, R, _, -1, .ref a, rfl, rfl, SqL.of hR2, atI_last _ _, .inl ⟨rfl, _, SqL.of ha⟩, ?_⟩
      refine ⟨_, rfl, xv, pd, rfl, ixv2.is, kyV_ok pd, .inr rfl, _, rfl, ?_⟩
      by_cases ca : kyV C pd = .ref C
      · refine ifT ca ?_
        obtain ⟨k, gs, rfl⟩ := kyV_atom.mp ca
        obtain ⟨ad, rfl⟩ : ∃ ad, xv = .ref ad := by cases ixv2 <;> exact ⟨_, rfl⟩
        refine ⟨fv, c', rfl, sm2.lamO hfv, _, rfl, sm2.lamO hfv, sm2.code hcv, ad, k, gs, rfl, ixv2, pok, sm2.ta hT, fun H4 bb s4 ib _ => ?_⟩
        exact ⟨a, yrow, .ref bb, rfl, rfl, s4.lst ha, hyb, fin H4 _ s4 ib⟩
      · refine ifF ca ⟨_, rfl, a, yrow, xv, rfl, rfl, ha, hyb, fin H2 xv (StrM.same (Same.refl _)) ?_⟩
        have e : stripD pd = pd := by cases pd <;> first | rfl | exact absurd rfl ca | exact absurd rfl ct
        rw [e]; exact ixv2
end
end Hc

namespace Hc
open PySem PySem.Spec PyProof.Rows L2 Hr LamX
local instance iwS6 : Memo := memoW
abbrev s_strip : Stmt := top 20
theorem sc_strip : FnScope ["word"] ["word"] (C8.fnScope s_strip) := C8.fnScope_by (by decide +kernel)
/-- the lambda in strip -/
def lamE : Expr := match C8.fnBody s_strip with
  | [.Return (some (.Call _ [_, e] _ _)) _] => e
  | _ => .Name "x" ⟨0, 0, 0, 0⟩
def lamP : Arguments := match lamE with | .Lambda ps _ _ _ => ps | _ => ⟨[], [], none, [], [], none, []⟩
def lamB : Expr := match lamE with | .Lambda _ b _ _ => b | _ => .Name "x" ⟨0, 0, 0, 0⟩
def lamSc : Scope := match lamE with | .Lambda _ _ sc _ => sc | _ => ⟨.function, [], false, false, []⟩
def qL : Str := (envOfC "strip" (C8.fnScope s_strip) 0 0 .none).qual ++ "<lambda>"
def lamF (c' : Addr) : Lm.LF := ⟨qL, lamP, lamB, lamSc, [], c'⟩
theorem lam_nofree : ∀ y ∈ lamSc.names, y.2 ≠ .free := by decide +kernel
theorem lam_ns : NdefX.NScope ["atom"] ["atom"] [] lamSc := NdefX.nscope_by (by decide +kernel)
section
variable {P : Program} {w : World} {K : PySem.W.Frag} {mg : Str → Option Value} {base : Heap} {f : Addr} {fd : FuncData} {C : Addr} {Tb : List (Addr × Str)}
/-- a def whose code object is known -/
theorem calC {x : Str} {st : Stmt} {f c : Addr} {N ps : List Str} {ds : List Value} {dvs : List V} {k : Nat} {sp : Sp} {oc dV kV doc pm ct : Value} {od an : Option Addr} {osl : Array (Option Value)}
    (lk : K.lookup f = some ⟨oc, od, .func (PySem.W.fnOf x x (C8.fnArgs st) (C8.fnBody st) (C8.fnScope st) dV kV doc pm an (.ref c) ct), osl⟩) (hcd : PySem.W.codeIn K (.ref c) x = true) (hm : mg x = some (.ref f)) (kp : PySem.W.keepIn K (.ref f) = true)
    (b : Binds K (PySem.W.fnOf x x (C8.fnArgs st) (C8.fnBody st) (C8.fnScope st) dV kV doc pm an (.ref c) ct) ps ds) (d : Vals dvs ds) (S : FnScope N ps (C8.fnScope st)) (len : ∀ vs H Q E, sp vs H Q E → vs.length = ps.length)
    (hbody : ∀ (A : Around) (outer : List Env) (s : Shared) (H : Hp) (vs : List V) (Q : VK) (E : XK), Room k (A.deeper (envOfC x (C8.fnScope st) s.heap.objs.size f (.ref c))) → sp vs H Q E →
      ∃ t, PSs (cxOf C8.CX0 P w K mg base N x (C8.fnScope st) f (.ref c) A outer s H E).nox (C8.fnBody st) t ∧ t { nx := fun _ H' => Q .non H', rt := Q } (L2.start N vs) H) : C8.Cal P w K mg base (k + 1) x sp dvs :=
  ⟨f, _, ps, ds, fn_of lk hcd S len fun A outer s H vs Q E hr hsp => by
    obtain ⟨t, h, q⟩ := hbody A outer s H vs Q E hr hsp
    exact ⟨t, h.nox, q⟩, hm, kp, b, d⟩
theorem met_mono {j k : Nat} {m : Str} {sp : Sp} {dvs : List V} (M : C8.Met P w K mg base j C m sp dvs) (h : j ≤ k) : C8.Met P w K mg base k C m sp dvs := by
  obtain ⟨f, fd, ps, ds, a, b, F, c, d⟩ := M.ex
  exact ⟨f, fd, ps, ds, a, b, F.mono h, c, d⟩
theorem cal_mono {j k : Nat} {m : Str} {sp : Sp} {dvs : List V} (M : C8.Cal P w K mg base j m sp dvs) (h : j ≤ k) : C8.Cal P w K mg base k m sp dvs := by
  obtain ⟨f, fd, ps, ds, F, a, b, c, d⟩ := M.ex
  exact ⟨f, fd, ps, ds, F.mono h, a, b, c, d⟩
theorem ok_lam {n k : Nat} (T : Txt K mg w C) (m_stripped : C8.Met P w K mg base k C "stripped" (spLam C Tb n) []) : ∀ f c', Lm.LOk P w K mg base (k + 1) f (lamF c') (spLam C Tb n) := fun f c' => by
  refine Lm.lok_of (F := lamF c') (N := ["atom"]) (ps := ["atom"]) lam_ns rfl (fun pm ctv us hl => match us, hl with | [_], _ => rfl) (fun vs H Q E h => ?_) (fun A o s H vs Q E hr h => ?_)
  · obtain ⟨a, k, ds, rfl, _⟩ := h; rfl
  obtain ⟨a, k, ds, rfl, hx, hp, hT, q⟩ := h
  refine ⟨_, C8.pe_mt0 m_stripped hr (Nat.le_refl _) (pv 0), ?_⟩
  obtain ⟨dx, t, xs, sv, u1, _⟩ := hx.parts
  exact ⟨_, rfl, a, dx, _, rfl, u1, rfl, a, k, ds, rfl, hx, hp, hT, q⟩
theorem ok_strip {n k : Nat} {cS Ps : Addr} {oc dV kV doc pm ct : Value} {od an : Option Addr} {osl : Array (Option Value)}
    (lk : K.lookup f = some ⟨oc, od, .func (PySem.W.fnOf "strip" "strip" (C8.fnArgs s_strip) (C8.fnBody s_strip) (C8.fnScope s_strip) dV kV doc pm an (.ref cS) ct), osl⟩) (hcd : PySem.W.codeIn K (.ref cS) "strip" = true) (hm : mg "strip" = some (.ref f)) (kp : PySem.W.keepIn K (.ref f) = true)
    (b : Binds K (PySem.W.fnOf "strip" "strip" (C8.fnArgs s_strip) (C8.fnBody s_strip) (C8.fnScope s_strip) dV kV doc pm an (.ref cS) ct) ["word"] []) (TB : TabB base mg cS Ps) (T : Txt K mg w C)
    (c_with_atoms : C8.Cal P w K mg base k "with_atoms" (spWith C [(Ps, qL)] lamF n) []) : C8.Cal P w K mg base (k + 1) "strip" (spStr C [(Ps, qL)] n) [] := by
  refine calC lk hcd hm kp b .nil sc_strip (fun vs H Q E h => ?_) (fun A outer s H vs Q E hr h => ?_)
  · obtain ⟨x, d, rfl, _⟩ := h; rfl
  obtain ⟨x, d, rfl, hx, hp, hT, q⟩ := h
  refine ⟨_, (pss_one (ps_ret (C8.pe_c c_with_atoms hr (by first | decide | omega) rfl (pa_cons (pv 0) (pa_cons (Lm.pe_lm (T := [(Ps, qL)]) (c := cS) (P := Ps) TB rfl (List.mem_cons_self) (fun p hp _ => by rw [List.mem_singleton.mp hp] <;> rfl) rfl lam_nofree) pa_nil))))), ?_⟩
  refine ⟨x, rfl, hT, fun fl c' H1 e1 e2 hT1 hf0 hf hc => ?_⟩
  refine ⟨x, d, fl, c', rfl, hf, hc, hx.ext e1, hp, hT1, fun H2 v s2 iv => q H2 v ((StrM.ext e1 e2 hT1).trans s2) iv⟩
/-- the levels -/
def lvS (n : Nat) : Nat := 5 * n + 6
theorem strips {fA fS fW fI cS Ps : Addr} {fdA fdW fdI : FuncData} {oc dV kV doc pm ct : Value} {od an : Option Addr} {osl : Array (Option Value)}
    (FA : C8.Def K mg "_strip_atom" s__strip_atom fA fdA) (bA : Binds K fdA ["atom"] []) (FW : C8.Def K mg "with_atoms" s_with_atoms fW fdW) (bW : Binds K fdW ["value", "change"] [])
    (lk : K.lookup fS = some ⟨oc, od, .func (PySem.W.fnOf "strip" "strip" (C8.fnArgs s_strip) (C8.fnBody s_strip) (C8.fnScope s_strip) dV kV doc pm an (.ref cS) ct), osl⟩) (hcd : PySem.W.codeIn K (.ref cS) "strip" = true) (hm : mg "strip" = some (.ref fS)) (kp : PySem.W.keepIn K (.ref fS) = true)
    (bS : Binds K (PySem.W.fnOf "strip" "strip" (C8.fnArgs s_strip) (C8.fnBody s_strip) (C8.fnScope s_strip) dV kV doc pm an (.ref cS) ct) ["word"] []) (TB : TabB base mg cS Ps) (T : Txt K mg w C)
    (me : Meth K C "stripped" fI) (FI : C8.Fun K "stripped" "Atom.stripped" s_Atom_stripped fI fdI) (bI : Binds K fdI ["self"] [])
    (k_Atom : C8.Mak P w K mg base 5 "Atom" C (spInit C) []) (c__places_of_atoms : C8.Cal P w K mg base 1 "_places_of_atoms" (spPlS C) []) (m_is_same : C8.Met P w K mg base 1 C "is_same" (spSame C) []) :
    ∀ n : Nat, C8.Cal P w K mg base (lvS n) "_strip_atom" (spSA C [(Ps, qL)] n) [] ∧ C8.Cal P w K mg base (lvS n + 4) "strip" (spStr C [(Ps, qL)] n) []
  | 0 => by
    have c0 : C8.Cal P w K mg base (lvS 0) "_strip_atom" (spSA C [(Ps, qL)] 0) [] := by
      refine C8.cal0 (k := 5) FA bA .nil sc__strip_atom (fun vs H Q E h => ?_) (fun cdv A outer s H vs Q E hr h => ?_)
      · obtain ⟨a, k, ds, rfl, _⟩ := h; rfl
      · obtain ⟨a, k, ds, rfl, hx, hp, _⟩ := h
        exact absurd hp.f (Nat.not_lt_zero _)
    have m := ok_stripped me T FI bI c0
    exact ⟨c0, ok_strip lk hcd hm kp bS TB T (ok_with_atoms FW bW T (ok_lam T m))⟩
  | n + 1 => by
    obtain ⟨c, cs⟩ := strips FA bA FW bW lk hcd hm kp bS TB T me FI bI k_Atom c__places_of_atoms m_is_same n
    have m := ok_stripped me T FI bI c
    have c1 : C8.Cal P w K mg base (lvS (n + 1)) "_strip_atom" (spSA C [(Ps, qL)] (n + 1)) [] := ok__strip_atom (k := lvS n + 4) (by unfold lvS; omega) FA bA T k_Atom c__places_of_atoms m_is_same (met_mono m (by omega)) cs
    have m1 := ok_stripped me T FI bI c1
    exact ⟨c1, ok_strip lk hcd hm kp bS TB T (ok_with_atoms FW bW T (ok_lam T m1))⟩
end
end Hc

set_option maxHeartbeats 8000000
namespace Hc
open PySem PySem.Spec PyProof.Rows L2 Hr LamX
local instance iwY6 : Memo := memo0
theorem room64 {k : Nat} {A : Around} (hr : Room k A) : A.units + 64 < cLine := by
  have := hr.un
  omega
def nmD : D → Bool | .str z => !decide (V.str z = V.str "") && lawW 40 (.str z) | _ => false
theorem nmD_mon (d : D) : isMon d = nmD d := by
  cases d with
  | str z =>
    have h : decide (z.length ≤ 24) = decide (z.length < 25) := decide_eq_decide.mpr (by omega)
    simp only [isMon, nmD, lawW, txtOk, h]
    by_cases c : z = ""
    · subst c; simp
    · have c2 : ¬ (V.str z = V.str "") := fun q => c (V.str.inj q)
      rw [decide_eq_true c, decide_eq_false c2]; simp
  | _ => rfl
theorem addAll_all {p : D → Prop} {ds es : List D} (h1 : ∀ d ∈ ds, p d) (h2 : ∀ d ∈ es, p d) : ∀ a ∈ addAll ds es, p a := fun a ha => by
  rcases addAll_mem ha with h | h
  · exact h1 a h
  · exact h2 a h
def kinds5 : List (Str × Int) := [("token", 3), ("challenge", 2), ("seal", 4), ("page", 4), ("ticket", 6)]
def spLaw (K : PySem.W.Frag) (p0 : Addr) : Sp := fun vs H Q _ => ∃ (a : Addr) (ns : List Int), vs = [.ref a] ∧ SqL K H a (ns.map V.int) ∧ ns.length ≤ 1000 ∧ H p0 = some (.tbl #[]) ∧ ∀ H', Q (.bl true) H'
section
variable {P : Program} {w : World} {K : PySem.W.Frag} {mg : Str → Option Value} {base : Heap} {f : Addr} {fd : FuncData} {C Kd : Addr}
theorem kitLi (T : Txt K mg w C) (A : List D) : PySem.W.kitOne K (kyU C (.lst A)) (.type "list") = some true := by rw [T.kit (.lst A) "list" (by simp)]; simp
abbrev s_law : Stmt := top 49
theorem sc_law : FnScope ["script", "draws", "turn", "value", "number", "named", "fault", "one", "other", "told", "due"] ["script"] (C8.fnScope s_law) := C8.fnScope_by (by decide +kernel)
theorem fn_law {p0 : Addr} (F : C8.Fun K "law" "law" s_law f fd) (b : Binds K fd ["script"] []) (T : Txt K mg w C) (O : OwnS P w K mg base 4 C (spEqG C)) (o : Oth K C) (gK : ∃ u, mg "KINDS" = some u ∧ RelV (.ref Kd) u) (kI : KInts K w Kd kinds5)
    (c__law_begin : C8.Cal P w K mg base 1 "_law_begin" (fun vs H Q _ => ∃ (a : Addr) (ns : List Int), vs = [.ref a] ∧ SqL K H a (ns.map V.int) ∧ ns.length ≤ 1000 ∧ ∀ H' d c, Same H H' → H d = none → H c = none → Dr H' d c → Q (.ref d) H') [])
    (c__law_pick : C8.Cal P w K mg base 2 "_law_pick" spPick []) (c__law_value : C8.Cal P w K mg base 20 "_law_value" (spVal C 5) []) (c__law_agree : C8.Cal P w K mg base 1 "_law_agree" spAgree [])
    (c_is_word : C8.Cal P w K mg base 3 "is_word" (spB C Fit (okW 40 40 0)) []) (c_is_host_word : C8.Cal P w K mg base 3 "is_host_word" (spB C Fit (okW 10 36 0)) []) (c__law_is_word : C8.Cal P w K mg base 42 "_law_is_word" (spLW C 41) [])
    (c__law_rank : C8.Cal P w K mg base 131 "_law_rank" (spLR C 130) []) (c_is_number : C8.Cal P w K mg base 1 "is_number" (spB C (fun _ => True) isNum) []) (c_is_monitor : C8.Cal P w K mg base 2 "is_monitor" (spB C (fun d => ∀ s, d = .str s → s.length ≤ sizeLine) isMon) [])
    (c__law_faulty : C8.Cal P w K mg base 13 "_law_faulty" (spFy C) []) (c__law_refused : C8.Cal P w K mg base 7 "_law_refused" (spRef C) []) (c__law_chain : C8.Cal P w K mg base 132 "_law_chain" (spCh p0) []) (c__law_word : C8.Cal P w K mg base 20 "_law_word" (spWd C 5) [])
    (c__law_stripped : C8.Cal P w K mg base 67 "_law_stripped" (spLS C 60) []) (c__law_same : C8.Cal P w K mg base 61 "_law_same" (spLSame C 60) []) (c_atoms_in : C8.Cal P w K mg base 6 "atoms_in" (spAtomsIn C) []) (c__law_atoms : C8.Cal P w K mg base 122 "_law_atoms" (spLA C 60 60) []) (c_strip : C8.Cal P w K mg base 110 "strip" (spStr C [(p0, qL)] 20) []) (c__law_strippedW : C8.Cal P w K mg base 67 "_law_stripped" (@spLS memoW C 60) []) (c__law_sameW : C8.Cal P w K mg base 61 "_law_same" (@spLSame memoW C 60) []) :
    FnOk P w K mg base C8.CX0 133 f fd ["script"] (spLaw K p0) := by
  refine C8.fn0 F sc_law (fun vs H Q E h => ?_) (fun cdv A outer s H vs Q E hr h => ?_)
  · obtain ⟨a, ns, rfl, _⟩ := h; rfl
  obtain ⟨a, ns, rfl, ha, hns, hP, q⟩ := h
  refine ⟨_, (pss_cons (ps_set (i := 1) sc_law.nd rfl (Or.inl rfl) (C8.pe_c c__law_begin hr (by first | decide | omega) rfl (pa_cons (pv 0) pa_nil)))
      (pss_cons (ps_if (pt_cmpR (op_neD (room64 hr)) (pe_tup (pa_cons (C8.pe_gc rfl T.c_LEAST) (pa_cons (C8.pe_gc rfl T.c_GREATEST) (pa_cons (C8.pe_gc rfl T.c_MOST_CHARACTERS) (pa_cons (C8.pe_gc rfl T.c_MOST_DEEP) (pa_cons (C8.pe_gc rfl T.c_MOST_DEEP_HOST) (pa_cons (C8.pe_gc rfl T.c_MOST_RANK) (pa_cons (C8.pe_gc rfl T.c_MOST_RANK_HOST) pa_nil)))))))) (pe_tup (pa_cons (pe_un un_neg pe_int) (pa_cons pe_int (pa_cons pe_int (pa_cons pe_int (pa_cons pe_int (pa_cons pe_int (pa_cons pe_int pa_nil)))))))) (nomark _)) (pss_one (ps_ret pe_bl)) pss_nil)
      (pss_cons (ps_if (pt_cmpR (op_neKI kI hr.units0) (C8.pe_gc rfl gK) (pe_disp (pps_cons pe_str pe_int (pps_cons pe_str pe_int (pps_cons pe_str pe_int (pps_cons pe_str pe_int (pps_cons pe_str pe_int pps_nil))))) rfl rfl (List.cons_ne_nil _ _) (by decide)) (nomark _)) (pss_one (ps_ret pe_bl)) pss_nil)
      (pss_cons (ps_for PassesOwn.never rfl (pi_range1 rfl T.z_range (pa_cons pe_int pa_nil)) (pg_name (i := 2) sc_law.nd rfl (Or.inl rfl))
      (pss_cons (ps_set (i := 3) sc_law.nd rfl (Or.inl rfl) (C8.pe_c c__law_value hr (by first | decide | omega) rfl (pa_cons (pv 1) (pa_cons pe_int pa_nil))))
      (C8.pss_cut (ps_if (PW.pt (pw_or (pt_not (pt_val (C8.pe_c c__law_agree hr (by first | decide | omega) rfl (pa_cons (C8.pe_c c_is_word hr (by first | decide | omega) rfl (pa_cons (pv 3) pa_nil)) (pa_cons (C8.pe_c c__law_is_word hr (by first | decide | omega) rfl (pa_cons (pv 3) (pa_cons pe_int pa_nil))) pa_nil))))) (pw_or1 (pt_not (pt_val (C8.pe_c c__law_agree hr (by first | decide | omega) rfl (pa_cons (C8.pe_c c_is_host_word hr (by first | decide | omega) rfl (pa_cons (pv 3) pa_nil)) (pa_cons (pe_and (C8.pe_c c__law_is_word hr (by first | decide | omega) rfl (pa_cons (pv 3) (pa_cons pe_int pa_nil))) (pe_one (pe_cmpR op_lt (C8.pe_c c__law_rank hr (by first | decide | omega) rfl (pa_cons (pv 3) pa_nil)) pe_int (nomark _)))) pa_nil)))))))) (pss_one (ps_ret pe_bl)) pss_nil)
      (C8.pss_cut (ps_set (i := 4) sc_law.nd rfl (Or.inl rfl) (pe_and (pe_callB (call_isiA T.cl) rfl T.z_isinstance bt_isinstance (pa_cons (pv 3) (pa_cons (pe_bltn (v := .ty "int") rfl T.z_int bt_int rfl) pa_nil))) (pe_and (pe_not (pe_callB (call_isiA T.cl) rfl T.z_isinstance bt_isinstance (pa_cons (pv 3) (pa_cons (pe_bltn (v := .ty "bool") rfl T.z_bool bt_bool rfl) pa_nil)))) (pe_one (pe_chain op_le op_le (pe_un un_neg pe_int) (pv 3) pe_int)))))
      (C8.pss_cut (ps_set (i := 5) sc_law.nd rfl (Or.inl rfl) (pe_and (pe_callB (call_isiA T.cl) rfl T.z_isinstance bt_isinstance (pa_cons (pv 3) (pa_cons (pe_bltn (v := .ty "str") rfl T.z_str bt_str rfl) pa_nil))) (pe_and (pe_cmpR op_ne (pv 3) pe_str (nomark _)) (pe_one (C8.pe_c c__law_is_word hr (by first | decide | omega) rfl (pa_cons (pv 3) (pa_cons pe_int pa_nil)))))))
      (pss_cons (ps_if (PW.pt (pw_or (pt_not (pt_val (C8.pe_c c__law_agree hr (by first | decide | omega) rfl (pa_cons (C8.pe_c c_is_number hr (by first | decide | omega) rfl (pa_cons (pv 3) pa_nil)) (pa_cons (pv 4) pa_nil))))) (pw_or1 (pt_not (pt_val (C8.pe_c c__law_agree hr (by first | decide | omega) rfl (pa_cons (C8.pe_c c_is_monitor hr (by first | decide | omega) rfl (pa_cons (pv 3) pa_nil)) (pa_cons (pv 5) pa_nil)))))))) (pss_one (ps_ret pe_bl)) pss_nil)
      (pss_cons (ps_set (i := 6) sc_law.nd rfl (Or.inl rfl) (C8.pe_c c__law_faulty hr (by first | decide | omega) rfl (pa_cons (pv 1) pa_nil)))
      (pss_one (ps_if (pt_not (pt_val (C8.pe_c c__law_refused hr (by first | decide | omega) rfl (pa_cons (pe_ix ix_tup (pv 6) pe_int (fun _ _ => rfl)) (pa_cons (pe_ix ix_tup (pv 6) pe_int (fun _ _ => rfl)) pa_nil))))) (pss_one (ps_ret pe_bl)) pss_nil)))))))))
      (pss_cons (ps_if (pt_not (pt_val (C8.pe_c c__law_chain hr (by first | decide | omega) rfl (pa_cons (pv 1) pa_nil)))) (pss_one (ps_ret pe_bl)) pss_nil)
      (pss_cons (ps_set (i := 7) sc_law.nd rfl (Or.inl rfl) (C8.pe_c c__law_word hr (by first | decide | omega) rfl (pa_cons (pv 1) (pa_cons pe_int pa_nil))))
      (C8.pss_cut (ps_set (i := 8) sc_law.nd rfl (Or.inl rfl) (C8.pe_c c__law_pick hr (by first | decide | omega) rfl (pa_cons (pv 1) (pa_cons (pe_lst (pa_cons (pv 7) (pa_cons (C8.pe_c c__law_word hr (by first | decide | omega) rfl (pa_cons (pv 1) (pa_cons pe_int pa_nil))) (pa_cons (C8.pe_c c__law_stripped hr (by first | decide | omega) rfl (pa_cons (pv 7) pa_nil)) pa_nil)))) pa_nil))))
      (pss_cons (ps_if (PW.pt (pw_or (pt_not (pt_val (C8.pe_c c__law_agree hr (by first | decide | omega) rfl (pa_cons (pe_cmpR (op_eqW (n := 4) (N := 60) O o (hr.mono (by decide))) (pv 7) (pv 8) (nomark _)) (pa_cons (C8.pe_c c__law_same hr (by first | decide | omega) rfl (pa_cons (pv 7) (pa_cons (pv 8) pa_nil))) pa_nil))))) (pw_or1 (pt_not (pt_val (C8.pe_c c__law_agree hr (by first | decide | omega) rfl (pa_cons (pe_cmpR (op_neW (n := 4) (N := 60) O o (hr.mono (by decide))) (pv 7) (pv 8) (nomark _)) (pa_cons (pe_not (C8.pe_c c__law_same hr (by first | decide | omega) rfl (pa_cons (pv 7) (pa_cons (pv 8) pa_nil)))) pa_nil)))))))) (pss_one (ps_ret pe_bl)) pss_nil)
      (pss_cons (ps_set (i := 9) sc_law.nd rfl (Or.inl rfl) (C8.pe_c c_atoms_in hr (by first | decide | omega) rfl (pa_cons (pe_tup (pa_cons (pv 7) (pa_cons (pv 8) pa_nil))) pa_nil)))
      (pss_cons (ps_set (i := 10) sc_law.nd rfl (Or.inl rfl) (C8.pe_c c__law_atoms hr (by first | decide | omega) rfl (pa_cons (pe_tup (pa_cons (pv 7) (pa_cons (pv 8) pa_nil))) (pa_cons (pe_lst pa_nil) pa_nil))))
      (pss_cons (ps_if (PW.pt (pw_or (pt_not (pt_val (pe_callB (call_isiA T.cl) rfl T.z_isinstance bt_isinstance (pa_cons (pv 9) (pa_cons (pe_bltn (v := .ty "list") rfl T.z_list bt_list rfl) pa_nil))))) (pw_or1 (pt_not (pt_val (C8.pe_c c__law_same hr (by first | decide | omega) rfl (pa_cons (pe_callTy call_tuple_of rfl T.z_tuple bt_tuple (pa_cons (pv 9) pa_nil)) (pa_cons (pe_callTy call_tuple_of rfl T.z_tuple bt_tuple (pa_cons (pv 10) pa_nil)) pa_nil)))))))) (pss_one (ps_ret pe_bl)) pss_nil)
      (pss_one (ps_ret (pe_and (C8.pe_c c__law_sameW hr (by first | decide | omega) rfl (pa_cons (C8.pe_c c_strip hr (by first | decide | omega) rfl (pa_cons (pv 7) pa_nil)) (pa_cons (C8.pe_c c__law_strippedW hr (by first | decide | omega) rfl (pa_cons (pv 7) pa_nil)) pa_nil))) (pe_one (C8.pe_c c__law_sameW hr (by first | decide | omega) rfl (pa_cons (C8.pe_c c_strip hr (by first | decide | omega) rfl (pa_cons (C8.pe_c c_strip hr (by first | decide | omega) rfl (pa_cons (pv 8) pa_nil)) pa_nil)) (pa_cons (C8.pe_c c__law_strippedW hr (by first | decide | omega) rfl (pa_cons (pv 8) pa_nil)) pa_nil)))))))))))))))))), ?_⟩
  refine ⟨_, rfl, a, ns, rfl, ha, hns, fun H1 d c s1 hd0 hc0 hD0 => ?_⟩
  have hD : DrP p0 H1 d c := ⟨hD0, s1 _ _ hP⟩
  refine ⟨(by show 7 ≤ sizeLine; decide), fun u1 h1 => ⟨_, rfl, (by show 7 ≤ sizeLine; decide), fun u2 h2 => ?_⟩⟩
  have sA := same_new (o := .tup [.int (-2147483648), .int 2147483647, .int 24, .int 40, .int 10, .int 40, .int 36]) h1
  have sB := same_new (o := .tup [.int (-2147483648), .int 2147483647, .int 24, .int 40, .int 10, .int 40, .int 36]) h2
  have eA := sB _ _ (upd_same (H := H1) (a := u1) (o := .tup [.int (-2147483648), .int 2147483647, .int 24, .int 40, .int 10, .int 40, .int 36]))
  have eB := upd_same (H := upd H1 u1 (.tup [.int (-2147483648), .int 2147483647, .int 24, .int 40, .int 10, .int 40, .int 36])) (a := u2) (o := .tup [.int (-2147483648), .int 2147483647, .int 24, .int 40, .int 10, .int 40, .int 36])
  have hD2 := (hD.same sA).same sB
  refine ⟨.tuple [.int (-2147483648), .int 2147483647, .int 24, .int 40, .int 10, .int 40, .int 36], .tuple [.int (-2147483648), .int 2147483647, .int 24, .int 40, .int 10, .int 40, .int 36], .tup (SqT.of eA) (.cons (.int _) (.cons (.int _) (.cons (.int _) (.cons (.int _) (.cons (.int _) (.cons (.int _) (.cons (.int _) .nil))))))), .tup (SqT.of eB) (.cons (.int _) (.cons (.int _) (.cons (.int _) (.cons (.int _) (.cons (.int _) (.cons (.int _) (.cons (.int _) .nil))))))), rfl, rfl, _, rfl, bF (by simp [PyData.eqv, PyData.eqvAll]) ?_⟩
  generalize upd (upd H1 u1 (.tup [.int (-2147483648), .int 2147483647, .int 24, .int 40, .int 10, .int 40, .int 36])) u2 (.tup [.int (-2147483648), .int 2147483647, .int 24, .int 40, .int 10, .int 40, .int 36]) = H2 at *
  intro p hp
  refine ⟨upd_same, [(.inr "token", .int 3), (.inr "challenge", .int 2), (.inr "seal", .int 4), (.inr "ticket", .int 6), (.inr "page", .int 4)], rfl, by decide, ?_⟩
  rw [upd_upd, show mergeK [] [((Sum.inr "token" : Key), V.int 3), (.inr "challenge", .int 2), (.inr "seal", .int 4), (.inr "ticket", .int 6), (.inr "page", .int 4)] = [(.inr "token", .int 3), (.inr "challenge", .int 2), (.inr "seal", .int 4), (.inr "ticket", .int 6), (.inr "page", .int 4)] by decide +kernel]
  have sC := same_new (o := .dK [(.inr "token", .int 3), (.inr "challenge", .int 2), (.inr "seal", .int 4), (.inr "ticket", .int 6), (.inr "page", .int 4)]) hp
  refine ⟨p, _, rfl, rfl, upd_same, rfl, ?_, _, rfl, bF rfl ?_⟩
  · intro q hq
    simp only [kiV, kinds5, List.map_cons, List.map_nil, List.mem_cons, List.not_mem_nil, or_false] at hq
    rcases hq with rfl | rfl | rfl | rfl | rfl <;> exact ⟨by decide +kernel, rfl⟩
  have hD3 := hD2.same sC
  generalize upd H2 p (.dK [(.inr "token", .int 3), (.inr "challenge", .int 2), (.inr "seal", .int 4), (.inr "ticket", .int 6), (.inr "page", .int 4)]) = H3 at *
  refine ⟨6, rfl, by decide, by decide, ?_⟩
  refine for_it (walk_range (lo := 0) (n := 6)) (fun i σ H' => ∃ v2 v3 v4 v5 v6, σ = [some (.ref a), some (.ref d), v2, v3, v4, v5, v6, none, none, none, none] ∧ DrP p0 H' d c) ⟨none, none, none, none, none, rfl, hD3⟩ (fun _ _ _ _ _ => trivial) ?_ ?_
  · rintro i y σ H4 H5 hi ⟨v2, v3, v4, v5, v6, rfl, hD4⟩ ⟨rfl, rfl⟩
    refine ⟨_, rfl, d, c, 4, rfl, by decide, hD4.h, fun H5 v wd hD5 b5 iv0 va => ?_⟩
    have hD5 := hD4.step hD5 b5
    have iv := iv0.same nw_le
    have vz : sz wd ≤ 1000000 := Nat.le_trans va.z (by decide)
    have vu := va.u
    have fit : Fit wd := ⟨vz, va.t⟩
    refine ⟨fun σ' H' => σ' = [some (.ref a), some (.ref d), some (.int (0 + (i : Int))), some v, v4, v5, v6, none, none, none, none] ∧ Same H5 H', ?_, ?_⟩
    · refine ⟨_, rfl, v, wd, rfl, iv, fit, fun H6 s6 => ⟨_, rfl, v, 40, wd, rfl, by decide, iv.same s6, fit, fun H7 s7 => ⟨_, _, rfl, _, rfl, ?_⟩⟩⟩
      rw [lawW_ok wd 40 40 0 40 rfl (Nat.le_trans va.r (by decide))]
      refine bF (by simp) ⟨_, rfl, v, wd, rfl, (iv.same s6).same s7, fit, fun H8 s8 => ⟨_, rfl, v, 10, wd, rfl, by decide, ((iv.same s6).same s7).same s8, fit, fun H9 s9 => ⟨_, rfl, ?_⟩⟩⟩
      rw [host_ok wd (show 0 + 10 = 10 from rfl)]
      cases hl : lawW 10 wd with
      | false => exact iteF ⟨_, _, rfl, _, rfl, bF (by simp) ⟨rfl, ((s6.trans s7).trans s8).trans s9⟩⟩
      | true =>
        refine iteT ⟨_, rfl, v, wd, rfl, (((iv.same s6).same s7).same s8).same s9, by omega, vz, fun Ha sa => ⟨_, _, rfl, rfl, _, _, rfl, _, rfl, bF ?_ ⟨rfl, (((s6.trans s7).trans s8).trans s9).trans sa⟩⟩⟩
        have : decide (rank wd ≤ 36) = decide (((rank wd : Nat) : Int) < 37) := decide_eq_decide.mpr (by omega)
        rw [this]; simp
    rintro σ' H6 ⟨rfl, s6⟩
    have iv := iv.same s6
    refine ⟨fun σ' H' => σ' = [some (.ref a), some (.ref d), some (.int (0 + (i : Int))), some v, some (.bl (isNum wd)), v5, v6, none, none, none, none] ∧ H6 = H', ?_, ?_⟩
    · refine ⟨_, rfl, v, wd, _, _, _, rfl, iv, .ty _, kitIn T wd, _, rfl, ?_⟩
      cases iv with
      | int j =>
        refine iteT ⟨_, rfl, _, .int j, _, _, _, rfl, .int j, .ty _, kitBo T _, _, rfl, _, rfl, iteT ⟨2147483648, rfl, _, rfl, _, _, rfl, rfl, _, rfl, ite2 (fun c => ?_) (fun c => ?_)⟩⟩
        · refine ⟨_, _, rfl, rfl, ?_⟩
          have e : isNum (.int j) = decide (j ≤ 2147483647) := by simp only [isNum, numOk]; rw [show decide (-2147483648 ≤ j) = true from c, Bool.true_and]
          rw [e]; exact ⟨rfl, rfl⟩
        · have e : isNum (.int j) = false := by simp only [isNum, numOk]; rw [show decide (-2147483648 ≤ j) = false by simpa using c, Bool.false_and]
          rw [e]; exact ⟨rfl, rfl⟩
      | bl z => exact iteT ⟨_, rfl, _, .bl z, _, _, _, rfl, .bl z, .ty _, kitBo T _, _, rfl, _, rfl, iteF ⟨rfl, rfl⟩⟩
      | _ => exact iteF ⟨rfl, rfl⟩
    rintro σ' H' ⟨rfl, rfl⟩
    refine ⟨fun σ' H' => σ' = [some (.ref a), some (.ref d), some (.int (0 + (i : Int))), some v, some (.bl (isNum wd)), some (.bl (nmD wd)), v6, none, none, none, none] ∧ Same H6 H', ?_, ?_⟩
    · refine ⟨_, rfl, v, wd, _, _, _, rfl, iv, .ty _, kitSt T wd, _, rfl, ?_⟩
      have iv1 := iv
      cases iv with
      | str z =>
        refine iteT ⟨_, rfl, rfl, _, rfl, ?_⟩
        by_cases cz : V.str z = V.str ""
        · rw [decide_eq_true cz]
          have e : nmD (.str z) = false := by simp only [nmD]; rw [decide_eq_true cz]; rfl
          rw [e]; exact iteF ⟨rfl, Same.refl _⟩
        · rw [decide_eq_false cz]
          have e : nmD (.str z) = lawW 40 (.str z) := by simp only [nmD]; rw [decide_eq_false cz]; rfl
          rw [e]
          exact iteT ⟨_, rfl, _, 40, _, rfl, by decide, iv1, fit, fun H7 s7 => ⟨rfl, s7⟩⟩
      | _ => exact iteF ⟨rfl, Same.refl _⟩
    rintro σ' H7 ⟨rfl, s7⟩
    have iv := iv.same s7
    have txs : ∀ s, wd = .str s → s.length ≤ sizeLine := fun s hs => by
      have := va.t
      rw [hs] at this; simpa [txl] using this
    refine ⟨_, rfl, v, wd, rfl, iv, trivial, fun H8 s8 => ⟨_, rfl, _, _, rfl, _, rfl, bF (by simp) ⟨_, rfl, v, wd, rfl, iv.same s8, txs, fun H9 s9 => ⟨_, rfl, _, _, rfl, _, rfl, bF (by rw [nmD_mon]; simp) ?_⟩⟩⟩⟩
    have hD9 := (((hD5.same s6).same s7).same s8).same s9
    refine ⟨_, rfl, d, c, rfl, hD9.h, fun Ha x hDa ba row => ?_⟩
    have hDa := hD9.step hDa ba
    obtain ⟨ra, xk, xt, dk, dt, rfl, e, ik, it, hok, hz, bad⟩ := row
    refine ⟨_, rfl, ra, _, 0, xk, rfl, rfl, SqT.of e, atI_nat (j := 0) rfl, _, rfl, ra, _, 1, xt, rfl, rfl, SqT.of e, atI_nat (j := 1) rfl, xk, xt, dk, dt, rfl, ik, it, hok, hz, .inl bad, fun Hb sb => ⟨_, rfl, bF rfl ?_⟩⟩
    exact ⟨_, _, _, _, _, rfl, hDa.same sb⟩
  rintro σ H4 ⟨v2, v3, v4, v5, v6, rfl, hD4⟩
  refine ⟨_, rfl, d, c, rfl, hD4, fun H5 hD5 => ⟨_, rfl, bF rfl ?_⟩⟩
  refine ⟨_, rfl, d, c, 4, rfl, by decide, by decide, hD5.h, fun H6 v wd hD6 b6 iv hw => ?_⟩
  have hD6 := hD5.step hD6 b6
  have pw := hw.part (by decide)
  have fw := hw.2
  have zw : sz wd ≤ 20000 := Nat.le_trans hw.1.z (by decide)
  refine ⟨fun σ' H' => ∃ v' wd', σ' = [some (.ref a), some (.ref d), v2, v3, v4, v5, v6, some v, some v', none, none] ∧ Is C H' v wd ∧ Is C H' v' wd' ∧ PartOk wd' ∧ full wd' ≤ 13 ∧ sz wd' ≤ 20000 ∧ H' p0 = some (.tbl #[]), ?_, ?_⟩
  · refine ⟨_, rfl, _, rfl, _, rfl, d, c, 3, rfl, by decide, by decide, hD6.h, fun H7 x xd hD7 b7 ix hx => ⟨_, rfl, v, wd, rfl, Is.keep (hD6.keep b7) (wrd_cln pw.w) iv, by omega, pw, fun H8 z s8 iz => ⟨(by show 3 ≤ sizeLine; decide), fun l hl => pick_newP ((hD6.step hD7 b7).same s8) hl (by show 0 < 3; decide) (by show 3 < 1000000; decide) fun H9 u hD9 b9 hu => ?_⟩⟩⟩
    have hD8 := (hD6.step hD7 b7).same s8
    have iv8 := (Is.keep (hD6.keep b7) (wrd_cln pw.w) iv).same s8
    have px := hx.part (by decide)
    have k9 := hD8.keep (C := C) b9
    simp only [List.mem_cons, List.not_mem_nil, or_false] at hu
    rcases hu with rfl | rfl | rfl
    · exact ⟨_, wd, rfl, Is.keep k9 (wrd_cln pw.w) iv8, Is.keep k9 (wrd_cln pw.w) iv8, pw, by omega, zw, hD9.p⟩
    · exact ⟨_, xd, rfl, Is.keep k9 (wrd_cln pw.w) iv8, Is.keep k9 (wrd_cln px.w) (ix.same s8), px, by have := hx.2; omega, Nat.le_trans hx.1.z (by decide), hD9.p⟩
    · exact ⟨_, stripD wd, rfl, Is.keep k9 (wrd_cln pw.w) iv8, Is.keep k9 (wrd_cln pw.strip.w) iz, pw.strip, by have := full_strip wd; omega, Nat.le_trans (wrd_strip wd pw.w).2 zw, hD9.p⟩
  rintro σ' H7 ⟨v', wd', rfl, iv, iv', pw', fw', zw', hP7⟩
  have dw := dep_full wd
  have dw' := dep_full wd'
  have w2 : W2 C H7 v v' wd wd' := ⟨iv, iv', pw.w, pw'.w, pw.z, pw'.z⟩
  refine ⟨_, rfl, _, rfl, wd, wd', w2, by omega, fun H8 s8 => ⟨_, rfl, _, rfl, v, v', wd, wd', rfl, iv.same s8, iv'.same s8, by omega, pw.w, pw'.w, pw.z, fun H9 s9 => ⟨_, _, rfl, _, rfl, bF (by simp) ?_⟩⟩⟩
  have s89 := s8.trans s9
  refine ⟨_, rfl, _, rfl, wd, wd', w2.same s89, by omega, fun Ha sa => ⟨_, rfl, _, rfl, v, v', wd, wd', rfl, (iv.same s89).same sa, (iv'.same s89).same sa, by omega, pw.w, pw'.w, pw.z, fun Hb sb => ⟨_, rfl, _, _, rfl, _, rfl, bF (by simp) ?_⟩⟩⟩
  have s7b := (s89.trans sa).trans sb
  have hPb := s7b _ _ hP7
  have iv := iv.same s7b
  have iv' := iv'.same s7b
  -- told
  refine ⟨_, rfl, _, rfl, (by show 2 ≤ sizeLine; decide), fun t ht => ?_⟩
  have sc := same_new (o := .tup [v, v']) ht
  have it : Is C (upd Hb t (.tup [v, v'])) (.ref t) (.tup [wd, wd']) := new_tup ht (.cons iv (.cons iv' .nil))
  have iv := iv.same sc
  have iv' := iv'.same sc
  have hPc := sc _ _ hPb
  generalize upd Hb t (.tup [v, v']) = Hc' at *
  have wT : wrd (.tup [wd, wd']) = true := by simp only [wrd, wrdL, pw.w, pw'.w]; rfl
  have zT : sz (.tup [wd, wd']) ≤ 50000 := by simp only [sz, szL]; omega
  have uT : full (.tup [wd, wd']) ≤ 14 := by simp only [full, fullL]; omega
  have tT : txl (.tup [wd, wd']) := by simp only [txl, txlL]; exact ⟨pw.t, pw'.t, trivial⟩
  have pin := places_in (.tup [wd, wd'])
  obtain ⟨A, hA⟩ : ∃ A, A = addAll [] (places (.tup [wd, wd'])) := ⟨_, rfl⟩
  have hAa : ∀ a ∈ A, wrd a = true ∧ full a ≤ 14 ∧ sz a ≤ 50000 := fun a ha => by
    rw [hA] at ha
    have ha : a ∈ places (.tup [wd, wd']) := by
      rcases addAll_mem ha with h | h
      · cases h
      · exact h
    have := pin a ha
    exact ⟨this.1 wT, by omega, by omega⟩
  refine ⟨.ref t, _, rfl, it, ⟨by omega, tT⟩, fun a ha => (pin a ha).1 wT, fun Hd p xs sd hp hp' ia => ?_⟩
  rw [← hA] at ia
  have hPd := sd _ _ hPc
  have iv := iv.same sd
  have iv' := iv'.same sd
  refine ⟨_, rfl, _, rfl, (by show 2 ≤ sizeLine; decide), fun t2 ht2 => ⟨(by show 0 ≤ sizeLine; decide), fun l hl => ?_⟩⟩
  have se := same_new (o := .tup [v, v']) ht2
  have it2 : Is C (upd Hd t2 (.tup [v, v'])) (.ref t2) (.tup [wd, wd']) := new_tup ht2 (.cons iv (.cons iv' .nil))
  have iv := iv.same se
  have iv' := iv'.same se
  have ia := ia.same se
  have hp' := se _ _ hp'
  have hPe := se _ _ hPd
  generalize upd Hd t2 (.tup [v, v']) = He at *
  have sf := same_new (o := .lst []) hl
  have hl' : upd He l (.lst []) l = some (.lst []) := upd_same
  have npl : p ≠ l := ne_of_none hp' hl
  have iv := iv.same sf
  have iv' := iv'.same sf
  have ia := ia.same sf
  have hp' := sf _ _ hp'
  have it2 := it2.same sf
  have hPf := sf _ _ hPe
  generalize upd He l (.lst []) = Hf at *
  have dT := dep_full (.tup [wd, wd'])
  refine ⟨.ref t2, l, [], [], _, rfl, hl', .nil, it2, by omega, wT, fun a ha => ?_, by simp only [List.length_nil]; omega, fun Hg ys but hlg iy => ?_⟩
  · have := pin a (by simpa using ha)
    exact ⟨this.1 wT, by omega, by omega⟩
  rw [← hA] at iy
  have kg := But.keep (C := C) hl' but
  have hPg := but _ _ hPf (fun z => by rw [z, hl'] at hPf; cases hPf)
  have cA : clnL A = true := clnL_iff.mpr fun a ha => wrd_cln (hAa a ha).1
  have ia := IsA.keep kg cA ia
  have iv := Is.keep kg (wrd_cln pw.w) iv
  have iv' := Is.keep kg (wrd_cln pw'.w) iv'
  have hp' := but _ _ hp' npl
  have lA : A.length ≤ 50000 := by
    have h1 := addAll_len (places (.tup [wd, wd'])) []
    have h2 := places_len (.tup [wd, wd'])
    rw [hA]
    simp only [List.length_nil] at h1
    omega
  refine ⟨_, rfl, .ref p, .lst A, _, _, _, rfl, .lst hp' ia, .ty _, kitLi T A, _, rfl, bF rfl ?_⟩
  refine ⟨_, rfl, p, xs, rfl, .inl ⟨SqL.of hp', fun t3 h3 => ?_⟩⟩
  have sh := same_new (o := .tup xs) h3
  have i3 : Is C (upd Hg t3 (.tup xs)) (.ref t3) (.tup A) := new_tup h3 ia
  have iv := iv.same sh
  have iv' := iv'.same sh
  have iy := iy.same sh
  have hlg := sh _ _ hlg
  have hPh := sh _ _ hPg
  generalize upd Hg t3 (.tup xs) = Hh at *
  refine ⟨_, rfl, l, ys, rfl, .inl ⟨SqL.of hlg, fun t4 h4 => ?_⟩⟩
  have si := same_new (o := .tup ys) h4
  have i4 : Is C (upd Hh t4 (.tup ys)) (.ref t4) (.tup A) := new_tup h4 iy
  have iv := iv.same si
  have iv' := iv'.same si
  have i3 := i3.same si
  have hPi := si _ _ hPh
  generalize upd Hh t4 (.tup ys) = Hi at *
  have wA : wrd (.tup A) = true := by simp only [wrd]; exact wrdL_iff.mpr fun a ha => (hAa a ha).1
  have zA : sz (.tup A) ≤ 1000000 := by
    simp only [sz]
    have h1 : szL A ≤ szL (places (.tup [wd, wd'])) := by
      rw [hA]
      have h0 := addAll_sz (places (.tup [wd, wd'])) []
      simp only [szL] at h0
      omega
    have h2 := places_sz (.tup [wd, wd'])
    omega
  have uA : full (.tup A) ≤ 15 := by simp only [full]; have := fullL_all (ds := A) (b := 14) fun a ha => (hAa a ha).2.1; omega
  refine ⟨.ref t3, .ref t4, .tup A, .tup A, rfl, i3, i4, by omega, wA, wA, zA, fun Hj sj => ⟨_, rfl, bF (by rw [eqD_refl wA]; rfl) ?_⟩⟩
  have iv := iv.same sj
  have iv' := iv'.same sj
  -- strip
  have hPj := sj _ _ hPi
  have hT : Tabs [(p0, qL)] Hj := fun p hp => by rw [List.mem_singleton.mp hp]; exact TabS.nil hPj
  have jv := Is.isS iv
  have jv' := Is.isS iv'
  have pt : Pt 20 wd := { pw with f := by omega }
  have pt' : Pt 20 wd' := { pw' with f := by omega }
  have ps := pw.strip
  have ps' := pw'.strip
  have us := full_strip wd
  have us' := full_strip wd'
  have pts' : Pt 20 (stripD wd') := { ps' with f := by omega }
  refine ⟨_, rfl, v, wd, rfl, jv, pt, hT, fun Hk z1 sk iz1 => ⟨_, rfl, v, wd, rfl, (sk.is _ _ pw.w jv).is, by omega, pw, fun Hl z2 sl iz2 => ?_⟩⟩
  refine ⟨z1, z2, _, _, rfl, (iz1.same sl).is, iz2, by omega, ps.w, ps.w, ps.z, fun Hm sm => ⟨_, rfl, ?_⟩⟩
  rw [eqD_refl ps.w]
  have sjm : StrM C [(p0, qL)] Hj Hm := (sk.trans (StrM.same sl)).trans (StrM.same sm)
  have hTm := sjm.ta hT
  refine iteT ⟨_, rfl, v', wd', rfl, sjm.is _ _ pw'.w jv', pt', hTm, fun Hn z3 sn iz3 => ⟨z3, _, rfl, iz3, pts', sn.ta hTm, fun Ho z4 so iz4 => ⟨_, rfl, v', wd', rfl, (((sjm.trans sn).trans so).is _ _ pw'.w jv').is, by omega, pw', fun Hp z5 sp iz5 => ?_⟩⟩⟩
  rw [strip_twice wd' pw'.w] at iz4
  refine ⟨z4, z5, _, _, rfl, (iz4.same sp).is, iz5, by omega, ps'.w, ps'.w, ps'.z, fun Hq sq => ?_⟩
  rw [eqD_refl ps'.w]
  exact q Hq
end
end Hc

namespace Hc
open PySem PySem.Spec PyProof.Rows L2 Hr LamX
local instance iwS7 : Memo := memoW
section
variable {P : Program} {w : World} {K : PySem.W.Frag} {mg : Str → Option Value} {base : Heap} {C : Addr}
/-- what is wanted of atoms that have noted something -/
theorem allW {f1 f2 f3 f4 f5 f6 f7 f8 f9 f10 f11 f12 f13 f14 fS fI fQ fT cS Ps : Addr} {d1 d2 d3 d4 d5 d6 d7 d8 d9 d10 d11 d12 d13 d14 dI dQ dT : FuncData} {oc dV kV doc pm ct : Value} {od an : Option Addr} {osl : Array (Option Value)}
    (F1 : C8.Def K mg "is_number" s_is_number f1 d1) (b1 : Binds K d1 ["value"] []) (F2 : C8.Def K mg "is_text" s_is_text f2 d2) (b2 : Binds K d2 ["value"] [])
    (F3 : C8.Def K mg "_is_within" s__is_within f3 d3) (b3 : Binds K d3 ["value", "most_deep", "most_rank"] []) (F4 : C8.Def K mg "is_word" s_is_word f4 d4) (b4 : Binds K d4 ["value"] [])
    (F5 : C8.Def K mg "_places_of_atoms" s__places_of_atoms f5 d5) (b5 : Binds K d5 ["value"] []) (F6 : C8.Def K mg "rank_of" s_rank_of f6 d6) (b6 : Binds K d6 ["word"] [])
    (F7 : C8.Def K mg "_rank_of_atom" s__rank_of_atom f7 d7) (b7 : Binds K d7 ["kind", "term"] []) (F8 : C8.Def K mg "_most_rank" s__most_rank f8 d8) (b8 : Binds K d8 ["kind"] [])
    (F9 : C8.Def K mg "_has_form" s__has_form f9 d9) (b9 : Binds K d9 ["part", "form"] []) (F10 : C8.Def K mg "_is_term" s__is_term f10 d10) (b10 : Binds K d10 ["kind", "term"] [])
    (FA : C8.Def K mg "_strip_atom" s__strip_atom f11 d11) (bA : Binds K d11 ["atom"] []) (FW : C8.Def K mg "with_atoms" s_with_atoms f12 d12) (bW : Binds K d12 ["value", "change"] [])
    (F13 : C8.Def K mg "_law_stripped" s__law_stripped f13 d13) (b13 : Binds K d13 ["word"] []) (F14 : C8.Def K mg "_law_same" s__law_same f14 d14) (b14 : Binds K d14 ["one", "other"] [])
    (lk : K.lookup fS = some ⟨oc, od, .func (PySem.W.fnOf "strip" "strip" (C8.fnArgs s_strip) (C8.fnBody s_strip) (C8.fnScope s_strip) dV kV doc pm an (.ref cS) ct), osl⟩) (hcd : PySem.W.codeIn K (.ref cS) "strip" = true) (hm : mg "strip" = some (.ref fS)) (kp : PySem.W.keepIn K (.ref fS) = true)
    (bS : Binds K (PySem.W.fnOf "strip" "strip" (C8.fnArgs s_strip) (C8.fnBody s_strip) (C8.fnScope s_strip) dV kV doc pm an (.ref cS) ct) ["word"] []) (TB : TabB base mg cS Ps) (T : Txt K mg w C) (hC : mg "Atom" = some (.ref C))
    (mk : Mk K C fI) (FI : C8.Fun K "__init__" "Atom.__init__" s_Atom___init__ fI dI) (bI : Binds K dI ["self", "kind", "term"] [])
    (meQ : Meth K C "is_same" fQ) (FQ : C8.Fun K "is_same" "Atom.is_same" s_Atom_is_same fQ dQ) (bQ : Binds K dQ ["self", "other"] [])
    (meT : Meth K C "stripped" fT) (FT : C8.Fun K "stripped" "Atom.stripped" s_Atom_stripped fT dT) (bT : Binds K dT ["self"] []) :
    C8.Cal P w K mg base 110 "strip" (spStr C [(Ps, qL)] 20) [] ∧ C8.Cal P w K mg base 67 "_law_stripped" (spLS C 60) [] ∧ C8.Cal P w K mg base 61 "_law_same" (spLSame C 60) [] := by
  have c1 := ok_is_number (P := P) (w := w) (base := base) F1 b1 T
  have c2 := ok_is_text (P := P) (w := w) (base := base) F2 b2 T
  have c3 := ok__is_within (P := P) (w := w) (base := base) F3 b3 T c1 c2
  have c4 := ok_is_word (P := P) (w := w) (base := base) F4 b4 T c3
  have c5 := ok__places_of_atoms (P := P) (w := w) (base := base) F5 b5 T
  have c6 := ok_rank_of (P := P) (w := w) (base := base) F6 b6 T c5
  have c7 := ok__rank_of_atom (P := P) (w := w) (base := base) F7 b7 T c6
  have c8 := ok__most_rank (P := P) (w := w) (base := base) F8 b8 T
  have c9 := ok__has_form (P := P) (w := w) (base := base) F9 b9 T
  have c10 := ok__is_term (P := P) (w := w) (base := base) F10 b10 T c4 c9
  have kA := ok_init (P := P) (w := w) (base := base) mk hC FI bI T c10 c7 c8
  have cP := okS__places_of_atoms (P := P) (w := w) (base := base) F5 b5 T
  have mQ := ok_is_same (P := P) (w := w) (base := base) meQ T FQ bQ
  have cs := (strips (P := P) (w := w) (base := base) FA bA FW bW lk hcd hm kp bS TB T meT FT bT kA cP mQ 20).2
  exact ⟨cs, ok__law_stripped (P := P) (w := w) (base := base) F13 b13 T kA 60, ok__law_same (P := P) (w := w) (base := base) F14 b14 T 60⟩
end
end Hc

namespace Hc
open PySem PySem.Spec PyProof.Rows L2 Hr
local instance iwY7 : Memo := memo0
theorem all_mk {l : PySem.W.OpenLaw} {w : World} {K : PySem.W.Frag} {h : Heap} {mg : Str → Option Value} {fa C N E0 Kd Fo tt1 tt2 tt3 tt4 tt5 cS Ps f1 f2 f3 f4 f5 f6 f7 f8 f9 f10 f11 f12 f13 f14 f15 f16 f17 f18 f19 f20 f21 f22 f23 f24 f25 f26 f27 f28 f29 f30 f31 f32 f33 f34 f35 f36 f37 f38 f39 : Addr} (X : K.In h) (G : h.Ns mainGlobals mg) (hfa : mg "law" = some (.ref fa)) (hTab : h.get? Ps = some (PySem.W.tabObj #[]))
    {od1 od2 od3 od4 od5 od6 od7 od8 od9 od10 od11 od12 od13 od14 od15 od16 od17 od18 od19 od20 od21 od22 od23 od24 od25 od26 od27 od28 od29 od30 od31 od32 od33 od34 od35 od36 od37 od38 od39 an1 an2 an3 an4 an5 an6 an7 an8 an9 an10 an11 an12 an13 an14 an15 an16 an17 an18 an19 an20 an21 an22 an23 an24 an25 an26 an27 an28 an29 an30 an31 an32 an33 an34 an35 an36 an37 an38 an39 : Option Addr} {sl1 sl2 sl3 sl4 sl5 sl6 sl7 sl8 sl9 sl10 sl11 sl12 sl13 sl14 sl15 sl16 sl17 sl18 sl19 sl20 sl21 sl22 sl23 sl24 sl25 sl26 sl27 sl28 sl29 sl30 sl31 sl32 sl33 sl34 sl35 sl36 sl37 sl38 sl39 : Array (Option Value)} {oc1 oc2 oc3 oc4 oc5 oc6 oc7 oc8 oc9 oc10 oc11 oc12 oc13 oc14 oc15 oc16 oc17 oc18 oc19 oc20 oc21 oc22 oc23 oc24 oc25 oc26 oc27 oc28 oc29 oc30 oc31 oc32 oc33 oc34 oc35 oc36 oc37 oc38 oc39 kV1 kV2 kV3 kV4 kV5 kV6 kV7 kV8 kV9 kV10 kV11 kV12 kV13 kV14 kV15 kV16 kV17 kV18 kV19 kV20 kV21 kV22 kV23 kV24 kV25 kV26 kV27 kV28 kV29 kV30 kV31 kV32 kV33 kV34 kV35 kV36 kV37 kV38 kV39 dc1 dc2 dc3 dc4 dc5 dc6 dc7 dc8 dc9 dc10 dc11 dc12 dc13 dc14 dc15 dc16 dc17 dc18 dc19 dc20 dc21 dc22 dc23 dc24 dc25 dc26 dc27 dc28 dc29 dc30 dc31 dc32 dc33 dc34 dc35 dc36 dc37 dc38 dc39 pm1 pm2 pm3 pm4 pm5 pm6 pm7 pm8 pm9 pm10 pm11 pm12 pm13 pm14 pm15 pm16 pm17 pm18 pm19 pm20 pm21 pm22 pm23 pm24 pm25 pm26 pm27 pm28 pm29 pm30 pm31 pm32 pm33 pm34 pm35 pm36 pm37 pm38 pm39 cd1 cd2 cd3 cd4 cd5 cd6 cd7 cd8 cd9 cd10 cd11 cd12 cd13 cd14 cd15 cd16 cd18 cd19 cd20 cd21 cd22 cd23 cd24 cd25 cd26 cd27 cd28 cd29 cd30 cd31 cd32 cd33 cd34 cd35 cd36 cd37 cd38 cd39 ct1 ct2 ct3 ct4 ct5 ct6 ct7 ct8 ct9 ct10 ct11 ct12 ct13 ct14 ct15 ct16 ct17 ct18 ct19 ct20 ct21 ct22 ct23 ct24 ct25 ct26 ct27 ct28 ct29 ct30 ct31 ct32 ct33 ct34 ct35 ct36 ct37 ct38 ct39 : Value}
    {hh0 hh1 hh2 hh3 hh4 : Int} {kt0 vt0 kt1 vt1 kt2 vt2 kt3 vt3 kt4 vt4 : Tok} {nK : Nat}
    {tLEAST tGREATEST tMOST_CHARACTERS tMOST_DEEP tMOST_DEEP_HOST tMOST_RANK tMOST_RANK_HOST : Tok} {esF : Array DictEntry} {nF : Nat}
    {utt1_0 utt1_1 utt1_2 utt2_0 utt2_1 utt3_0 utt3_1 utt3_2 utt3_3 utt4_0 utt4_1 utt4_2 utt4_3 utt5_0 utt5_1 utt5_2 utt5_3 utt5_4 utt5_5 : Tok} {ntt1 ntt2 ntt3 ntt4 ntt5 : Nat} {dtt1 dtt2 dtt3 dtt4 dtt5 : Option Addr} {stt1 stt2 stt3 stt4 stt5 : Array (Option Value)}
    (a1 : PySem.W.nsIn K mainGlobals "is_number" = some (some (.ref f1)))
    (l1 : K.lookup f1 = some ⟨oc1, od1, .func (PySem.W.fnOf "is_number" "is_number" (C8.fnArgs s_is_number) (C8.fnBody s_is_number) (C8.fnScope s_is_number) .none kV1 dc1 pm1 an1 cd1 ct1), sl1⟩)
    (c1 : PySem.W.codeIn K cd1 "is_number" = true)
    (k1 : PySem.W.keepIn K (.ref f1) = true)
    (a2 : PySem.W.nsIn K mainGlobals "is_text" = some (some (.ref f2)))
    (l2 : K.lookup f2 = some ⟨oc2, od2, .func (PySem.W.fnOf "is_text" "is_text" (C8.fnArgs s_is_text) (C8.fnBody s_is_text) (C8.fnScope s_is_text) .none kV2 dc2 pm2 an2 cd2 ct2), sl2⟩)
    (c2 : PySem.W.codeIn K cd2 "is_text" = true)
    (k2 : PySem.W.keepIn K (.ref f2) = true)
    (a3 : PySem.W.nsIn K mainGlobals "_is_within" = some (some (.ref f3)))
    (l3 : K.lookup f3 = some ⟨oc3, od3, .func (PySem.W.fnOf "_is_within" "_is_within" (C8.fnArgs s__is_within) (C8.fnBody s__is_within) (C8.fnScope s__is_within) .none kV3 dc3 pm3 an3 cd3 ct3), sl3⟩)
    (c3 : PySem.W.codeIn K cd3 "_is_within" = true)
    (k3 : PySem.W.keepIn K (.ref f3) = true)
    (a4 : PySem.W.nsIn K mainGlobals "is_word" = some (some (.ref f4)))
    (l4 : K.lookup f4 = some ⟨oc4, od4, .func (PySem.W.fnOf "is_word" "is_word" (C8.fnArgs s_is_word) (C8.fnBody s_is_word) (C8.fnScope s_is_word) .none kV4 dc4 pm4 an4 cd4 ct4), sl4⟩)
    (c4 : PySem.W.codeIn K cd4 "is_word" = true)
    (k4 : PySem.W.keepIn K (.ref f4) = true)
    (a5 : PySem.W.nsIn K mainGlobals "is_host_word" = some (some (.ref f5)))
    (l5 : K.lookup f5 = some ⟨oc5, od5, .func (PySem.W.fnOf "is_host_word" "is_host_word" (C8.fnArgs s_is_host_word) (C8.fnBody s_is_host_word) (C8.fnScope s_is_host_word) .none kV5 dc5 pm5 an5 cd5 ct5), sl5⟩)
    (c5 : PySem.W.codeIn K cd5 "is_host_word" = true)
    (k5 : PySem.W.keepIn K (.ref f5) = true)
    (a6 : PySem.W.nsIn K mainGlobals "is_monitor" = some (some (.ref f6)))
    (l6 : K.lookup f6 = some ⟨oc6, od6, .func (PySem.W.fnOf "is_monitor" "is_monitor" (C8.fnArgs s_is_monitor) (C8.fnBody s_is_monitor) (C8.fnScope s_is_monitor) .none kV6 dc6 pm6 an6 cd6 ct6), sl6⟩)
    (c6 : PySem.W.codeIn K cd6 "is_monitor" = true)
    (k6 : PySem.W.keepIn K (.ref f6) = true)
    (a7 : PySem.W.nsIn K mainGlobals "_places_of_atoms" = some (some (.ref f7)))
    (l7 : K.lookup f7 = some ⟨oc7, od7, .func (PySem.W.fnOf "_places_of_atoms" "_places_of_atoms" (C8.fnArgs s__places_of_atoms) (C8.fnBody s__places_of_atoms) (C8.fnScope s__places_of_atoms) .none kV7 dc7 pm7 an7 cd7 ct7), sl7⟩)
    (c7 : PySem.W.codeIn K cd7 "_places_of_atoms" = true)
    (k7 : PySem.W.keepIn K (.ref f7) = true)
    (a8 : PySem.W.nsIn K mainGlobals "atoms_in" = some (some (.ref f8)))
    (l8 : K.lookup f8 = some ⟨oc8, od8, .func (PySem.W.fnOf "atoms_in" "atoms_in" (C8.fnArgs s_atoms_in) (C8.fnBody s_atoms_in) (C8.fnScope s_atoms_in) .none kV8 dc8 pm8 an8 cd8 ct8), sl8⟩)
    (c8 : PySem.W.codeIn K cd8 "atoms_in" = true)
    (k8 : PySem.W.keepIn K (.ref f8) = true)
    (a9 : PySem.W.nsIn K mainGlobals "rank_of" = some (some (.ref f9)))
    (l9 : K.lookup f9 = some ⟨oc9, od9, .func (PySem.W.fnOf "rank_of" "rank_of" (C8.fnArgs s_rank_of) (C8.fnBody s_rank_of) (C8.fnScope s_rank_of) .none kV9 dc9 pm9 an9 cd9 ct9), sl9⟩)
    (c9 : PySem.W.codeIn K cd9 "rank_of" = true)
    (k9 : PySem.W.keepIn K (.ref f9) = true)
    (a10 : PySem.W.nsIn K mainGlobals "_rank_of_atom" = some (some (.ref f10)))
    (l10 : K.lookup f10 = some ⟨oc10, od10, .func (PySem.W.fnOf "_rank_of_atom" "_rank_of_atom" (C8.fnArgs s__rank_of_atom) (C8.fnBody s__rank_of_atom) (C8.fnScope s__rank_of_atom) .none kV10 dc10 pm10 an10 cd10 ct10), sl10⟩)
    (c10 : PySem.W.codeIn K cd10 "_rank_of_atom" = true)
    (k10 : PySem.W.keepIn K (.ref f10) = true)
    (a11 : PySem.W.nsIn K mainGlobals "_most_rank" = some (some (.ref f11)))
    (l11 : K.lookup f11 = some ⟨oc11, od11, .func (PySem.W.fnOf "_most_rank" "_most_rank" (C8.fnArgs s__most_rank) (C8.fnBody s__most_rank) (C8.fnScope s__most_rank) .none kV11 dc11 pm11 an11 cd11 ct11), sl11⟩)
    (c11 : PySem.W.codeIn K cd11 "_most_rank" = true)
    (k11 : PySem.W.keepIn K (.ref f11) = true)
    (a12 : PySem.W.nsIn K mainGlobals "_has_form" = some (some (.ref f12)))
    (l12 : K.lookup f12 = some ⟨oc12, od12, .func (PySem.W.fnOf "_has_form" "_has_form" (C8.fnArgs s__has_form) (C8.fnBody s__has_form) (C8.fnScope s__has_form) .none kV12 dc12 pm12 an12 cd12 ct12), sl12⟩)
    (c12 : PySem.W.codeIn K cd12 "_has_form" = true)
    (k12 : PySem.W.keepIn K (.ref f12) = true)
    (a13 : PySem.W.nsIn K mainGlobals "_is_term" = some (some (.ref f13)))
    (l13 : K.lookup f13 = some ⟨oc13, od13, .func (PySem.W.fnOf "_is_term" "_is_term" (C8.fnArgs s__is_term) (C8.fnBody s__is_term) (C8.fnScope s__is_term) .none kV13 dc13 pm13 an13 cd13 ct13), sl13⟩)
    (c13 : PySem.W.codeIn K cd13 "_is_term" = true)
    (k13 : PySem.W.keepIn K (.ref f13) = true)
    (a14 : PySem.W.nsIn K mainGlobals "_are_equal" = some (some (.ref f14)))
    (l14 : K.lookup f14 = some ⟨oc14, od14, .func (PySem.W.fnOf "_are_equal" "_are_equal" (C8.fnArgs s__are_equal) (C8.fnBody s__are_equal) (C8.fnScope s__are_equal) .none kV14 dc14 pm14 an14 cd14 ct14), sl14⟩)
    (c14 : PySem.W.codeIn K cd14 "_are_equal" = true)
    (k14 : PySem.W.keepIn K (.ref f14) = true)
    (a15 : PySem.W.nsIn K mainGlobals "with_atoms" = some (some (.ref f15)))
    (l15 : K.lookup f15 = some ⟨oc15, od15, .func (PySem.W.fnOf "with_atoms" "with_atoms" (C8.fnArgs s_with_atoms) (C8.fnBody s_with_atoms) (C8.fnScope s_with_atoms) .none kV15 dc15 pm15 an15 cd15 ct15), sl15⟩)
    (c15 : PySem.W.codeIn K cd15 "with_atoms" = true)
    (k15 : PySem.W.keepIn K (.ref f15) = true)
    (a16 : PySem.W.nsIn K mainGlobals "_strip_atom" = some (some (.ref f16)))
    (l16 : K.lookup f16 = some ⟨oc16, od16, .func (PySem.W.fnOf "_strip_atom" "_strip_atom" (C8.fnArgs s__strip_atom) (C8.fnBody s__strip_atom) (C8.fnScope s__strip_atom) .none kV16 dc16 pm16 an16 cd16 ct16), sl16⟩)
    (c16 : PySem.W.codeIn K cd16 "_strip_atom" = true)
    (k16 : PySem.W.keepIn K (.ref f16) = true)
    (a17 : PySem.W.nsIn K mainGlobals "strip" = some (some (.ref f17)))
    (l17 : K.lookup f17 = some ⟨oc17, od17, .func (PySem.W.fnOf "strip" "strip" (C8.fnArgs s_strip) (C8.fnBody s_strip) (C8.fnScope s_strip) .none kV17 dc17 pm17 an17 (.ref cS) ct17), sl17⟩)
    (c17 : PySem.W.codeIn K (.ref cS) "strip" = true)
    (k17 : PySem.W.keepIn K (.ref f17) = true)
    (a18 : PySem.W.nsIn K mainGlobals "_law_begin" = some (some (.ref f18)))
    (l18 : K.lookup f18 = some ⟨oc18, od18, .func (PySem.W.fnOf "_law_begin" "_law_begin" (C8.fnArgs s__law_begin) (C8.fnBody s__law_begin) (C8.fnScope s__law_begin) .none kV18 dc18 pm18 an18 cd18 ct18), sl18⟩)
    (c18 : PySem.W.codeIn K cd18 "_law_begin" = true)
    (k18 : PySem.W.keepIn K (.ref f18) = true)
    (a19 : PySem.W.nsIn K mainGlobals "_law_draw" = some (some (.ref f19)))
    (l19 : K.lookup f19 = some ⟨oc19, od19, .func (PySem.W.fnOf "_law_draw" "_law_draw" (C8.fnArgs s__law_draw) (C8.fnBody s__law_draw) (C8.fnScope s__law_draw) .none kV19 dc19 pm19 an19 cd19 ct19), sl19⟩)
    (c19 : PySem.W.codeIn K cd19 "_law_draw" = true)
    (k19 : PySem.W.keepIn K (.ref f19) = true)
    (a20 : PySem.W.nsIn K mainGlobals "_law_pick" = some (some (.ref f20)))
    (l20 : K.lookup f20 = some ⟨oc20, od20, .func (PySem.W.fnOf "_law_pick" "_law_pick" (C8.fnArgs s__law_pick) (C8.fnBody s__law_pick) (C8.fnScope s__law_pick) .none kV20 dc20 pm20 an20 cd20 ct20), sl20⟩)
    (c20 : PySem.W.codeIn K cd20 "_law_pick" = true)
    (k20 : PySem.W.keepIn K (.ref f20) = true)
    (a21 : PySem.W.nsIn K mainGlobals "_law_plain" = some (some (.ref f21)))
    (l21 : K.lookup f21 = some ⟨oc21, od21, .func (PySem.W.fnOf "_law_plain" "_law_plain" (C8.fnArgs s__law_plain) (C8.fnBody s__law_plain) (C8.fnScope s__law_plain) .none kV21 dc21 pm21 an21 cd21 ct21), sl21⟩)
    (c21 : PySem.W.codeIn K cd21 "_law_plain" = true)
    (k21 : PySem.W.keepIn K (.ref f21) = true)
    (a22 : PySem.W.nsIn K mainGlobals "_law_word" = some (some (.ref f22)))
    (l22 : K.lookup f22 = some ⟨oc22, od22, .func (PySem.W.fnOf "_law_word" "_law_word" (C8.fnArgs s__law_word) (C8.fnBody s__law_word) (C8.fnScope s__law_word) .none kV22 dc22 pm22 an22 cd22 ct22), sl22⟩)
    (c22 : PySem.W.codeIn K cd22 "_law_word" = true)
    (k22 : PySem.W.keepIn K (.ref f22) = true)
    (a23 : PySem.W.nsIn K mainGlobals "_law_term" = some (some (.ref f23)))
    (l23 : K.lookup f23 = some ⟨oc23, od23, .func (PySem.W.fnOf "_law_term" "_law_term" (C8.fnArgs s__law_term) (C8.fnBody s__law_term) (C8.fnScope s__law_term) .none kV23 dc23 pm23 an23 cd23 ct23), sl23⟩)
    (c23 : PySem.W.codeIn K cd23 "_law_term" = true)
    (k23 : PySem.W.keepIn K (.ref f23) = true)
    (a24 : PySem.W.nsIn K mainGlobals "_law_atom" = some (some (.ref f24)))
    (l24 : K.lookup f24 = some ⟨oc24, od24, .func (PySem.W.fnOf "_law_atom" "_law_atom" (C8.fnArgs s__law_atom) (C8.fnBody s__law_atom) (C8.fnScope s__law_atom) .none kV24 dc24 pm24 an24 cd24 ct24), sl24⟩)
    (c24 : PySem.W.codeIn K cd24 "_law_atom" = true)
    (k24 : PySem.W.keepIn K (.ref f24) = true)
    (a25 : PySem.W.nsIn K mainGlobals "_law_value" = some (some (.ref f25)))
    (l25 : K.lookup f25 = some ⟨oc25, od25, .func (PySem.W.fnOf "_law_value" "_law_value" (C8.fnArgs s__law_value) (C8.fnBody s__law_value) (C8.fnScope s__law_value) .none kV25 dc25 pm25 an25 cd25 ct25), sl25⟩)
    (c25 : PySem.W.codeIn K cd25 "_law_value" = true)
    (k25 : PySem.W.keepIn K (.ref f25) = true)
    (a26 : PySem.W.nsIn K mainGlobals "_law_is_word" = some (some (.ref f26)))
    (l26 : K.lookup f26 = some ⟨oc26, od26, .func (PySem.W.fnOf "_law_is_word" "_law_is_word" (C8.fnArgs s__law_is_word) (C8.fnBody s__law_is_word) (C8.fnScope s__law_is_word) .none kV26 dc26 pm26 an26 cd26 ct26), sl26⟩)
    (c26 : PySem.W.codeIn K cd26 "_law_is_word" = true)
    (k26 : PySem.W.keepIn K (.ref f26) = true)
    (a27 : PySem.W.nsIn K mainGlobals "_law_same" = some (some (.ref f27)))
    (l27 : K.lookup f27 = some ⟨oc27, od27, .func (PySem.W.fnOf "_law_same" "_law_same" (C8.fnArgs s__law_same) (C8.fnBody s__law_same) (C8.fnScope s__law_same) .none kV27 dc27 pm27 an27 cd27 ct27), sl27⟩)
    (c27 : PySem.W.codeIn K cd27 "_law_same" = true)
    (k27 : PySem.W.keepIn K (.ref f27) = true)
    (a28 : PySem.W.nsIn K mainGlobals "_law_atoms" = some (some (.ref f28)))
    (l28 : K.lookup f28 = some ⟨oc28, od28, .func (PySem.W.fnOf "_law_atoms" "_law_atoms" (C8.fnArgs s__law_atoms) (C8.fnBody s__law_atoms) (C8.fnScope s__law_atoms) .none kV28 dc28 pm28 an28 cd28 ct28), sl28⟩)
    (c28 : PySem.W.codeIn K cd28 "_law_atoms" = true)
    (k28 : PySem.W.keepIn K (.ref f28) = true)
    (a29 : PySem.W.nsIn K mainGlobals "_law_stripped" = some (some (.ref f29)))
    (l29 : K.lookup f29 = some ⟨oc29, od29, .func (PySem.W.fnOf "_law_stripped" "_law_stripped" (C8.fnArgs s__law_stripped) (C8.fnBody s__law_stripped) (C8.fnScope s__law_stripped) .none kV29 dc29 pm29 an29 cd29 ct29), sl29⟩)
    (c29 : PySem.W.codeIn K cd29 "_law_stripped" = true)
    (k29 : PySem.W.keepIn K (.ref f29) = true)
    (a30 : PySem.W.nsIn K mainGlobals "_law_rank" = some (some (.ref f30)))
    (l30 : K.lookup f30 = some ⟨oc30, od30, .func (PySem.W.fnOf "_law_rank" "_law_rank" (C8.fnArgs s__law_rank) (C8.fnBody s__law_rank) (C8.fnScope s__law_rank) .none kV30 dc30 pm30 an30 cd30 ct30), sl30⟩)
    (c30 : PySem.W.codeIn K cd30 "_law_rank" = true)
    (k30 : PySem.W.keepIn K (.ref f30) = true)
    (a31 : PySem.W.nsIn K mainGlobals "_law_chain" = some (some (.ref f31)))
    (l31 : K.lookup f31 = some ⟨oc31, od31, .func (PySem.W.fnOf "_law_chain" "_law_chain" (C8.fnArgs s__law_chain) (C8.fnBody s__law_chain) (C8.fnScope s__law_chain) .none kV31 dc31 pm31 an31 cd31 ct31), sl31⟩)
    (c31 : PySem.W.codeIn K cd31 "_law_chain" = true)
    (k31 : PySem.W.keepIn K (.ref f31) = true)
    (a32 : PySem.W.nsIn K mainGlobals "_law_agree" = some (some (.ref f32)))
    (l32 : K.lookup f32 = some ⟨oc32, od32, .func (PySem.W.fnOf "_law_agree" "_law_agree" (C8.fnArgs s__law_agree) (C8.fnBody s__law_agree) (C8.fnScope s__law_agree) .none kV32 dc32 pm32 an32 cd32 ct32), sl32⟩)
    (c32 : PySem.W.codeIn K cd32 "_law_agree" = true)
    (k32 : PySem.W.keepIn K (.ref f32) = true)
    (a33 : PySem.W.nsIn K mainGlobals "_law_refused" = some (some (.ref f33)))
    (l33 : K.lookup f33 = some ⟨oc33, od33, .func (PySem.W.fnOf "_law_refused" "_law_refused" (C8.fnArgs s__law_refused) (C8.fnBody s__law_refused) (C8.fnScope s__law_refused) .none kV33 dc33 pm33 an33 cd33 ct33), sl33⟩)
    (c33 : PySem.W.codeIn K cd33 "_law_refused" = true)
    (k33 : PySem.W.keepIn K (.ref f33) = true)
    (a34 : PySem.W.nsIn K mainGlobals "_law_faulty" = some (some (.ref f34)))
    (l34 : K.lookup f34 = some ⟨oc34, od34, .func (PySem.W.fnOf "_law_faulty" "_law_faulty" (C8.fnArgs s__law_faulty) (C8.fnBody s__law_faulty) (C8.fnScope s__law_faulty) .none kV34 dc34 pm34 an34 cd34 ct34), sl34⟩)
    (c34 : PySem.W.codeIn K cd34 "_law_faulty" = true)
    (k34 : PySem.W.keepIn K (.ref f34) = true)
    (a35 : PySem.W.nsIn K mainGlobals "law" = some (some (.ref f35)))
    (l35 : K.lookup f35 = some ⟨oc35, od35, .func (PySem.W.fnOf "law" "law" (C8.fnArgs s_law) (C8.fnBody s_law) (C8.fnScope s_law) .none kV35 dc35 pm35 an35 cd35 ct35), sl35⟩)
    (c35 : PySem.W.codeIn K cd35 "law" = true)
    (k35 : PySem.W.keepIn K (.ref f35) = true)
    (aC : PySem.W.nsIn K mainGlobals "Atom" = some (some (.ref C)))
    (aN : PySem.W.nsIn K mainGlobals "NotValid" = some (some (.ref N)))
    (aE : PySem.W.nsIn K mainGlobals "HermitError" = some (some (.ref E0)))
    (aK : PySem.W.nsIn K mainGlobals "KINDS" = some (some (.ref Kd)))
    (eN : PySem.W.excIn K N [Value.type "ValueError", Value.type "Exception", Value.type "BaseException", Value.type "object"] "ValueError.__new__" = true)
    (kN : PySem.W.keepIn K (.ref N) = true)
    (sN : PySem.W.subIn K (.ref N) (.type "BaseException") = some true)
    (tN : PySem.W.typeIn K (.ref N) = some (.type "type"))
    (gN : PySem.W.findIn K (.ref N) "__getattribute__" = some (some (.builtin "BaseException.__getattribute__")))
    (hN : PySem.W.findIn K (.ref N) "__getattr__" = some none)
    (dN : PySem.W.hasDictIn K N = true)
    (caN : PySem.W.findIn K (.ref N) "__class__" = some (some (.builtin "object.__class__")))
    (moN : PySem.W.mroIn K N (.type "object") = some true)
    (sE : PySem.W.subIn K (.ref E0) (.type "BaseException") = some true)
    (dE : PySem.W.hasDictIn K E0 = true)
    (tE : PySem.W.typeIn K (.ref E0) = some (.type "type"))
    (sNE : PySem.W.subIn K (.ref N) (.ref E0) = some true)
    (kNN : PySem.W.kitOne K (.ref N) (.ref N) = some true)
    (onn : PySem.W.findIn K (.ref C) "__ne__" = some (some (.builtin "object.__ne__")))
    (oNoneType : PySem.W.subIn K (.ref C) (.type "NoneType") = some false)
    (oint : PySem.W.subIn K (.ref C) (.type "int") = some false)
    (ostr : PySem.W.subIn K (.ref C) (.type "str") = some false)
    (otuple : PySem.W.subIn K (.ref C) (.type "tuple") = some false)
    (lK : K.lookup Kd = some ⟨.type "dict", none, .dict #[⟨hh0, .str "token" kt0, .int 3 vt0⟩, ⟨hh1, .str "challenge" kt1, .int 2 vt1⟩, ⟨hh2, .str "seal" kt2, .int 4 vt2⟩, ⟨hh3, .str "page" kt3, .int 4 vt3⟩, ⟨hh4, .str "ticket" kt4, .int 6 vt4⟩] nK, #[]⟩)
    (kK : PySem.W.KeysLit w.params [⟨hh0, .str "token" kt0, .int 3 vt0⟩, ⟨hh1, .str "challenge" kt1, .int 2 vt1⟩, ⟨hh2, .str "seal" kt2, .int 4 vt2⟩, ⟨hh3, .str "page" kt3, .int 4 vt3⟩, ⟨hh4, .str "ticket" kt4, .int 6 vt4⟩])
    (oK : (Kd == sysModules) = false)
    (a36 : PySem.W.findIn K (.ref C) "__init__" = some (some (.ref f36)))
    (i36 : PySem.W.isFn K (.ref f36) = true)
    (l36 : K.lookup f36 = some ⟨oc36, od36, .func (PySem.W.fnOf "__init__" "Atom.__init__" (C8.fnArgs s_Atom___init__) (C8.fnBody s_Atom___init__) (C8.fnScope s_Atom___init__) .none kV36 dc36 pm36 an36 cd36 ct36), sl36⟩)
    (c36 : PySem.W.codeIn K cd36 "Atom.__init__" = true)
    (k36 : PySem.W.keepIn K (.ref f36) = true)
    (a37 : PySem.W.findIn K (.ref C) "__eq__" = some (some (.ref f37)))
    (i37 : PySem.W.isFn K (.ref f37) = true)
    (l37 : K.lookup f37 = some ⟨oc37, od37, .func (PySem.W.fnOf "__eq__" "Atom.__eq__" (C8.fnArgs s_Atom___eq__) (C8.fnBody s_Atom___eq__) (C8.fnScope s_Atom___eq__) .none kV37 dc37 pm37 an37 cd37 ct37), sl37⟩)
    (c37 : PySem.W.codeIn K cd37 "Atom.__eq__" = true)
    (k37 : PySem.W.keepIn K (.ref f37) = true)
    (a38 : PySem.W.findIn K (.ref C) "is_same" = some (some (.ref f38)))
    (i38 : PySem.W.isFn K (.ref f38) = true)
    (l38 : K.lookup f38 = some ⟨oc38, od38, .func (PySem.W.fnOf "is_same" "Atom.is_same" (C8.fnArgs s_Atom_is_same) (C8.fnBody s_Atom_is_same) (C8.fnScope s_Atom_is_same) .none kV38 dc38 pm38 an38 cd38 ct38), sl38⟩)
    (c38 : PySem.W.codeIn K cd38 "Atom.is_same" = true)
    (k38 : PySem.W.keepIn K (.ref f38) = true)
    (a39 : PySem.W.findIn K (.ref C) "stripped" = some (some (.ref f39)))
    (i39 : PySem.W.isFn K (.ref f39) = true)
    (l39 : K.lookup f39 = some ⟨oc39, od39, .func (PySem.W.fnOf "stripped" "Atom.stripped" (C8.fnArgs s_Atom_stripped) (C8.fnBody s_Atom_stripped) (C8.fnScope s_Atom_stripped) .none kV39 dc39 pm39 an39 cd39 ct39), sl39⟩)
    (c39 : PySem.W.codeIn K cd39 "Atom.stripped" = true)
    (k39 : PySem.W.keepIn K (.ref f39) = true)
    (pgC : PySem.W.plainGet K C Str.empty = true)
    (hdC : PySem.W.hasDictIn K C = true)
    (poC : PySem.W.plainOver K C = true)
    (saC : PySem.W.findIn K (.ref C) "__setattr__" = some (some (.builtin "object.__setattr__")))
    (mkC : PySem.W.makesIn K C = true)
    (kcC : PySem.W.keepIn K (.ref C) = true)
    (ha : PySem.W.findIn K (.ref C) "__class__" = some (some (.builtin "object.__class__")))
    (hn : PySem.W.specialIn K (.builtin "object.__class__") "__get__" = some (some (.builtin "getset_descriptor.__get__")))
    (htk : PySem.W.takesIn K (.builtin "object.__class__") = some true)
    (hm : PySem.W.mroIn K C (.type "object") = some true)
    (me : PySem.W.kitOne K (.ref C) (.ref C) = some true)
    (nakind : PySem.W.findIn K (.ref C) "kind" = some none)
    (naterm : PySem.W.findIn K (.ref C) "term" = some none)
    (narank : PySem.W.findIn K (.ref C) "rank" = some none)
    (na_stripped : PySem.W.findIn K (.ref C) "_stripped" = some none)
    (qint : PySem.W.kitOne K (.ref C) (.type "int") = some false)
    (qstr : PySem.W.kitOne K (.ref C) (.type "str") = some false)
    (qtuple : PySem.W.kitOne K (.ref C) (.type "tuple") = some false)
    (qbool : PySem.W.kitOne K (.ref C) (.type "bool") = some false)
    (qlist : PySem.W.kitOne K (.ref C) (.type "list") = some false)
    (qdict : PySem.W.kitOne K (.ref C) (.type "dict") = some false)
    (rNoneType : PySem.W.kitOne K (.type "NoneType") (.ref C) = some false)
    (rbool : PySem.W.kitOne K (.type "bool") (.ref C) = some false)
    (rint : PySem.W.kitOne K (.type "int") (.ref C) = some false)
    (rstr : PySem.W.kitOne K (.type "str") (.ref C) = some false)
    (rtuple : PySem.W.kitOne K (.type "tuple") (.ref C) = some false)
    (rlist : PySem.W.kitOne K (.type "list") (.ref C) = some false)
    (rdict : PySem.W.kitOne K (.type "dict") (.ref C) = some false)
    (nLEAST : PySem.W.nsIn K mainGlobals "LEAST" = some (some (.int (-2147483648) tLEAST)))
    (nGREATEST : PySem.W.nsIn K mainGlobals "GREATEST" = some (some (.int (2147483647) tGREATEST)))
    (nMOST_CHARACTERS : PySem.W.nsIn K mainGlobals "MOST_CHARACTERS" = some (some (.int (24) tMOST_CHARACTERS)))
    (nMOST_DEEP : PySem.W.nsIn K mainGlobals "MOST_DEEP" = some (some (.int (40) tMOST_DEEP)))
    (nMOST_DEEP_HOST : PySem.W.nsIn K mainGlobals "MOST_DEEP_HOST" = some (some (.int (10) tMOST_DEEP_HOST)))
    (nMOST_RANK : PySem.W.nsIn K mainGlobals "MOST_RANK" = some (some (.int (40) tMOST_RANK)))
    (nMOST_RANK_HOST : PySem.W.nsIn K mainGlobals "MOST_RANK_HOST" = some (some (.int (36) tMOST_RANK_HOST)))
    (ztype : PySem.W.nsIn K mainGlobals "type" = some none)
    (zint : PySem.W.nsIn K mainGlobals "int" = some none)
    (zstr : PySem.W.nsIn K mainGlobals "str" = some none)
    (zbool : PySem.W.nsIn K mainGlobals "bool" = some none)
    (ztuple : PySem.W.nsIn K mainGlobals "tuple" = some none)
    (zlist : PySem.W.nsIn K mainGlobals "list" = some none)
    (zrange : PySem.W.nsIn K mainGlobals "range" = some none)
    (zzip : PySem.W.nsIn K mainGlobals "zip" = some none)
    (zdict : PySem.W.nsIn K mainGlobals "dict" = some none)
    (zlen : PySem.W.nsIn K mainGlobals "len" = some none)
    (zall : PySem.W.nsIn K mainGlobals "all" = some none)
    (zmax : PySem.W.nsIn K mainGlobals "max" = some none)
    (zisinstance : PySem.W.nsIn K mainGlobals "isinstance" = some none)
    (zabs : PySem.W.nsIn K mainGlobals "abs" = some none)
    (aF : PySem.W.nsIn K mainGlobals "_FORMS" = some (some (.ref Fo)))
    (lF : K.lookup Fo = some ⟨.type "dict", none, .dict esF nF, #[]⟩)
    (kF : PySem.W.KeysLit w.params esF.toList)
    (oF : (Fo == sysModules) = false)
    (vtt1 : PySem.W.nsIn K Fo "token" = some (some (.ref tt1)))
    (wtt1 : K.lookup tt1 = some ⟨.type "tuple", dtt1, .seq #[.str "text" utt1_0, .str "tuple" utt1_1, .str "word" utt1_2] ntt1, stt1⟩)
    (vtt2 : PySem.W.nsIn K Fo "challenge" = some (some (.ref tt2)))
    (wtt2 : K.lookup tt2 = some ⟨.type "tuple", dtt2, .seq #[.str "text" utt2_0, .str "number" utt2_1] ntt2, stt2⟩)
    (vtt3 : PySem.W.nsIn K Fo "seal" = some (some (.ref tt3)))
    (wtt3 : K.lookup tt3 = some ⟨.type "tuple", dtt3, .seq #[.str "text" utt3_0, .str "number" utt3_1, .str "number" utt3_2, .str "hidden" utt3_3] ntt3, stt3⟩)
    (vtt4 : PySem.W.nsIn K Fo "page" = some (some (.ref tt4)))
    (wtt4 : K.lookup tt4 = some ⟨.type "tuple", dtt4, .seq #[.str "text" utt4_0, .str "number" utt4_1, .str "number" utt4_2, .str "hidden" utt4_3] ntt4, stt4⟩)
    (vtt5 : PySem.W.nsIn K Fo "ticket" = some (some (.ref tt5)))
    (wtt5 : K.lookup tt5 = some ⟨.type "tuple", dtt5, .seq #[.str "text" utt5_0, .str "number" utt5_1, .str "text" utt5_2, .str "tuple" utt5_3, .str "pages" utt5_4, .str "tuple" utt5_5] ntt5, stt5⟩)
    (vkey : PySem.W.nsIn K Fo "key" = some none)
    (hNone : K.lookup Ps = none)
    (hHd : PySem.W.codeHdIn K cS Ps = true)
    : LamX.LawAtS l w K C8.CX0 133 63 "script" mg fa h := by
  have e := hfa.symm.trans (PySem.W.mg_of X G a35)
  cases e
  have clsC : Cls K C := ⟨pgC, hdC, poC, saC⟩
  have cl : Cl K C := ⟨clsC, ha, hn, htk, hm, me, mkC, nakind, naterm, narank, na_stripped⟩
  have kttt1 : KTup K tt1 ["text", "tuple", "word"] := fun H => .inr ⟨_, _, _, wtt1, rfl, rfl, (by show 3 ≤ sizeLine; decide), (.cons ⟨_, rfl⟩ (.cons ⟨_, rfl⟩ (.cons ⟨_, rfl⟩ .nil)))⟩
  have kttt2 : KTup K tt2 ["text", "number"] := fun H => .inr ⟨_, _, _, wtt2, rfl, rfl, (by show 2 ≤ sizeLine; decide), (.cons ⟨_, rfl⟩ (.cons ⟨_, rfl⟩ .nil))⟩
  have kttt3 : KTup K tt3 ["text", "number", "number", "hidden"] := fun H => .inr ⟨_, _, _, wtt3, rfl, rfl, (by show 4 ≤ sizeLine; decide), (.cons ⟨_, rfl⟩ (.cons ⟨_, rfl⟩ (.cons ⟨_, rfl⟩ (.cons ⟨_, rfl⟩ .nil))))⟩
  have kttt4 : KTup K tt4 ["text", "number", "number", "hidden"] := fun H => .inr ⟨_, _, _, wtt4, rfl, rfl, (by show 4 ≤ sizeLine; decide), (.cons ⟨_, rfl⟩ (.cons ⟨_, rfl⟩ (.cons ⟨_, rfl⟩ (.cons ⟨_, rfl⟩ .nil))))⟩
  have kttt5 : KTup K tt5 ["text", "number", "text", "tuple", "pages", "tuple"] := fun H => .inr ⟨_, _, _, wtt5, rfl, rfl, (by show 6 ≤ sizeLine; decide), (.cons ⟨_, rfl⟩ (.cons ⟨_, rfl⟩ (.cons ⟨_, rfl⟩ (.cons ⟨_, rfl⟩ (.cons ⟨_, rfl⟩ (.cons ⟨_, rfl⟩ .nil))))))⟩
  have kit : ∀ (d : D) (n : String), n ∈ ["int", "str", "tuple", "bool", "list", "dict"] → PySem.W.kitOne K (kyU C d) (.type n) = some (match d with | .int _ => n == "int" | .bl _ => n == "int" || n == "bool" | .str _ => n == "str" | .tup _ => n == "tuple" | .lst _ => n == "list" | .dct => n == "dict" | _ => false) := fun d n hn => by
    simp only [List.mem_cons, List.not_mem_nil, or_false] at hn
    rcases hn with rfl | rfl | rfl | rfl | rfl | rfl <;> cases d <;> dsimp only [kyU] <;> first
      | exact kit_ty (by decide +kernel)
      | exact qint
      | exact qstr
      | exact qtuple
      | exact qbool
      | exact qlist
      | exact qdict
  have kitC : ∀ d : D, PySem.W.kitOne K (kyU C d) (.ref C) = some (match d with | .atom _ _ => true | _ => false) := fun d => by
    cases d <;> first
      | exact me
      | exact rNoneType
      | exact rbool
      | exact rint
      | exact rstr
      | exact rtuple
      | exact rlist
      | exact rdict
  have KD : KDict K w Fo esF nF := ⟨lF, kF, oF⟩
  have T : Txt K mg w C := ⟨cl, PySem.W.mg_of X G aC, PySem.W.mg_none_of X G ztype, PySem.W.mg_none_of X G zint, PySem.W.mg_none_of X G zstr, PySem.W.mg_none_of X G zbool, PySem.W.mg_none_of X G ztuple, PySem.W.mg_none_of X G zlist, PySem.W.mg_none_of X G zrange, PySem.W.mg_none_of X G zzip, PySem.W.mg_none_of X G zdict, PySem.W.mg_none_of X G zlen, PySem.W.mg_none_of X G zall, PySem.W.mg_none_of X G zmax, PySem.W.mg_none_of X G zisinstance, PySem.W.mg_none_of X G zabs, ⟨_, PySem.W.mg_of X G nLEAST, ⟨_, rfl⟩⟩, ⟨_, PySem.W.mg_of X G nGREATEST, ⟨_, rfl⟩⟩, ⟨_, PySem.W.mg_of X G nMOST_CHARACTERS, ⟨_, rfl⟩⟩, ⟨_, PySem.W.mg_of X G nMOST_DEEP, ⟨_, rfl⟩⟩, ⟨_, PySem.W.mg_of X G nMOST_DEEP_HOST, ⟨_, rfl⟩⟩, ⟨_, PySem.W.mg_of X G nMOST_RANK, ⟨_, rfl⟩⟩, ⟨_, PySem.W.mg_of X G nMOST_RANK_HOST, ⟨_, rfl⟩⟩, ⟨Fo, tt1, tt2, tt3, tt4, tt5, ⟨_, PySem.W.mg_of X G aF, rfl⟩, ⟨esF, nF, KD⟩, ⟨esF, nF, _, lF, kF, vtt1, rfl⟩, ⟨esF, nF, _, lF, kF, vtt2, rfl⟩, ⟨esF, nF, _, lF, kF, vtt3, rfl⟩, ⟨esF, nF, _, lF, kF, vtt4, rfl⟩, ⟨esF, nF, _, lF, kF, vtt5, rfl⟩, vkey, kttt1, kttt2, kttt3, kttt4, kttt5⟩, kit, kitC⟩
  have oth : Oth K C := ⟨hm, onn, oNoneType, oint, ostr, otuple⟩
  have nv : NvOk K mg N _ _ := ⟨eN, PySem.W.mg_of X G aN, kN, sN, tN⟩
  have xc : ExcC K N := ⟨gN, hN, sN, dN, caN, hn, htk, moN⟩
  have hxm := PySem.W.exm_ref sE dE tE sNE
  have kI : KInts K w Kd kinds5 := ⟨⟨_, nK, lK, kK, (.cons ⟨_, rfl⟩ ⟨_, rfl⟩ (.cons ⟨_, rfl⟩ ⟨_, rfl⟩ (.cons ⟨_, rfl⟩ ⟨_, rfl⟩ (.cons ⟨_, rfl⟩ ⟨_, rfl⟩ (.cons ⟨_, rfl⟩ ⟨_, rfl⟩ .nil)))))⟩, oK, by decide +kernel⟩
  have F1 : C8.Def K mg "is_number" s_is_number f1 _ := ⟨⟨⟨oc1, od1, .none, kV1, dc1, pm1, an1, cd1, ct1, sl1, rfl, l1, c1⟩⟩, PySem.W.mg_of X G a1, k1⟩
  have b1 : Binds K _ ["value"] [] := F1.fn.binds rfl (ps := ["value"]) fun _ _ _ _ _ _ us hl => match us, hl with | [_], _ => rfl
  have F2 : C8.Def K mg "is_text" s_is_text f2 _ := ⟨⟨⟨oc2, od2, .none, kV2, dc2, pm2, an2, cd2, ct2, sl2, rfl, l2, c2⟩⟩, PySem.W.mg_of X G a2, k2⟩
  have b2 : Binds K _ ["value"] [] := F2.fn.binds rfl (ps := ["value"]) fun _ _ _ _ _ _ us hl => match us, hl with | [_], _ => rfl
  have F3 : C8.Def K mg "_is_within" s__is_within f3 _ := ⟨⟨⟨oc3, od3, .none, kV3, dc3, pm3, an3, cd3, ct3, sl3, rfl, l3, c3⟩⟩, PySem.W.mg_of X G a3, k3⟩
  have b3 : Binds K _ ["value", "most_deep", "most_rank"] [] := F3.fn.binds rfl (ps := ["value", "most_deep", "most_rank"]) fun _ _ _ _ _ _ us hl => match us, hl with | [_, _, _], _ => rfl
  have F4 : C8.Def K mg "is_word" s_is_word f4 _ := ⟨⟨⟨oc4, od4, .none, kV4, dc4, pm4, an4, cd4, ct4, sl4, rfl, l4, c4⟩⟩, PySem.W.mg_of X G a4, k4⟩
  have b4 : Binds K _ ["value"] [] := F4.fn.binds rfl (ps := ["value"]) fun _ _ _ _ _ _ us hl => match us, hl with | [_], _ => rfl
  have F5 : C8.Def K mg "is_host_word" s_is_host_word f5 _ := ⟨⟨⟨oc5, od5, .none, kV5, dc5, pm5, an5, cd5, ct5, sl5, rfl, l5, c5⟩⟩, PySem.W.mg_of X G a5, k5⟩
  have b5 : Binds K _ ["value"] [] := F5.fn.binds rfl (ps := ["value"]) fun _ _ _ _ _ _ us hl => match us, hl with | [_], _ => rfl
  have F6 : C8.Def K mg "is_monitor" s_is_monitor f6 _ := ⟨⟨⟨oc6, od6, .none, kV6, dc6, pm6, an6, cd6, ct6, sl6, rfl, l6, c6⟩⟩, PySem.W.mg_of X G a6, k6⟩
  have b6 : Binds K _ ["value"] [] := F6.fn.binds rfl (ps := ["value"]) fun _ _ _ _ _ _ us hl => match us, hl with | [_], _ => rfl
  have F7 : C8.Def K mg "_places_of_atoms" s__places_of_atoms f7 _ := ⟨⟨⟨oc7, od7, .none, kV7, dc7, pm7, an7, cd7, ct7, sl7, rfl, l7, c7⟩⟩, PySem.W.mg_of X G a7, k7⟩
  have b7 : Binds K _ ["value"] [] := F7.fn.binds rfl (ps := ["value"]) fun _ _ _ _ _ _ us hl => match us, hl with | [_], _ => rfl
  have F8 : C8.Def K mg "atoms_in" s_atoms_in f8 _ := ⟨⟨⟨oc8, od8, .none, kV8, dc8, pm8, an8, cd8, ct8, sl8, rfl, l8, c8⟩⟩, PySem.W.mg_of X G a8, k8⟩
  have b8 : Binds K _ ["value"] [] := F8.fn.binds rfl (ps := ["value"]) fun _ _ _ _ _ _ us hl => match us, hl with | [_], _ => rfl
  have F9 : C8.Def K mg "rank_of" s_rank_of f9 _ := ⟨⟨⟨oc9, od9, .none, kV9, dc9, pm9, an9, cd9, ct9, sl9, rfl, l9, c9⟩⟩, PySem.W.mg_of X G a9, k9⟩
  have b9 : Binds K _ ["word"] [] := F9.fn.binds rfl (ps := ["word"]) fun _ _ _ _ _ _ us hl => match us, hl with | [_], _ => rfl
  have F10 : C8.Def K mg "_rank_of_atom" s__rank_of_atom f10 _ := ⟨⟨⟨oc10, od10, .none, kV10, dc10, pm10, an10, cd10, ct10, sl10, rfl, l10, c10⟩⟩, PySem.W.mg_of X G a10, k10⟩
  have b10 : Binds K _ ["kind", "term"] [] := F10.fn.binds rfl (ps := ["kind", "term"]) fun _ _ _ _ _ _ us hl => match us, hl with | [_, _], _ => rfl
  have F11 : C8.Def K mg "_most_rank" s__most_rank f11 _ := ⟨⟨⟨oc11, od11, .none, kV11, dc11, pm11, an11, cd11, ct11, sl11, rfl, l11, c11⟩⟩, PySem.W.mg_of X G a11, k11⟩
  have b11 : Binds K _ ["kind"] [] := F11.fn.binds rfl (ps := ["kind"]) fun _ _ _ _ _ _ us hl => match us, hl with | [_], _ => rfl
  have F12 : C8.Def K mg "_has_form" s__has_form f12 _ := ⟨⟨⟨oc12, od12, .none, kV12, dc12, pm12, an12, cd12, ct12, sl12, rfl, l12, c12⟩⟩, PySem.W.mg_of X G a12, k12⟩
  have b12 : Binds K _ ["part", "form"] [] := F12.fn.binds rfl (ps := ["part", "form"]) fun _ _ _ _ _ _ us hl => match us, hl with | [_, _], _ => rfl
  have F13 : C8.Def K mg "_is_term" s__is_term f13 _ := ⟨⟨⟨oc13, od13, .none, kV13, dc13, pm13, an13, cd13, ct13, sl13, rfl, l13, c13⟩⟩, PySem.W.mg_of X G a13, k13⟩
  have b13 : Binds K _ ["kind", "term"] [] := F13.fn.binds rfl (ps := ["kind", "term"]) fun _ _ _ _ _ _ us hl => match us, hl with | [_, _], _ => rfl
  have F14 : C8.Def K mg "_are_equal" s__are_equal f14 _ := ⟨⟨⟨oc14, od14, .none, kV14, dc14, pm14, an14, cd14, ct14, sl14, rfl, l14, c14⟩⟩, PySem.W.mg_of X G a14, k14⟩
  have b14 : Binds K _ ["ones", "others"] [] := F14.fn.binds rfl (ps := ["ones", "others"]) fun _ _ _ _ _ _ us hl => match us, hl with | [_, _], _ => rfl
  have F15 : C8.Def K mg "with_atoms" s_with_atoms f15 _ := ⟨⟨⟨oc15, od15, .none, kV15, dc15, pm15, an15, cd15, ct15, sl15, rfl, l15, c15⟩⟩, PySem.W.mg_of X G a15, k15⟩
  have b15 : Binds K _ ["value", "change"] [] := F15.fn.binds rfl (ps := ["value", "change"]) fun _ _ _ _ _ _ us hl => match us, hl with | [_, _], _ => rfl
  have F16 : C8.Def K mg "_strip_atom" s__strip_atom f16 _ := ⟨⟨⟨oc16, od16, .none, kV16, dc16, pm16, an16, cd16, ct16, sl16, rfl, l16, c16⟩⟩, PySem.W.mg_of X G a16, k16⟩
  have b16 : Binds K _ ["atom"] [] := F16.fn.binds rfl (ps := ["atom"]) fun _ _ _ _ _ _ us hl => match us, hl with | [_], _ => rfl
  have F17 : C8.Def K mg "strip" s_strip f17 _ := ⟨⟨⟨oc17, od17, .none, kV17, dc17, pm17, an17, (.ref cS), ct17, sl17, rfl, l17, c17⟩⟩, PySem.W.mg_of X G a17, k17⟩
  have b17 : Binds K _ ["word"] [] := F17.fn.binds rfl (ps := ["word"]) fun _ _ _ _ _ _ us hl => match us, hl with | [_], _ => rfl
  have F18 : C8.Def K mg "_law_begin" s__law_begin f18 _ := ⟨⟨⟨oc18, od18, .none, kV18, dc18, pm18, an18, cd18, ct18, sl18, rfl, l18, c18⟩⟩, PySem.W.mg_of X G a18, k18⟩
  have b18 : Binds K _ ["script"] [] := F18.fn.binds rfl (ps := ["script"]) fun _ _ _ _ _ _ us hl => match us, hl with | [_], _ => rfl
  have F19 : C8.Def K mg "_law_draw" s__law_draw f19 _ := ⟨⟨⟨oc19, od19, .none, kV19, dc19, pm19, an19, cd19, ct19, sl19, rfl, l19, c19⟩⟩, PySem.W.mg_of X G a19, k19⟩
  have b19 : Binds K _ ["draws", "many"] [] := F19.fn.binds rfl (ps := ["draws", "many"]) fun _ _ _ _ _ _ us hl => match us, hl with | [_, _], _ => rfl
  have F20 : C8.Def K mg "_law_pick" s__law_pick f20 _ := ⟨⟨⟨oc20, od20, .none, kV20, dc20, pm20, an20, cd20, ct20, sl20, rfl, l20, c20⟩⟩, PySem.W.mg_of X G a20, k20⟩
  have b20 : Binds K _ ["draws", "row"] [] := F20.fn.binds rfl (ps := ["draws", "row"]) fun _ _ _ _ _ _ us hl => match us, hl with | [_, _], _ => rfl
  have F21 : C8.Def K mg "_law_plain" s__law_plain f21 _ := ⟨⟨⟨oc21, od21, .none, kV21, dc21, pm21, an21, cd21, ct21, sl21, rfl, l21, c21⟩⟩, PySem.W.mg_of X G a21, k21⟩
  have b21 : Binds K _ ["draws"] [] := F21.fn.binds rfl (ps := ["draws"]) fun _ _ _ _ _ _ us hl => match us, hl with | [_], _ => rfl
  have F22 : C8.Def K mg "_law_word" s__law_word f22 _ := ⟨⟨⟨oc22, od22, .none, kV22, dc22, pm22, an22, cd22, ct22, sl22, rfl, l22, c22⟩⟩, PySem.W.mg_of X G a22, k22⟩
  have b22 : Binds K _ ["draws", "deep"] [] := F22.fn.binds rfl (ps := ["draws", "deep"]) fun _ _ _ _ _ _ us hl => match us, hl with | [_, _], _ => rfl
  have F23 : C8.Def K mg "_law_term" s__law_term f23 _ := ⟨⟨⟨oc23, od23, .none, kV23, dc23, pm23, an23, cd23, ct23, sl23, rfl, l23, c23⟩⟩, PySem.W.mg_of X G a23, k23⟩
  have b23 : Binds K _ ["draws", "kind", "deep"] [] := F23.fn.binds rfl (ps := ["draws", "kind", "deep"]) fun _ _ _ _ _ _ us hl => match us, hl with | [_, _, _], _ => rfl
  have F24 : C8.Def K mg "_law_atom" s__law_atom f24 _ := ⟨⟨⟨oc24, od24, .none, kV24, dc24, pm24, an24, cd24, ct24, sl24, rfl, l24, c24⟩⟩, PySem.W.mg_of X G a24, k24⟩
  have b24 : Binds K _ ["draws", "deep"] [] := F24.fn.binds rfl (ps := ["draws", "deep"]) fun _ _ _ _ _ _ us hl => match us, hl with | [_, _], _ => rfl
  have F25 : C8.Def K mg "_law_value" s__law_value f25 _ := ⟨⟨⟨oc25, od25, .none, kV25, dc25, pm25, an25, cd25, ct25, sl25, rfl, l25, c25⟩⟩, PySem.W.mg_of X G a25, k25⟩
  have b25 : Binds K _ ["draws", "deep"] [] := F25.fn.binds rfl (ps := ["draws", "deep"]) fun _ _ _ _ _ _ us hl => match us, hl with | [_, _], _ => rfl
  have F26 : C8.Def K mg "_law_is_word" s__law_is_word f26 _ := ⟨⟨⟨oc26, od26, .none, kV26, dc26, pm26, an26, cd26, ct26, sl26, rfl, l26, c26⟩⟩, PySem.W.mg_of X G a26, k26⟩
  have b26 : Binds K _ ["value", "room"] [] := F26.fn.binds rfl (ps := ["value", "room"]) fun _ _ _ _ _ _ us hl => match us, hl with | [_, _], _ => rfl
  have F27 : C8.Def K mg "_law_same" s__law_same f27 _ := ⟨⟨⟨oc27, od27, .none, kV27, dc27, pm27, an27, cd27, ct27, sl27, rfl, l27, c27⟩⟩, PySem.W.mg_of X G a27, k27⟩
  have b27 : Binds K _ ["one", "other"] [] := F27.fn.binds rfl (ps := ["one", "other"]) fun _ _ _ _ _ _ us hl => match us, hl with | [_, _], _ => rfl
  have F28 : C8.Def K mg "_law_atoms" s__law_atoms f28 _ := ⟨⟨⟨oc28, od28, .none, kV28, dc28, pm28, an28, cd28, ct28, sl28, rfl, l28, c28⟩⟩, PySem.W.mg_of X G a28, k28⟩
  have b28 : Binds K _ ["value", "found"] [] := F28.fn.binds rfl (ps := ["value", "found"]) fun _ _ _ _ _ _ us hl => match us, hl with | [_, _], _ => rfl
  have F29 : C8.Def K mg "_law_stripped" s__law_stripped f29 _ := ⟨⟨⟨oc29, od29, .none, kV29, dc29, pm29, an29, cd29, ct29, sl29, rfl, l29, c29⟩⟩, PySem.W.mg_of X G a29, k29⟩
  have b29 : Binds K _ ["word"] [] := F29.fn.binds rfl (ps := ["word"]) fun _ _ _ _ _ _ us hl => match us, hl with | [_], _ => rfl
  have F30 : C8.Def K mg "_law_rank" s__law_rank f30 _ := ⟨⟨⟨oc30, od30, .none, kV30, dc30, pm30, an30, cd30, ct30, sl30, rfl, l30, c30⟩⟩, PySem.W.mg_of X G a30, k30⟩
  have b30 : Binds K _ ["word"] [] := F30.fn.binds rfl (ps := ["word"]) fun _ _ _ _ _ _ us hl => match us, hl with | [_], _ => rfl
  have F31 : C8.Def K mg "_law_chain" s__law_chain f31 _ := ⟨⟨⟨oc31, od31, .none, kV31, dc31, pm31, an31, cd31, ct31, sl31, rfl, l31, c31⟩⟩, PySem.W.mg_of X G a31, k31⟩
  have b31 : Binds K _ ["draws"] [] := F31.fn.binds rfl (ps := ["draws"]) fun _ _ _ _ _ _ us hl => match us, hl with | [_], _ => rfl
  have F32 : C8.Def K mg "_law_agree" s__law_agree f32 _ := ⟨⟨⟨oc32, od32, .none, kV32, dc32, pm32, an32, cd32, ct32, sl32, rfl, l32, c32⟩⟩, PySem.W.mg_of X G a32, k32⟩
  have b32 : Binds K _ ["actual", "due"] [] := F32.fn.binds rfl (ps := ["actual", "due"]) fun _ _ _ _ _ _ us hl => match us, hl with | [_, _], _ => rfl
  have F33 : C8.Def K mg "_law_refused" s__law_refused f33 _ := ⟨⟨⟨oc33, od33, .none, kV33, dc33, pm33, an33, cd33, ct33, sl33, rfl, l33, c33⟩⟩, PySem.W.mg_of X G a33, k33⟩
  have b33 : Binds K _ ["kind", "term"] [] := F33.fn.binds rfl (ps := ["kind", "term"]) fun _ _ _ _ _ _ us hl => match us, hl with | [_, _], _ => rfl
  have F34 : C8.Def K mg "_law_faulty" s__law_faulty f34 _ := ⟨⟨⟨oc34, od34, .none, kV34, dc34, pm34, an34, cd34, ct34, sl34, rfl, l34, c34⟩⟩, PySem.W.mg_of X G a34, k34⟩
  have b34 : Binds K _ ["draws"] [] := F34.fn.binds rfl (ps := ["draws"]) fun _ _ _ _ _ _ us hl => match us, hl with | [_], _ => rfl
  have F35 : C8.Fun K "law" "law" s_law fa _ := ⟨⟨oc35, od35, .none, kV35, dc35, pm35, an35, cd35, ct35, sl35, rfl, l35, c35⟩⟩
  have b35 : Binds K _ ["script"] [] := F35.binds rfl (ps := ["script"]) fun _ _ _ _ _ _ us hl => match us, hl with | [_], _ => rfl
  have F36 : C8.Fun K "__init__" "Atom.__init__" s_Atom___init__ f36 _ := ⟨⟨oc36, od36, .none, kV36, dc36, pm36, an36, cd36, ct36, sl36, rfl, l36, c36⟩⟩
  have b36 : Binds K _ ["self", "kind", "term"] [] := F36.binds rfl (ps := ["self", "kind", "term"]) fun _ _ _ _ _ _ us hl => match us, hl with | [_, _, _], _ => rfl
  have mk36 : Mk K C f36 := ⟨mkC, a36, i36, kcC⟩
  have F37 : C8.Fun K "__eq__" "Atom.__eq__" s_Atom___eq__ f37 _ := ⟨⟨oc37, od37, .none, kV37, dc37, pm37, an37, cd37, ct37, sl37, rfl, l37, c37⟩⟩
  have b37 : Binds K _ ["self", "other"] [] := F37.binds rfl (ps := ["self", "other"]) fun _ _ _ _ _ _ us hl => match us, hl with | [_, _], _ => rfl
  have F38 : C8.Fun K "is_same" "Atom.is_same" s_Atom_is_same f38 _ := ⟨⟨oc38, od38, .none, kV38, dc38, pm38, an38, cd38, ct38, sl38, rfl, l38, c38⟩⟩
  have b38 : Binds K _ ["self", "other"] [] := F38.binds rfl (ps := ["self", "other"]) fun _ _ _ _ _ _ us hl => match us, hl with | [_, _], _ => rfl
  have me38 : Meth K C "is_same" f38 := ⟨a38, i38, k38⟩
  have F39 : C8.Fun K "stripped" "Atom.stripped" s_Atom_stripped f39 _ := ⟨⟨oc39, od39, .none, kV39, dc39, pm39, an39, cd39, ct39, sl39, rfl, l39, c39⟩⟩
  have b39 : Binds K _ ["self"] [] := F39.binds rfl (ps := ["self"]) fun _ _ _ _ _ _ us hl => match us, hl with | [_], _ => rfl
  have me39 : Meth K C "stripped" f39 := ⟨a39, i39, k39⟩
  refine ⟨PySem.W.fnOf "law" "law" (C8.fnArgs s_law) (C8.fnBody s_law) (C8.fnScope s_law) .none kV35 dc35 pm35 an35 cd35 ct35, [(cS, Ps)], spLaw K Ps, fun p hp => by rw [List.mem_singleton.mp hp]; exact hTab, fun p hp => by rw [List.mem_singleton.mp hp]; exact hNone, fun p hp => by rw [List.mem_singleton.mp hp]; exact PySem.W.codeHd_of_K X hHd, fun s v => .of_eq rfl, fun H a ns hl hb hT hS => ⟨a, ns, rfl, hS, Nat.le_trans hl (by decide), hT _ List.mem_cons_self, fun _ => rfl⟩, fun base _ _ hTB => ?_⟩
  have TB := hTB _ List.mem_cons_self
  have C1 := ok_is_number (P := l.prog) (w := w) (base := base)  F1 b1 T  
  have C2 := ok_is_text (P := l.prog) (w := w) (base := base)  F2 b2 T  
  have C3 := ok__is_within (P := l.prog) (w := w) (base := base)  F3 b3 T C1 C2 
  have C4 := ok_is_word (P := l.prog) (w := w) (base := base)  F4 b4 T C3 
  have C5 := ok_is_host_word (P := l.prog) (w := w) (base := base)  F5 b5 T C3 
  have C6 := ok_is_monitor (P := l.prog) (w := w) (base := base)  F6 b6 T C2 
  have C7 := ok__places_of_atoms (P := l.prog) (w := w) (base := base)  F7 b7 T  
  have C9 := ok_rank_of (P := l.prog) (w := w) (base := base)  F9 b9 T C7 
  have C10 := ok__rank_of_atom (P := l.prog) (w := w) (base := base)  F10 b10 T C9 
  have C11 := ok__most_rank (P := l.prog) (w := w) (base := base)  F11 b11 T  
  have C12 := ok__has_form (P := l.prog) (w := w) (base := base)  F12 b12 T  
  have C13 := ok__is_term (P := l.prog) (w := w) (base := base)  F13 b13 T C4 C12 
  have kA := ok_init (P := l.prog) (w := w) (base := base) mk36 (PySem.W.mg_of X G aC) F36 b36 T C13 C10 C11
  have fN := ok_eqN (P := l.prog) (w := w) (base := base) F37 T
  have ON : OwnS l.prog w K mg base 1 C (spEqN C) := ⟨f37, _, _, fN, a37, i37, b37⟩
  have mSm := ok_is_same (P := l.prog) (w := w) (base := base) me38 T F38 b38
  have C14 := ok__are_equal (P := l.prog) (w := w) (base := base)  F14 b14 T ON oth mSm 
  have fG := ok_eq (P := l.prog) (w := w) (base := base) F37 T C14
  have OG : OwnS l.prog w K mg base 4 C (spEqG C) := ⟨f37, _, _, fG, a37, i37, b37⟩
  have C8 := ok_atoms_in (P := l.prog) (w := w) (base := base)  F8 b8 T OG oth C7 
  obtain ⟨C17, CLS, CLQ⟩ := allW (P := l.prog) (w := w) (base := base) F1 b1 F2 b2 F3 b3 F4 b4 F7 b7 F9 b9 F10 b10 F11 b11 F12 b12 F13 b13 F16 b16 F15 b15 F29 b29 F27 b27 l17 c17 (PySem.W.mg_of X G a17) k17 b17 TB T (PySem.W.mg_of X G aC) mk36 F36 b36 me38 F38 b38 me39 F39 b39
  have C18 := ok__law_begin (P := l.prog) (w := w) (base := base)  F18 b18 T  
  have C19 := ok__law_draw (P := l.prog) (w := w) (base := base)  F19 b19 T  
  have C20 := ok__law_pick (P := l.prog) (w := w) (base := base)  F20 b20 T C19 
  have C21 := ok__law_plain (P := l.prog) (w := w) (base := base)  F21 b21 T C20 
  have dr := ok_drawn (P := l.prog) (w := w) (base := base) F22 b22 F23 b23 F24 b24 T C19 C20 kA
  obtain ⟨_, Ct, Ca⟩ := dr 2
  have Cw3 := (dr 3).1
  have Cw5 := (dr 5).1
  have C25 := ok__law_value (P := l.prog) (w := w) (base := base)  F25 b25 T C19 C20 C21 Ca Cw3 5
  have C26 := ok__law_is_word (P := l.prog) (w := w) (base := base)  F26 b26 T  41
  have C27 := ok__law_same (P := l.prog) (w := w) (base := base)  F27 b27 T  60
  have C28 := ok__law_atoms (P := l.prog) (w := w) (base := base) 60 F28 b28 T C27 60
  have C29 := ok__law_stripped (P := l.prog) (w := w) (base := base)  F29 b29 T kA 60
  have C30 := ok__law_rank (P := l.prog) (w := w) (base := base)  F30 b30 T  130
  have C32 := ok__law_agree (P := l.prog) (w := w) (base := base)  F32 b32 T  
  have FX := ok_initX (P := l.prog) (w := w) (base := base) PySem.F.excBase_ValueError nv F36 T C13 C10 C11
  have C33 := ok__law_refused (P := l.prog) (w := w) (base := base) F33 b33 T nv xc (PySem.W.mg_of X G aE) hxm kNN mk36 FX b36
  have C34 := ok__law_faulty (P := l.prog) (w := w) (base := base)  F34 b34 T C19 C20 Ct 
  have C31 := ok__law_chain (P := l.prog) (w := w) (base := base) (p0 := Ps) F31 b31 T C19 C20 kA C30 C9 C33 C32 C4 C5 
  exact fn_law F35 b35 T OG oth ⟨_, PySem.W.mg_of X G aK, rfl⟩ kI C18 C20 C25 C32 C4 C5 C26 C30 C1 C6 C34 C33 C31 Cw5 C29 C27 C8 C28 C17 CLS CLQ
end Hc
open PySem PySem.W PyProof.Rows
set_option maxRecDepth 100000 in
set_option maxHeartbeats 0 in
theorem PySem.Challenge.cw_hermitcell_k61_what_words_are_holds : PySem.Challenge.rw_hermitcell_k61_what_words_are.Holds := by
  w_on; o_law; k_head; (case hw => w_witness2)
  k_fill
  refine LamX.walk_ofTs (l := PySem.Challenge.rw_hermitcell_k61_what_words_are) (n := 63) (k := 133) (x := "script") (CX := fun _ => C8.CX0) rfl (by decide) rfl ⟨rfl, by decide, by decide⟩ (fun w h Y => PySem.W.km_in_of Y) ?F (fun _ _ _ _ _ h => h)
  case F =>
    intro w mg fa h Y KX G hmg
    refine' Hc.all_mk KX G hmg (PySem.W.km_tabs_of Y _ List.mem_cons_self) ?a1 ?l1 ?c1 ?k1 ?a2 ?l2 ?c2 ?k2 ?a3 ?l3 ?c3 ?k3 ?a4 ?l4 ?c4 ?k4 ?a5 ?l5 ?c5 ?k5 ?a6 ?l6 ?c6 ?k6 ?a7 ?l7 ?c7 ?k7 ?a8 ?l8 ?c8 ?k8 ?a9 ?l9 ?c9 ?k9 ?a10 ?l10 ?c10 ?k10 ?a11 ?l11 ?c11 ?k11 ?a12 ?l12 ?c12 ?k12 ?a13 ?l13 ?c13 ?k13 ?a14 ?l14 ?c14 ?k14 ?a15 ?l15 ?c15 ?k15 ?a16 ?l16 ?c16 ?k16 ?a17 ?l17 ?c17 ?k17 ?a18 ?l18 ?c18 ?k18 ?a19 ?l19 ?c19 ?k19 ?a20 ?l20 ?c20 ?k20 ?a21 ?l21 ?c21 ?k21 ?a22 ?l22 ?c22 ?k22 ?a23 ?l23 ?c23 ?k23 ?a24 ?l24 ?c24 ?k24 ?a25 ?l25 ?c25 ?k25 ?a26 ?l26 ?c26 ?k26 ?a27 ?l27 ?c27 ?k27 ?a28 ?l28 ?c28 ?k28 ?a29 ?l29 ?c29 ?k29 ?a30 ?l30 ?c30 ?k30 ?a31 ?l31 ?c31 ?k31 ?a32 ?l32 ?c32 ?k32 ?a33 ?l33 ?c33 ?k33 ?a34 ?l34 ?c34 ?k34 ?a35 ?l35 ?c35 ?k35 ?aC ?aN ?aE ?aK ?eN ?kN ?sN ?tN ?gN ?hN ?dN ?caN ?moN ?sE ?dE ?tE ?sNE ?kNN ?onn ?oNoneType ?oint ?ostr ?otuple ?lK ?kK ?oK ?a36 ?i36 ?l36 ?c36 ?k36 ?a37 ?i37 ?l37 ?c37 ?k37 ?a38 ?i38 ?l38 ?c38 ?k38 ?a39 ?i39 ?l39 ?c39 ?k39 ?pgC ?hdC ?poC ?saC ?mkC ?kcC ?ha ?hn ?htk ?hm ?me ?nakind ?naterm ?narank ?na_stripped ?qint ?qstr ?qtuple ?qbool ?qlist ?qdict ?rNoneType ?rbool ?rint ?rstr ?rtuple ?rlist ?rdict ?nLEAST ?nGREATEST ?nMOST_CHARACTERS ?nMOST_DEEP ?nMOST_DEEP_HOST ?nMOST_RANK ?nMOST_RANK_HOST ?ztype ?zint ?zstr ?zbool ?ztuple ?zlist ?zrange ?zzip ?zdict ?zlen ?zall ?zmax ?zisinstance ?zabs ?aF ?lF ?kF ?oF ?vtt1 ?wtt1 ?vtt2 ?wtt2 ?vtt3 ?wtt3 ?vtt4 ?wtt4 ?vtt5 ?wtt5 ?vkey ?hNone ?hHd
    (case a1 => k_is)
    (case l1 => k_is)
    (case c1 => k_is)
    (case k1 => k_is)
    (case a2 => k_is)
    (case l2 => k_is)
    (case c2 => k_is)
    (case k2 => k_is)
    (case a3 => k_is)
    (case l3 => k_is)
    (case c3 => k_is)
    (case k3 => k_is)
    (case a4 => k_is)
    (case l4 => k_is)
    (case c4 => k_is)
    (case k4 => k_is)
    (case a5 => k_is)
    (case l5 => k_is)
    (case c5 => k_is)
    (case k5 => k_is)
    (case a6 => k_is)
    (case l6 => k_is)
    (case c6 => k_is)
    (case k6 => k_is)
    (case a7 => k_is)
    (case l7 => k_is)
    (case c7 => k_is)
    (case k7 => k_is)
    (case a8 => k_is)
    (case l8 => k_is)
    (case c8 => k_is)
    (case k8 => k_is)
    (case a9 => k_is)
    (case l9 => k_is)
    (case c9 => k_is)
    (case k9 => k_is)
    (case a10 => k_is)
    (case l10 => k_is)
    (case c10 => k_is)
    (case k10 => k_is)
    (case a11 => k_is)
    (case l11 => k_is)
    (case c11 => k_is)
    (case k11 => k_is)
    (case a12 => k_is)
    (case l12 => k_is)
    (case c12 => k_is)
    (case k12 => k_is)
    (case a13 => k_is)
    (case l13 => k_is)
    (case c13 => k_is)
    (case k13 => k_is)
    (case a14 => k_is)
    (case l14 => k_is)
    (case c14 => k_is)
    (case k14 => k_is)
    (case a15 => k_is)
    (case l15 => k_is)
    (case c15 => k_is)
    (case k15 => k_is)
    (case a16 => k_is)
    (case l16 => k_is)
    (case c16 => k_is)
    (case k16 => k_is)
    (case a17 => k_is)
    (case l17 => k_is)
    (case c17 => k_is)
    (case k17 => k_is)
    (case a18 => k_is)
    (case l18 => k_is)
    (case c18 => k_is)
    (case k18 => k_is)
    (case a19 => k_is)
    (case l19 => k_is)
    (case c19 => k_is)
    (case k19 => k_is)
    (case a20 => k_is)
    (case l20 => k_is)
    (case c20 => k_is)
    (case k20 => k_is)
    (case a21 => k_is)
    (case l21 => k_is)
    (case c21 => k_is)
    (case k21 => k_is)
    (case a22 => k_is)
    (case l22 => k_is)
    (case c22 => k_is)
    (case k22 => k_is)
    (case a23 => k_is)
    (case l23 => k_is)
    (case c23 => k_is)
    (case k23 => k_is)
    (case a24 => k_is)
    (case l24 => k_is)
    (case c24 => k_is)
    (case k24 => k_is)
    (case a25 => k_is)
    (case l25 => k_is)
    (case c25 => k_is)
    (case k25 => k_is)
    (case a26 => k_is)
    (case l26 => k_is)
    (case c26 => k_is)
    (case k26 => k_is)
    (case a27 => k_is)
    (case l27 => k_is)
    (case c27 => k_is)
    (case k27 => k_is)
    (case a28 => k_is)
    (case l28 => k_is)
    (case c28 => k_is)
    (case k28 => k_is)
    (case a29 => k_is)
    (case l29 => k_is)
    (case c29 => k_is)
    (case k29 => k_is)
    (case a30 => k_is)
    (case l30 => k_is)
    (case c30 => k_is)
    (case k30 => k_is)
    (case a31 => k_is)
    (case l31 => k_is)
    (case c31 => k_is)
    (case k31 => k_is)
    (case a32 => k_is)
    (case l32 => k_is)
    (case c32 => k_is)
    (case k32 => k_is)
    (case a33 => k_is)
    (case l33 => k_is)
    (case c33 => k_is)
    (case k33 => k_is)
    (case a34 => k_is)
    (case l34 => k_is)
    (case c34 => k_is)
    (case k34 => k_is)
    (case a35 => k_is)
    (case l35 => k_is)
    (case c35 => k_is)
    (case k35 => k_is)
    (case aC => k_is)
    (case aN => k_is)
    (case aE => k_is)
    (case aK => k_is)
    (case eN => k_exc)
    (case kN => k_is)
    (case sN => k_is)
    (case tN => k_is)
    (case gN => k_is)
    (case hN => k_is)
    (case dN => k_is)
    (case caN => k_is)
    (case moN => k_is)
    (case sE => k_is)
    (case dE => k_is)
    (case tE => k_is)
    (case sNE => k_is)
    (case kNN => kit_is)
    (case onn => k_is)
    (case oNoneType => k_is)
    (case oint => k_is)
    (case ostr => k_is)
    (case otuple => k_is)
    (case lK => k_is)
    (case kK => k_keys)
    (case oK => decide)
    (case a36 => k_is)
    (case i36 => k_is)
    (case l36 => k_is)
    (case c36 => k_is)
    (case k36 => k_is)
    (case a37 => k_is)
    (case i37 => k_is)
    (case l37 => k_is)
    (case c37 => k_is)
    (case k37 => k_is)
    (case a38 => k_is)
    (case i38 => k_is)
    (case l38 => k_is)
    (case c38 => k_is)
    (case k38 => k_is)
    (case a39 => k_is)
    (case i39 => k_is)
    (case l39 => k_is)
    (case c39 => k_is)
    (case k39 => k_is)
    (case pgC => k_is)
    (case hdC => k_is)
    (case poC => k_is)
    (case saC => k_is)
    (case mkC => k_is)
    (case kcC => k_is)
    (case ha => k_is)
    (case hn => k_is)
    (case htk => k_is)
    (case hm => k_is)
    (case me => kit_is)
    (case nakind => k_is)
    (case naterm => k_is)
    (case narank => k_is)
    (case na_stripped => k_is)
    (case qint => kit_is)
    (case qstr => kit_is)
    (case qtuple => kit_is)
    (case qbool => kit_is)
    (case qlist => kit_is)
    (case qdict => kit_is)
    (case rNoneType => kit_is)
    (case rbool => kit_is)
    (case rint => kit_is)
    (case rstr => kit_is)
    (case rtuple => kit_is)
    (case rlist => kit_is)
    (case rdict => kit_is)
    (case nLEAST => k_is)
    (case nGREATEST => k_is)
    (case nMOST_CHARACTERS => k_is)
    (case nMOST_DEEP => k_is)
    (case nMOST_DEEP_HOST => k_is)
    (case nMOST_RANK => k_is)
    (case nMOST_RANK_HOST => k_is)
    (case ztype => k_is)
    (case zint => k_is)
    (case zstr => k_is)
    (case zbool => k_is)
    (case ztuple => k_is)
    (case zlist => k_is)
    (case zrange => k_is)
    (case zzip => k_is)
    (case zdict => k_is)
    (case zlen => k_is)
    (case zall => k_is)
    (case zmax => k_is)
    (case zisinstance => k_is)
    (case zabs => k_is)
    (case aF => k_is)
    (case lF => k_is)
    (case kF => k_keys)
    (case oF => decide)
    (case vtt1 => k_is)
    (case wtt1 => k_is)
    (case vtt2 => k_is)
    (case wtt2 => k_is)
    (case vtt3 => k_is)
    (case wtt3 => k_is)
    (case vtt4 => k_is)
    (case wtt4 => k_is)
    (case vtt5 => k_is)
    (case wtt5 => k_is)
    (case vkey => k_is)
    (case hNone => kernel_rfl)
    (case hHd => kernel_rfl)



import PyProof.Rows.All
import Wide.All
import OpenK.AllK
import Wide.FinOn
import HandS.ForMost
import HandS.Codes
import HandS.IsInst
import HandS.More
import HandS.OwnEq
import HandS.EndBits
import HandS.Style
import PyProof.Rows.CallKwBuiltin
import KE.KMinKey
import HandS.SortKw
import HandS.Walk
import HandS.Zip
import HandS.TupAny
import HandS.TupMul
import HandS.Exc
import HandS.ExcOwn
import HandS.Small
import HandS.WordsExc
import HandS.DictComp
import HandS.ExcIs
import KE.RegKIsAll
import HandS.TupLe
import PySem.Challenge.RW_hermitcell_k63_verifiers_take_tokens
set_option Elab.async false
set_option maxRecDepth 100000
set_option maxHeartbeats 4000000
set_option linter.all false
/-! Rules that the layer lacks. -/
namespace Hr
open PySem PySem.SeqAt PyProof.Rows
open AutoSeq1 (wpAny_loadPart')
open MeetsSeq MeetsSeq2 MeetsSeq3 SeqRoads2
/-! ### x in l: the items' == may run code -/
section
variable {prog : Program} {w : World} {A : Around} {E : Value → Shared → Prop}
/-- the list stands still, its items are asked one by one -/
structure Asks (prog : Program) (w : World) (A : Around) (E : Value → Shared → Prop) (l : Addr) (x : Value) (J : Shared → Prop) (bs : List Bool) : Prop where
  at_ : ∀ s, J s → ∃ (items : Array Value) (n : Nat), s.heap.get? l = some { cls := .type "list", data := .seq items n } ∧ items.size = bs.length ∧
    ∀ (i : Nat) (h : i < items.size) (h2 : i < bs.length), wpAny (model prog w) A.in1 (eqBool items[i] x) (fun r s' => r = bs[i] ∧ J s') E s
theorem in_loop {R : Result → Shared → Prop} {l : Addr} {x : Value} {J : Shared → Prop} {bs : List Bool} (hl : Asks prog w A (fun e s' => R (.error e) s') l x J bs) (k : Nat) :
    ∀ i : Nat, bs.length - i = k → ∀ s, J s → (∀ s', J s' → R (.ok (.ret (.bool ((bs.drop i).any id)))) s') →
      wpAny (model prog w) A.in1 (Builtin.«list.__contains__.loop» ⟨[.ref l, x, rawInt i], []⟩) (GQ.FinOf prog w A R) (fun e s' => R (.error e) s') s := by
  induction k with
  | zero =>
    intro i hk s h fin
    obtain ⟨items, n, hg, hz, _⟩ := hl.at_ _ h
    have f := fin s h
    rw [List.drop_eq_nil_of_le (by omega)] at f
    obtain ⟨hp, g, d, tk, os⟩ := s
    wp_walk using wpAny_loadPart' hg
    have hi : items[((i : Nat) : Int).toNat]? = none := by simp; omega
    rw [hi]
    wp_walk
    exact f
  | succ k ih =>
    intro i hk s h fin
    obtain ⟨items, n, hg, hz, turn⟩ := hl.at_ _ h
    have h1 : i < items.size := by omega
    have h2 : i < bs.length := by omega
    have ht := turn i h1 h2
    obtain ⟨hp, g, d, tk, os⟩ := s
    wp_walk using wpAny_loadPart' hg
    have hi : items[((i : Nat) : Int).toNat]? = some items[i] := by simp [h1]
    have hd : (bs.drop i).any id = (bs[i] || (bs.drop (i + 1)).any id) := by rw [List.drop_eq_getElem_cons h2, List.any_cons]; rfl
    rw [hd] at fin
    rw [hi]
    refine wpAny_bind (wpAny_mono ht (fun r s2 q2 => ?_) fun _ _ z => z)
    obtain ⟨hr, j2⟩ := q2
    subst hr
    cases hb : bs[i] with
    | true =>
      rw [hb] at fin
      have f := fin s2 j2
      obtain ⟨hp2, g2, d2, tk2, os2⟩ := s2
      wp_walk
      exact f
    | false =>
      rw [hb] at fin
      have rec_ := ih (i + 1) (by omega) s2 j2 fin
      have hc : ((i : Int) + 1) = ((i + 1 : Nat) : Int) := by omega
      obtain ⟨hp2, g2, d2, tk2, os2⟩ := s2
      wp_walk
      rw [hc]
      exact ⟨plainId_quiet plain_contains_loop _, codeAny_builtin entry_contains_loop (by
        rw [Around.under_plainId plain_contains_loop _]
        exact rec_)⟩
theorem in_list {R : Result → Shared → Prop} {l : Addr} {x : Value} {J : Shared → Prop} {bs : List Bool} (hl : Asks prog w A (fun e s' => R (.error e) s') l x J bs) {s : Shared} (h : J s)
    (fin : ∀ s', J s' → R (.ok (.ret (.bool (bs.any id)))) s') :
    wpAny (model prog w) A.in1 (Builtin.«list.__contains__» ⟨[.ref l, x], []⟩) (GQ.FinOf prog w A R) (fun e s' => R (.error e) s') s := by
  obtain ⟨items, n, hg, hz, _⟩ := hl.at_ _ h
  have rec_ := in_loop (A := A) hl _ 0 rfl s h (by simpa using fin)
  obtain ⟨hp, g, d, tk, os⟩ := s
  wp_walk using wpAny_loadPart' hg
  exact ⟨plainId_quiet plain_contains_loop _, codeAny_builtin entry_contains_loop (by
    rw [Around.under_plainId plain_contains_loop _]
    exact rec_)⟩
theorem call_in {l : Addr} {x : Value} {J : Shared → Prop} {bs : List Bool} {Q : Value → Shared → Prop} (hl : Asks prog w A E l x J bs) {s : Shared} (h : J s) (fin : ∀ s', J s' → Q (.bool (bs.any id)) s') :
    wpAny (model prog w) A (call (.builtin "list.__contains__") [.ref l, x]) Q E s := by
  obtain ⟨items, n, hg, _, _⟩ := hl.at_ _ h
  exact GQ.call_here F.slot_list_contains ⟨_, hg, rfl⟩ F.entry_list_contains (F.args_list_contains_2 _ _) (in_list (R := wants Q E) hl h fin)
theorem op_in_ {l : Addr} {x : Value} {J : Shared → Prop} {bs : List Bool} {Q : Value → Shared → Prop} (hl : Asks prog w A E l x J bs) {s : Shared} (h : J s) (fin : ∀ s', J s' → Q (.bool (bs.any id)) s') :
    wpAny (model prog w) A (compareOp .In x (.ref l)) Q E s := by
  obtain ⟨items, n, hg, _, _⟩ := hl.at_ _ h
  show wpAny _ _ (do return .bool (← contains (.ref l) x)) Q E s
  refine wpAny_bind (wpAny_contains_slot ⟨_, hg, rfl⟩ F.slot_list_contains ?_)
  exact call_in hl h fun s' j => wpAny_truthy_bool (wpAny_pure (fin s' j))
theorem op_notIn_ {l : Addr} {x : Value} {J : Shared → Prop} {bs : List Bool} {Q : Value → Shared → Prop} (hl : Asks prog w A E l x J bs) {s : Shared} (h : J s) (fin : ∀ s', J s' → Q (.bool (!bs.any id)) s') :
    wpAny (model prog w) A (compareOp .NotIn x (.ref l)) Q E s := by
  obtain ⟨items, n, hg, _, _⟩ := hl.at_ _ h
  show wpAny _ _ (do return .bool (!(← contains (.ref l) x))) Q E s
  refine wpAny_bind (wpAny_contains_slot ⟨_, hg, rfl⟩ F.slot_list_contains ?_)
  exact call_in hl h fun s' j => wpAny_truthy_bool (wpAny_pure (fin s' j))
end
end Hr

namespace Hr
open PySem PySem.Spec PyProof.Rows L2
/-! ### t[::-1] of a tuple -/
section
variable {prog : Program} {w : World} {A : Around} {E : Value → Shared → Prop} {s : Shared}
theorem rev_adj (n : Nat) : Builtin.Slice.sliceAdjust none none (-1) (n : Int) = ((n : Int) - 1, -1) := rfl
theorem rev_places (n : Nat) : Builtin.Slice.slicePlaces ((n : Int) - 1) (-1) (-1) = n := by
  unfold Builtin.Slice.slicePlaces
  rw [if_neg (by decide)]
  by_cases h : (n : Int) - 1 > -1
  · rw [if_pos h, show (-(-1) : Int) = 1 by decide, Int.ediv_one]; omega
  · rw [if_neg h]; omega
theorem rev_pick (xs : Array Value) : ((List.range xs.size).filterMap fun (m : Nat) => xs[((xs.size : Int) - 1 + (m : Int) * -1).toNat]?).toArray = xs.toList.reverse.toArray := by
  congr 1
  have key : ∀ m, m < xs.size → xs[((xs.size : Int) - 1 + (m : Int) * -1).toNat]? = xs.toList.reverse[m]? := fun m hm => by
    rw [List.getElem?_reverse (by simpa using hm), Array.length_toList, ← Array.getElem?_toList]
    congr 1
    omega
  have aux : ∀ (l : List Value), (List.range l.length).filterMap (fun m => l[m]?) = l := fun l => by
    induction l with
    | nil => rfl
    | cons x r ih =>
      rw [List.length_cons, List.range_succ_eq_map, List.filterMap_cons]
      show x :: _ = _
      rw [List.filterMap_map]
      exact congrArg (x :: ·) ih
  have e := aux xs.toList.reverse
  rw [List.length_reverse, Array.length_toList] at e
  have cong : ∀ (f g : Nat → Option Value) (l : List Nat), (∀ m ∈ l, f m = g m) → l.filterMap f = l.filterMap g := fun f g l => by
    induction l with
    | nil => exact fun _ => rfl
    | cons x r ih =>
      intro h
      rw [List.filterMap_cons, List.filterMap_cons, h x List.mem_cons_self, ih fun m hm => h m (List.mem_cons_of_mem _ hm)]
  exact (cong _ _ _ fun m hm => key m (List.mem_range.mp hm)).trans e
theorem getItem_tuple_rev {t sl : Addr} {items : Array Value} {vs : Value} {Q : Value → Shared → Prop} (ht : IsTup s.heap t items) (hs : s.heap.IsSliceOf sl .none .none vs) (ps : IsPart vs (some (-1)))
    (h : Q (.ref s.heap.objs.size) { s with heap := s.heap.push { cls := .type "tuple", data := .seq items.toList.reverse.toArray } }) (hz : items.size ≤ sizeLine) : wpAny (model prog w) A (getItem (.ref t) (.ref sl)) Q E s := by
  have hok : sizeOk (.seq items.toList.reverse.toArray) := by
    show items.toList.reverse.toArray.size ≤ sizeLine
    rw [List.size_toArray, List.length_reverse, Array.length_toList]; exact hz
  obtain ⟨os, hos, hcs, hds⟩ := id hs
  have hT : s.TypeIs (.ref sl) "slice" := ⟨os, hos, hcs⟩
  unfold getItem
  try with_reducible refine wpAny_holding ?_
  first | refine wpAny_bind (wpAny_pure ?_) | skip
  refine wpAny_bind (wpAny_sequenceKey ht.typeIs (by decide) ?_)
  refine wpAny_bind (wpAny_callSpecial?_slot (name := Str.ofString "__getitem__") ht.typeIs PyProof.Rows.slot_tuple_getitem
    (wpAny_call_entry PyProof.Rows.slot_tuple_getitem ht.typeIs entry_tuple_getitem ?_ (args_tuple_getitem _ _)))
  show wpAny _ _ (Builtin.Tuple.tupleItemsOf (.ref t) >>= _) _ _ s
  refine wpAny_bind (tupleItemsOf_ ht ?_)
  refine wpAny_bind (wpAny_typeOf hT ?_)
  rw [if_pos (by decide)]
  have happ : ∀ {Q' : Int × Int × Nat → Shared → Prop} {E' : Value → Shared → Prop} {A' : Around}, Q' ((items.size : Int) - 1, -1, items.size) s → wpAny (model prog w) A' (Builtin.Slice.sliceApplied (.ref sl) (pure (items.size : Int))) Q' E' s := fun {Q' E' A'} q => by
    unfold Builtin.Slice.sliceApplied Builtin.Slice.sliceFields
    refine wpAny_bind (wpAny_bind (wpAny_field hos hds (x := .none) rfl (wpAny_bind (wpAny_field hos hds (x := .none) rfl (wpAny_bind (wpAny_field hos hds (x := vs) rfl (wpAny_pure ?_)))))))
    cases ps with
    | int i u =>
      refine wpAny_bind (slicePart_int ?_)
      show wpAny _ _ (if ((-1 : Int) == 0) = true then _ else _) _ _ s
      rw [if_neg (by decide)]
      refine wpAny_bind (slicePart_none (wpAny_bind (slicePart_none (wpAny_bind (wpAny_pure ?_)))))
      show wpAny _ _ (match Builtin.Slice.sliceAdjust none none (-1) (items.size : Int) with | (lo, hi) => pure (lo, (-1 : Int), Builtin.Slice.slicePlaces lo hi (-1))) _ _ s
      rw [rev_adj]
      show wpAny _ _ (pure ((items.size : Int) - 1, (-1 : Int), Builtin.Slice.slicePlaces ((items.size : Int) - 1) (-1) (-1))) _ _ s
      rw [rev_places]
      exact wpAny_pure q
  refine wpAny_bind (happ ?_)
  show wpAny _ _ (if (((items.size : Int) - 1) == 0 && (-1 : Int) == 1 && items.size == items.size) = true then _ else _) _ _ s
  rw [if_neg (by simp), rev_pick]
  first
    | exact wpAny_bind (m := Builtin.Tuple.tupleExact _) (wpAny_newObj_type (wpAny_pure ⟨_, rfl, wpAny_pure h⟩) hok)
    | exact wpAny_bind (m := Builtin.Tuple.tupleExact _) (wpAny_newObj_type (wpAny_bind (wpAny_pure (wpAny_pure ⟨_, rfl, wpAny_pure h⟩))) hok)
    | exact wpAny_bind (wpAny_bind (m := Builtin.Tuple.tupleExact _) (wpAny_newObj_type (wpAny_pure (wpAny_pure ⟨_, rfl, wpAny_pure h⟩)) hok))
    | exact wpAny_bind (wpAny_bind (m := Builtin.Tuple.tupleExact _) (wpAny_newObj_type (wpAny_pure ⟨_, rfl, wpAny_pure h⟩) hok))
end
def tRevT (K : PySem.W.Frag) (te : TE) : TE := fun σ H Q => te σ H fun x H1 => ∃ a xs, x = .ref a ∧ SqT K H1 a xs ∧ ∀ p, H1 p = none → Q (.ref p) (upd H1 p (.tup xs.reverse))
theorem pe_revT {X : Cx} {e : Expr} {te : TE} {k : Nat} {p1 p2 p3 pos : Pos} (he : PE X e te) : PE X (.Subscript e (.Slice none none (some (.UnaryOp .USub (.Constant (.int 1) k p1) p2)) p3) pos) (tRevT X.K te) := by
  refine ⟨fun pins s σ H Q I h => ?_⟩
  refine Subscript_ (thn (he.run pins s σ H _ I h) fun v s1 ⟨x, H1, I1, r1, a, xs, ex, hx, q⟩ => ?_)
  subst ex
  cases r1
  have part : PO X (some (.UnaryOp .USub (.Constant (.int 1) k p1) p2)) (tPart (tUn (rU fun i => .int (-i)) (tC (.int 1)))) := po_some (pe_un un_neg pe_int)
  refine wpAny_Slice (thn (po_none.run pins s1 σ H1 (fun o H2 => o = none ∧ H2 = H1) I1 ⟨rfl, rfl⟩) fun vl s2 ⟨l, H2, I2, pl, el, e2⟩ => ?_)
  subst el e2
  refine thn (po_none.run pins s2 σ H2 (fun o H3 => o = none ∧ H3 = H2) I2 ⟨rfl, rfl⟩) fun vu s3 ⟨u, H3, I3, pu, eu, e3⟩ => ?_
  subst eu e3
  refine thn (part.run pins s3 σ H3 (fun o H4 => o = some (-1) ∧ H4 = H3) I3 ⟨1, rfl, -1, rfl, rfl, rfl⟩) fun vs s4 ⟨o, H4, I4, ps, eo, e4⟩ => ?_
  subst eo e4
  have I5 : Inv X pins σ H4 { s4 with heap := s4.heap.push { cls := .type "slice", data := .fields #[vl, vu, vs] } } := I4.kept (t' := s4.toks) fun b ob z => Heap.get?_push_of_some _ z
  obtain ⟨its, r, ht, hz⟩ := I5.tuple hx
  have hlen := r.length
  show wpAny (model X.prog X.w) X.A (subscriptTail e (.Slice none none (some (.UnaryOp .USub (.Constant (.int 1) k p1) p2)) p3) (.ref a) (.ref s4.heap.objs.size)) (EP X pins σ Q) X.xe { s4 with heap := s4.heap.push { cls := .type "slice", data := .fields #[vl, vu, vs] } }
  cases pl
  cases pu
  refine tail_any (ops := [.ref a, .ref s4.heap.objs.size]) ht.typeIs PyProof.Rows.slot_tuple_getitem.lookup ?_ (by with_unfolding_all rfl)
  refine getItem_tuple_rev ht (Heap.IsSliceOf.new _ .none .none vs) ps ?_ (by rw [List.size_toArray]; omega)
  refine ⟨.ref _, _, I5.laid (t' := s4.toks) (o := .tup xs.reverse) (fun b ob z => Heap.get?_push_of_some _ z) (Nat.le_refl _) ?_, rfl, q _ (I5.hok.fresh (Nat.le_refl _))⟩
  exact ⟨by rw [List.length_reverse]; exact hz, its.toArray.toList.reverse, by simpa using r.reverse, IsTup.new _ _⟩
end Hr

namespace Hr
open PySem PySem.Spec PyProof.Rows
/-! ### max(xs, default=d) -/
section
variable {prog : Program} {w : World} {A : Around} {R : Result → Shared → Prop} {I : Addr} {fp wr : List Addr} {n : Nat} {P : Nat → Value → Prop} {St : Nat → Heap → Prop} {kw : List (Str × Value)}
theorem max_loopK (W : Walks prog w A.in1 I fp wr n P St) (bt : Nat → Nat → Bool) (hcmp : CmpOf prog w A.in1 .Gt P bt) (S : Addr) (hSf : S ∉ fp) :
    ∀ (k j : Nat) (s : Shared) (vb : Value) (c : Nat), n - (j + 1) = k → j + 1 ≤ n → St (j + 1) s.heap → P (argBest bt j) vb →
    s.heap.get? S = some { cls := .type "list", dict := none, data := .seq #[vb, vb] c, slots := #[] } →
    (∀ v h' tk, P (argBest bt (n - 1)) v → (∀ b o, b ∉ wr → b ≠ S → s.heap.get? b = some o → h'.get? b = some o) → R (.ok (.ret v)) { s with heap := h', toks := tk }) →
    codeAny (model prog w) A (.builtin "max.loop" ⟨[.ref I, .none, .ref S], kw⟩) R s := by
  have hSw : S ∉ wr := fun h => hSf (W.sub _ h)
  have nm : (toString "max" ++ toString ".loop" : String) = "max.loop" := by decide
  intro k
  induction k with
  | zero =>
    intro j s vb c hk hj hst hPb hS hR
    have hin : j + 1 = n := by omega
    refine codeAny_builtin F.entry_max_loop ?_
    rw [Around.under_plainId F.plain_max_loop _]
    show wpAny _ A.in1 (seqItems? (.ref S) >>= _) _ _ s
    refine wpAny_bind (wpAny_seqItems hS rfl ?_)
    show wpAny _ A.in1 (tryCatch (pyNext (.ref I)) _ >>= _) _ _ s
    refine wpAny_bind (wpAny_tryCatch (W.done s _ _ (hin ▸ hst) fun h' tk hk' => ?_))
    have hS' := hk' S _ hSw hS
    show wpAny _ A.in1 (updateSeq S (fun _ => #[]) >>= _) _ _ _
    refine wpAny_bind ?_
    refine wpAny_updateSeq hS' rfl (wpAny_bind (wpAny_letGo (wpAny_pure ?_)))
    exact hR vb _ tk (by rw [← hin]; exact hPb) fun b o hbw hbS e => (Heap.get?_update_other _ _ (Ne.symm hbS)).trans (hk' b o hbw e)
  | succ k ih =>
    intro j s vb c hk hj hst hPb hS hR
    have hlt : j + 1 < n := by omega
    refine codeAny_builtin F.entry_max_loop ?_
    rw [Around.under_plainId F.plain_max_loop _]
    show wpAny _ A.in1 (seqItems? (.ref S) >>= _) _ _ s
    refine wpAny_bind (wpAny_seqItems hS rfl ?_)
    show wpAny _ A.in1 (tryCatch (pyNext (.ref I)) _ >>= _) _ _ s
    refine wpAny_bind (wpAny_tryCatch (W.item (j + 1) s _ _ hlt hst fun v h' tk hP hst' hk' => ?_))
    have hS' := hk' S _ hSw hS
    show wpAny _ A.in1 (tryCatch (holding [v, v] (richCompare .Gt v vb >>= _)) _ >>= _) _ _ _
    refine wpAny_bind (wpAny_tryCatch (wpAny_holding (wpAny_bind (hcmp (j + 1) (argBest bt j) v vb _ _ _ hP hPb ?_))))
    refine wpAny_bind (wpAny_holding (wpAny_truthy_bool ?_))
    refine wpAny_bind (wpAny_letGo (wpAny_pure ?_))
    cases hb : bt (j + 1) (argBest bt j) with
    | true =>
      simp only [if_true]
      refine wpAny_bind ?_
      refine wpAny_updateSeq hS' rfl (wpAny_bind (wpAny_letGo ?_))
      rw [nm]
      refine wpAny_pure ⟨plainId_quiet F.plain_max_loop _, ih (j + 1) _ v _ (by omega) hlt (W.frame _ _ _ hst' fun b hbf o e => ?_) (by simp only [argBest, hb, if_true]; exact hP) (Heap.get?_update_self _ hS' rfl)
        fun v' h'' tk'' hP' hk'' => ?_⟩
      · exact (Heap.get?_update_other _ _ (fun h : S = b => hSf (by rw [h]; exact hbf))).trans e
      · exact hR v' h'' tk'' hP' fun b o hbw hbS e => hk'' b o hbw hbS ((Heap.get?_update_other _ _ (Ne.symm hbS)).trans (hk' b o hbw e))
    | false =>
      simp only [Bool.false_eq_true, if_false]
      refine wpAny_bind (wpAny_letGo ?_)
      rw [nm]
      refine wpAny_pure ⟨plainId_quiet F.plain_max_loop _, ih (j + 1) _ vb c (by omega) hlt hst' (by simp only [argBest, hb, Bool.false_eq_true, if_false]; exact hPb) hS' fun v' h'' tk'' hP' hk'' => ?_⟩
      exact hR v' h'' tk'' hP' fun b o hbw hbS e => hk'' b o hbw hbS (hk' b o hbw e)
theorem max_firstK (W : Walks prog w A.in1 I fp wr n P St) (bt : Nat → Nat → Bool) (hcmp : CmpOf prog w A.in1 .Gt P bt) (S : Addr) (hSf : S ∉ fp) (hn : 0 < n) {s : Shared} {c : Nat} (hst : St 0 s.heap)
    (hS : s.heap.get? S = some { cls := .type "list", dict := none, data := .seq #[] c, slots := #[] })
    (hR : ∀ v h' tk, P (argBest bt (n - 1)) v → (∀ b o, b ∉ wr → b ≠ S → s.heap.get? b = some o → h'.get? b = some o) → R (.ok (.ret v)) { s with heap := h', toks := tk }) :
    codeAny (model prog w) A (.builtin "max.loop" ⟨[.ref I, .none, .ref S], kw⟩) R s := by
  have hSw : S ∉ wr := fun h => hSf (W.sub _ h)
  have nm : (toString "max" ++ toString ".loop" : String) = "max.loop" := by decide
  refine codeAny_builtin F.entry_max_loop ?_
  rw [Around.under_plainId F.plain_max_loop _]
  show wpAny _ A.in1 (seqItems? (.ref S) >>= _) _ _ s
  refine wpAny_bind (wpAny_seqItems hS rfl ?_)
  show wpAny _ A.in1 (tryCatch (pyNext (.ref I)) _ >>= _) _ _ s
  refine wpAny_bind (wpAny_tryCatch (W.item 0 s _ _ hn hst fun v h' tk hP hst' hk' => ?_))
  have hS' := hk' S _ hSw hS
  show wpAny _ A.in1 (updateSeq S (fun _ => #[v, v]) >>= _) _ _ _
  refine wpAny_bind ?_
  refine wpAny_updateSeq hS' rfl ?_
  rw [nm]
  refine wpAny_pure ⟨plainId_quiet F.plain_max_loop _, max_loopK W bt hcmp S hSf _ 0 _ v _ rfl hn (W.frame _ _ _ hst' fun b hbf o e => ?_) hP (Heap.get?_update_self _ hS' rfl) fun v' h'' tk'' hP' hk'' => ?_⟩
  · exact (Heap.get?_update_other _ _ (fun h : S = b => hSf (by rw [h]; exact hbf))).trans e
  · exact hR v' h'' tk'' hP' fun b o hbw hbS e => hk'' b o hbw hbS ((Heap.get?_update_other _ _ (Ne.symm hbS)).trans (hk' b o hbw e))
/-- nothing there: the default -/
theorem max_noneK {d : Value} (W : Walks prog w A.in1 I fp wr 0 P St) (S : Addr) (hSf : S ∉ fp) {s : Shared} {c : Nat} (hst : St 0 s.heap)
    (hS : s.heap.get? S = some { cls := .type "list", dict := none, data := .seq #[] c, slots := #[] })
    (hR : ∀ h' tk, (∀ b o, b ∉ wr → b ≠ S → s.heap.get? b = some o → h'.get? b = some o) → R (.ok (.ret d)) { s with heap := h', toks := tk }) :
    codeAny (model prog w) A (.builtin "max.loop" ⟨[.ref I, .none, .ref S], [(Str.ofString "default", d)]⟩) R s := by
  refine codeAny_builtin F.entry_max_loop ?_
  rw [Around.under_plainId F.plain_max_loop _]
  show wpAny _ A.in1 (seqItems? (.ref S) >>= _) _ _ s
  refine wpAny_bind (wpAny_seqItems hS rfl ?_)
  show wpAny _ A.in1 (tryCatch (pyNext (.ref I)) _ >>= _) _ _ s
  refine wpAny_bind (wpAny_tryCatch (W.done s _ _ hst fun h' tk hk' => ?_))
  exact wpAny_bind (wpAny_rule (wpAny_pure (hR h' tk fun b o hbw _ e => hk' b o hbw e)))
end
theorem max_default_args (a v : Value) : argsOk "max" ⟨[a], [(Str.ofString "default", v)]⟩ := by unfold argsOk; kernel_rfl
section
variable {prog : Program} {w : World} {A : Around} {E : Value → Shared → Prop} {s : Shared}
theorem call_maxD {l : Addr} {xs : Array (Int × Tok)} {d : Value} {Q : Value → Shared → Prop} (hh : A.handled = none) (hl : s.heap.IsList l (intItems xs))
    (h : ∀ v h' tk, (xs.size = 0 ∧ v = d ∨ 0 < xs.size ∧ (intItems xs)[argBest (fun i j => decide (numAt xs i > numAt xs j)) (xs.size - 1)]? = some v) → (∀ b o, s.heap.get? b = some o → h'.get? b = some o) → Q v { s with heap := h', toks := tk }) :
    wpAny (model prog w) A (call (.builtin "max") [.ref l] [(Str.ofString "default", d)]) Q E s := by
  have nm : (toString "max" ++ toString ".loop" : String) = "max.loop" := by decide
  refine PyProof.Rows.kmk_tree F.kind_max F.plain_max F.entry_max (max_default_args _ _) ?_
  show wpAny _ A.in1 (Builtin.Builtins.bindParams "max" ["key", "default"] 0 ⟨[], [(Str.ofString "default", d)]⟩ >>= _) _ _ s
  refine wpAny_bind (wpAny_of_eq (show Builtin.Builtins.bindParams "max" ["key", "default"] 0 ⟨[], [(Str.ofString "default", d)]⟩ = pure [none, some d] from rfl) ?_)
  refine wpAny_bind (wpAny_pure ?_)
  refine wpAny_bind (iter_intList hl fun s₂ e st hfp hlI => ?_)
  subst e
  refine wpAny_bind (wpAny_newObj_type ?_)
  have W := Walks.list (prog := prog) (w := w) (A := A.in1) hh s.heap.objs.size l hlI (intItems xs)
  have hSf : (s.heap.push { cls := .type "list_iterator", data := .fields #[.ref l, .int 0 0] }).objs.size ∉ [s.heap.objs.size, l] := fun hm => Nat.lt_irrefl _ (hfp _ hm)
  have hz : (intItems xs).size = xs.size := by simp [intItems]
  rw [nm]
  refine wpAny_pure ⟨plainId_quiet F.plain_max_loop _, ?_⟩
  have fin : ∀ v h' tk, (xs.size = 0 ∧ v = d ∨ 0 < xs.size ∧ (intItems xs)[argBest (fun i j => decide (numAt xs i > numAt xs j)) (xs.size - 1)]? = some v) →
      (∀ b o, b ∉ [s.heap.objs.size] → b ≠ (s.heap.push { cls := .type "list_iterator", data := .fields #[.ref l, .int 0 0] }).objs.size →
        ((s.heap.push { cls := .type "list_iterator", data := .fields #[.ref l, .int 0 0] }).push { cls := .type "list", data := .seq #[] }).get? b = some o → h'.get? b = some o) →
      wants Q E (.ok (.ret v)) { s with heap := h', toks := tk } := fun v h' tk hv hk => by
    refine h v h' tk hv (old_kept (l := l) fun b o hb e => ?_)
    exact hk b o hb (Nat.ne_of_lt (Heap.lt_size e)) (Heap.get?_push_of_some _ e)
  by_cases hn : 0 < xs.size
  · refine max_firstK W _ (CmpOf.ints_gt (numAt xs) (fun _ _ => intItems_at)) _ hSf (by rw [hz]; exact hn) (W.frame _ _ _ st fun b _ o e => Heap.get?_push_of_some _ e) (Heap.get?_push_size _ rfl) fun v h' tk hP hk => ?_
    exact fin v h' tk (.inr ⟨hn, by rw [hz] at hP; exact hP⟩) hk
  · have hn0 : xs.size = 0 := by omega
    have W0 : Walks prog w A.in1 s.heap.objs.size [s.heap.objs.size, l] [s.heap.objs.size] 0 (fun i v => (intItems xs)[i]? = some v) (fun i h => h.IsListIter s.heap.objs.size l i ∧ h.IsList l (intItems xs)) := by
      have W' := W
      rw [hz, hn0] at W'
      exact W'
    refine max_noneK W0 _ hSf (W.frame _ _ _ st fun b _ o e => Heap.get?_push_of_some _ e) (Heap.get?_push_size _ rfl) fun h' tk hk => ?_
    exact fin d h' tk (.inl ⟨hn0, rfl⟩) hk
end
end Hr

namespace Hr
open PySem PySem.Spec PyProof.Rows L2
def rMaxD (K : PySem.W.Frag) : List V → List V → Hp → VK → Prop := fun vs zs H Q => ∃ (a : Addr) (ns : List Int) (d : Int), vs = [.ref a] ∧ zs = [.int d] ∧ SqL K H a (ns.map V.int) ∧
  ∀ m, (ns = [] → m = d) → (ns ≠ [] → m ∈ ns ∧ ∀ k ∈ ns, k ≤ m) → Q (.int m) H
theorem call_maxDK {X : Cx} (hc : X.calm = true) : CallRK X (.builtin "max") [Str.ofString "default"] (rMaxD X.K) := by
  intro pins s σ H xs zs us ws Q I r1 r2 h
  obtain ⟨a, ns, d, rfl, rfl, hs, q⟩ := h
  obtain ⟨its, rv, pl, hz⟩ := I.list hs
  rw [Vals.ref1 r1]
  obtain ⟨wd, rfl, rd⟩ := vals1 r2
  obtain ⟨td, rfl⟩ := rd
  have hi : IntsAre its ns := intsAre_of rv
  obtain ⟨ps, e⟩ := hi.allInts.items
  have hns : ns = ps.toList.map (·.1) := by rw [← hi.numsOf, ← nums_intItems, ← e]
  have hl := pl.isList
  rw [e] at hl
  show wpAny (model X.prog X.w) X.A (call (.builtin "max") [.ref a] [(Str.ofString "default", .int d td)]) (EP X pins σ Q) X.xe s
  refine call_maxD (I.ok.hd hc) hl fun v h' tk hv hk => ?_
  have I2 : Inv X pins σ H { s with heap := h', toks := tk } := I.kept fun b o z => hk b o z
  rcases hv with ⟨h0, rfl⟩ | ⟨hp, hv⟩
  · have hn0 : ns = [] := by
      rw [hns, List.map_eq_nil_iff]
      exact List.eq_nil_of_length_eq_zero (by rw [Array.length_toList]; exact h0)
    exact ⟨.int d, H, I2, ⟨_, rfl⟩, q d (fun _ => rfl) (fun z => absurd hn0 z)⟩
  · obtain ⟨t, rfl⟩ := intItems_at hv
    obtain ⟨h1, h2⟩ := argBest_gt (numAt ps) (ps.size - 1)
    refine ⟨.int _, H, I2, ⟨_, rfl⟩, q _ (fun z => ?_) fun _ => ⟨?_, fun k hk' => ?_⟩⟩
    · rw [hns, List.map_eq_nil_iff] at z
      have z2 : ps.size = 0 := by rw [← Array.length_toList, z]; rfl
      omega
    · rw [hns, numAt_eq]; exact getD_mem (by rw [List.length_map, Array.length_toList]; omega)
    · rw [hns] at hk'
      obtain ⟨j, hj, rfl⟩ := mem_getD hk'
      rw [List.length_map, Array.length_toList] at hj
      rw [← numAt_eq]; exact h2 j (by omega)
/-! ### plain data with atoms -/
inductive D where
  | non | bl (b : Bool) | int (i : Int) | str (s : Str) | tup (ds : List D) | lst (ds : List D) | dct | atom (k : Str) (ds : List D)
mutual
def rank : D → Nat
  | .tup ds => rankL ds
  | .atom k ds => if k = "seal" ∨ k = "page" then 1 else rankL ds + 1
  | _ => 0
def rankL : List D → Nat
  | [] => 0
  | d :: ds => max (rank d) (rankL ds)
end
mutual
/-- how many parts there are, those in atoms too -/
def sz : D → Nat
  | .tup ds => szL ds + 1
  | .lst ds => szL ds + 1
  | .atom _ ds => szL ds + 1
  | _ => 1
def szL : List D → Nat
  | [] => 0
  | d :: ds => sz d + szL ds
end
/-- the fields of an atom -/
def atF (k : Str) (t : Addr) (r : Nat) : List (Str × V) := [("kind", .str k), ("term", .ref t), ("rank", .int (r : Int)), ("_stripped", .non)]
mutual
inductive Is (C : Addr) (H : Hp) : V → D → Prop
  | non : Is C H .non .non
  | bl (b : Bool) : Is C H (.bl b) (.bl b)
  | int (i : Int) : Is C H (.int i) (.int i)
  | str (s : Str) : Is C H (.str s) (.str s)
  | tup {a : Addr} {xs : List V} {ds : List D} (h : H a = some (.tup xs)) (t : IsA C H xs ds) : Is C H (.ref a) (.tup ds)
  | lst {a : Addr} {xs : List V} {ds : List D} (h : H a = some (.lst xs)) (t : IsA C H xs ds) : Is C H (.ref a) (.lst ds)
  | dct {a : Addr} {kvs : List (Key × V)} (h : H a = some (.dK kvs)) : Is C H (.ref a) .dct
  | atom {a dx t : Addr} {k : Str} {xs : List V} {ds : List D} (h : H a = some (.ins C dx (atF k t (rank (.atom k ds))))) (h2 : H t = some (.tup xs)) (t : IsA C H xs ds) : Is C H (.ref a) (.atom k ds)
inductive IsA (C : Addr) (H : Hp) : List V → List D → Prop
  | nil : IsA C H [] []
  | cons {x : V} {xs : List V} {d : D} {ds : List D} (h : Is C H x d) (t : IsA C H xs ds) : IsA C H (x :: xs) (d :: ds)
end
mutual
theorem Is.same {C : Addr} {H H' : Hp} (e : Same H H') : ∀ {x : V} {d : D}, Is C H x d → Is C H' x d
  | _, _, .non => .non
  | _, _, .bl b => .bl b
  | _, _, .int i => .int i
  | _, _, .str s => .str s
  | _, _, .tup h t => .tup (e _ _ h) (IsA.same e t)
  | _, _, .lst h t => .lst (e _ _ h) (IsA.same e t)
  | _, _, .dct h => .dct (e _ _ h)
  | _, _, .atom h h2 t => .atom (e _ _ h) (e _ _ h2) (IsA.same e t)
theorem IsA.same {C : Addr} {H H' : Hp} (e : Same H H') : ∀ {xs : List V} {ds : List D}, IsA C H xs ds → IsA C H' xs ds
  | _, _, .nil => .nil
  | _, _, .cons h t => .cons (Is.same e h) (IsA.same e t)
end
theorem IsA.len {C : Addr} {H : Hp} : ∀ {xs : List V} {ds : List D}, IsA C H xs ds → xs.length = ds.length
  | _, _, .nil => rfl
  | _, _, .cons _ t => congrArg (· + 1) t.len
theorem IsA.at {C : Addr} {H : Hp} : ∀ {xs : List V} {ds : List D} {i : Nat} {x : V}, IsA C H xs ds → xs[i]? = some x → ∃ d, ds[i]? = some d ∧ Is C H x d
  | _, _, _, _, .nil, h => by simp at h
  | _, _, 0, _, .cons h _, e => by simp at e; subst e; exact ⟨_, rfl, h⟩
  | _, _, i + 1, _, .cons _ t, e => by
    obtain ⟨d, h1, h2⟩ := IsA.at (i := i) t (by simpa using e)
    exact ⟨d, by simpa using h1, h2⟩
theorem IsA.get {C : Addr} {H : Hp} : ∀ {xs : List V} {ds : List D} {i : Nat} {d : D}, IsA C H xs ds → ds[i]? = some d → ∃ x, xs[i]? = some x ∧ Is C H x d
  | _, _, _, _, .nil, h => by simp at h
  | _, _, 0, _, .cons h _, e => by simp at e; subst e; exact ⟨_, rfl, h⟩
  | _, _, i + 1, _, .cons _ t, e => by
    obtain ⟨d, h1, h2⟩ := IsA.get (i := i) t (by simpa using e)
    exact ⟨d, by simpa using h1, h2⟩
theorem IsA.app {C : Addr} {H : Hp} : ∀ {xs ys : List V} {ds es : List D}, IsA C H xs ds → IsA C H ys es → IsA C H (xs ++ ys) (ds ++ es)
  | _, _, _, _, .nil, t => t
  | _, _, _, _, .cons h u, t => .cons h (u.app t)
theorem IsA.rev {C : Addr} {H : Hp} : ∀ {xs : List V} {ds : List D}, IsA C H xs ds → IsA C H xs.reverse ds.reverse
  | _, _, .nil => .nil
  | _, _, .cons h t => by
    rw [List.reverse_cons, List.reverse_cons]
    exact t.rev.app (.cons h .nil)
theorem IsA.concat {C : Addr} {H : Hp} : ∀ {xs : List V} {ds : List D} {e : D}, IsA C H xs (ds.concat e) → ∃ ys y, xs = ys ++ [y] ∧ IsA C H ys ds ∧ Is C H y e
  | _, [], _, .cons h .nil => ⟨[], _, rfl, .nil, h⟩
  | _, d :: ds, e, .cons h t => by
    obtain ⟨ys, y, e1, h1, h2⟩ := IsA.concat (ds := ds) (e := e) t
    exact ⟨_ :: ys, y, by rw [e1]; rfl, .cons h h1, h2⟩
theorem rankL_app : ∀ (a b : List D), rankL (a ++ b) = max (rankL a) (rankL b)
  | [], b => by simp [rankL]
  | x :: a, b => by rw [List.cons_append]; simp only [rankL]; rw [rankL_app a b]; omega
theorem szL_app : ∀ (a b : List D), szL (a ++ b) = szL a + szL b
  | [], b => by simp [szL]
  | x :: a, b => by rw [List.cons_append]; simp only [szL]; rw [szL_app a b]; omega
theorem szL_rev : ∀ (a : List D), szL a.reverse = szL a
  | [] => rfl
  | x :: a => by rw [List.reverse_cons, szL_app, szL_rev a]; simp only [szL]; omega
theorem sz_pos (d : D) : 1 ≤ sz d := by cases d <;> simp [sz]
theorem len_szL : ∀ (a : List D), a.length ≤ szL a
  | [] => Nat.le_refl _
  | x :: a => by
    have := len_szL a
    have := sz_pos x
    simp only [szL, List.length_cons]; omega
/-! ### kinds of values -/
def kyV (C : Addr) : D → V
  | .non => .ty "NoneType" | .bl _ => .ty "bool" | .int _ => .ty "int" | .str _ => .ty "str" | .tup _ => .ty "tuple" | .lst _ => .ty "list" | .dct => .ty "dict" | .atom _ _ => .ref C
def kyU (C : Addr) : D → Value
  | .non => .type "NoneType" | .bl _ => .type "bool" | .int _ => .type "int" | .str _ => .type "str" | .tup _ => .type "tuple" | .lst _ => .type "list" | .dct => .type "dict" | .atom _ _ => .ref C
def rTyA (C : Addr) : List V → Hp → VK → Prop := fun xs H Q => ∃ x d, xs = [x] ∧ Is C H x d ∧ Q (kyV C d) H
/-- what is known of the class at C -/
structure Cl (K : PySem.W.Frag) (C : Addr) : Prop where
  cl : Cls K C
  ha : PySem.W.findIn K (.ref C) "__class__" = some (some (.builtin "object.__class__"))
  hn : PySem.W.specialIn K (.builtin "object.__class__") "__get__" = some (some (.builtin "getset_descriptor.__get__"))
  htk : PySem.W.takesIn K (.builtin "object.__class__") = some true
  hm : PySem.W.mroIn K C (.type "object") = some true
  me : PySem.W.kitOne K (.ref C) (.ref C) = some true
  mi : PySem.W.makesIn K C = true
  nK : NoAttr K C "kind"
  nT : NoAttr K C "term"
  nR : NoAttr K C "rank"
  nS : NoAttr K C "_stripped"
section
variable {X : Cx} {C : Addr}
theorem Is.tyX {K : PySem.W.Frag} {H : Hp} (T : Cl K C) {x : V} {d : D} (h : Is C H x d) : TyX K H x (kyU C d) := by
  cases h with
  | non => exact .base .non
  | bl b => exact .base (.bl b)
  | int i => exact .base (.int i)
  | str s => exact .base (.str s)
  | tup h _ => exact .base (.tup h)
  | lst h _ => exact .base (.lst h)
  | dct h => exact .base (.dK h)
  | atom h _ _ => exact .base (.ins h T.cl T.ha T.hn T.htk T.hm)
theorem call_typeA : CallR X (.type "type") (rTyA C) := fun pins s σ H xs us Q I r h => by
  obtain ⟨x, d, e, t, q⟩ := h
  cases t with
  | non => exact call_type1 pins s σ H xs us Q I r ⟨_, _, e, .non, q⟩
  | bl b => exact call_type1 pins s σ H xs us Q I r ⟨_, _, e, .bl b, q⟩
  | int i => exact call_type1 pins s σ H xs us Q I r ⟨_, _, e, .int i, q⟩
  | str z => exact call_type1 pins s σ H xs us Q I r ⟨_, _, e, .str z, q⟩
  | tup h _ => exact call_type1 pins s σ H xs us Q I r ⟨_, _, e, .tup (SqT.of h), q⟩
  | lst h _ => exact call_type1 pins s σ H xs us Q I r ⟨_, _, e, .lst (SqL.of h), q⟩
  | dct h => exact call_type1 pins s σ H xs us Q I r ⟨_, _, e, .dK h, q⟩
  | atom h _ _ => exact cr_type pins s σ H xs us Q I r ⟨_, _, _, _, e, h, q⟩
/-- a type is a type: of built-in ones, and of the class at C -/
def TyOk (C : Addr) (x : V) : Prop := (∃ n, x = .ty n) ∨ x = .ref C
def rIsTyA (C : Addr) : R2 := fun x y H Q => TyOk C x ∧ TyOk C y ∧ Q (.bl (decide (x = y))) H
def rIsNotTyA (C : Addr) : R2 := fun x y H Q => TyOk C x ∧ TyOk C y ∧ Q (.bl (!decide (x = y))) H
theorem kyV_ok (d : D) : TyOk C (kyV C d) := by cases d <;> first | exact .inl ⟨_, rfl⟩ | exact .inr rfl
theorem op_isTyA : OpR X (compareOp .Is) (rIsTyA C) := by
  intro pins s σ H x y v u Q I rx ry h
  obtain ⟨hx, hy, q⟩ := h
  rcases hx with ⟨m, rfl⟩ | rfl <;> rcases hy with ⟨n, rfl⟩ | rfl
  · exact op_isTy pins s σ H _ _ v u Q I rx ry ⟨m, n, rfl, rfl, by simpa using q⟩
  · cases (show v = Value.type m from rx)
    cases (show u = Value.ref _ from ry)
    exact wpAny_is_other rfl (fun z => nomatch z) ⟨.bl false, H, I, rfl, by simpa using q⟩
  · cases (show v = Value.ref _ from rx)
    cases (show u = Value.type n from ry)
    exact wpAny_is_other rfl (fun z => nomatch z) ⟨.bl false, H, I, rfl, by simpa using q⟩
  · exact op_is_cls pins s σ H _ _ v u Q I rx ry ⟨C, C, rfl, rfl, .inl rfl, by simpa using q⟩
theorem op_isNotTyA : OpR X (compareOp .IsNot) (rIsNotTyA C) := by
  intro pins s σ H x y v u Q I rx ry h
  obtain ⟨hx, hy, q⟩ := h
  rcases hx with ⟨m, rfl⟩ | rfl <;> rcases hy with ⟨n, rfl⟩ | rfl
  · exact op_isNotTy pins s σ H _ _ v u Q I rx ry ⟨m, n, rfl, rfl, by simpa using q⟩
  · cases (show v = Value.type m from rx)
    cases (show u = Value.ref _ from ry)
    exact wpAny_isNot_other rfl (fun z => nomatch z) ⟨.bl true, H, I, rfl, by simpa using q⟩
  · cases (show v = Value.ref _ from rx)
    cases (show u = Value.type n from ry)
    exact wpAny_isNot_other rfl (fun z => nomatch z) ⟨.bl true, H, I, rfl, by simpa using q⟩
  · exact op_isnot_cls pins s σ H _ _ v u Q I rx ry ⟨C, C, rfl, rfl, .inl rfl, by simpa using q⟩
/-- isinstance(x, c): c a built-in type or the class at C -/
def rIsiA (K : PySem.W.Frag) (C : Addr) : List V → Hp → VK → Prop := fun xs H Q => ∃ x d c u b, xs = [x, c] ∧ Is C H x d ∧ ClsV c u ∧ PySem.W.kitOne K (kyU C d) u = some b ∧ Q (.bl b) H
theorem call_isiA (T : Cl X.K C) : CallR X (.builtin "isinstance") (rIsiA X.K C) := fun pins s σ H xs us Q I r h => by
  obtain ⟨x, d, c, u, b, e, t, k, kt, q⟩ := h
  exact call_isi pins s σ H xs us Q I r ⟨x, c, _, _, b, e, k, t.tyX T, kt, q⟩
end
mutual
theorem Is.uniq {C : Addr} {H : Hp} : ∀ {x : V} {d e : D}, Is C H x d → Is C H x e → d = e
  | _, _, _, .non, .non => rfl
  | _, _, _, .bl _, .bl _ => rfl
  | _, _, _, .int _, .int _ => rfl
  | _, _, _, .str _, .str _ => rfl
  | _, _, _, .tup h t, g => by
    cases g with
    | tup h' t' =>
      rw [h] at h'
      cases h'
      rw [IsA.uniq t t']
    | lst h' _ => rw [h] at h'; cases h'
    | dct h' => rw [h] at h'; cases h'
    | atom h' _ _ => rw [h] at h'; cases h'
  | _, _, _, .lst h t, g => by
    cases g with
    | lst h' t' =>
      rw [h] at h'
      cases h'
      rw [IsA.uniq t t']
    | tup h' _ => rw [h] at h'; cases h'
    | dct h' => rw [h] at h'; cases h'
    | atom h' _ _ => rw [h] at h'; cases h'
  | _, _, _, .dct h, g => by
    cases g with
    | dct h' => rfl
    | tup h' _ => rw [h] at h'; cases h'
    | lst h' _ => rw [h] at h'; cases h'
    | atom h' _ _ => rw [h] at h'; cases h'
  | _, _, _, .atom h h2 t, g => by
    cases g with
    | tup h' _ => rw [h] at h'; cases h'
    | lst h' _ => rw [h] at h'; cases h'
    | dct h' => rw [h] at h'; cases h'
    | atom h' h2' t' =>
      have e := Option.some.inj (h.symm.trans h')
      unfold atF at e
      injection e with e1 e2 e3
      injection e3 with e4 e5
      injection e5 with e6 e7
      have ek := V.str.inj (congrArg Prod.snd e4)
      have et := V.ref.inj (congrArg Prod.snd e6)
      subst ek
      subst et
      rw [h2] at h2'
      cases h2'
      rw [IsA.uniq t t']
theorem IsA.uniq {C : Addr} {H : Hp} : ∀ {xs : List V} {ds es : List D}, IsA C H xs ds → IsA C H xs es → ds = es
  | _, _, _, .nil, .nil => rfl
  | _, _, _, .cons h t, .cons h' t' => by rw [Is.uniq h h', IsA.uniq t t']
end
end Hr

namespace Hr
open PySem PySem.SeqAt PyProof.Rows
open AutoSeq1 (wpAny_loadPart')
open MeetsSeq MeetsSeq2 MeetsSeq3 SeqRoads2
theorem ext_tup (l : Addr) (items : Array Value) (n : Nat) (b : Addr) (items2 : Array Value) (n2 : Nat) (dd : Option Addr) (sl : Array (Option Value)) (hs0 : ¬(!items.isEmpty && Builtin.List.listTooLong (items.size + items2.size)) = true) (hs1 : items.size ≤ sizeLine) (hs2 : items.size + items2.size ≤ sizeLine + 1) :
    Meets (Builtin.«list.extend» ⟨[.ref l, .ref b], []⟩) (fun _ R s => s.heap.get? l = some { cls := .type "list", dict := none, data := .seq items n, slots := #[] } ∧ s.heap.get? b = some { cls := .type "tuple", dict := dd, data := .seq items2 n2, slots := sl } ∧
      R (.ok (.ret Value.none)) { s with heap := s.heap.update l (Obj.mapSeq fun x => x ++ items2), toks := s.toks }) :=
  .of_wp fun prog w A R s h => by
    obtain ⟨hp, g, d, tk, os⟩ := s
    obtain ⟨hl, hb, h⟩ := h
    have g1 := AutoSeq1.sub_tuple_tuple
    have g2 := AutoSeq1.sub_list_list
    have g3 := AutoSeq1.sub_tuple_list
    have g4 := AutoSeq1.sub_list_tuple
    have hz' : (items ++ items2).size ≤ sizeLine + 1 := by rw [Array.size_append]; exact hs2
    wp_walk using (wpAny_updateSeq hl rfl (hz := hs1) (_hz' := hz')), wpAny_loadPart' hl, wpAny_loadPart' hb
    exact ⟨_, rfl, h⟩
end Hr
namespace Hr
open PySem PySem.Spec PyProof.Rows L2
/-- xs.extend(t), t a tuple -/
def rExtT : V → List V → Hp → VK → Prop := fun x vs H Q => ∃ l b xs zs, x = .ref l ∧ vs = [.ref b] ∧ H l = some (.lst xs) ∧ H b = some (.tup zs) ∧ xs.length + zs.length ≤ sizeLine ∧ Q .non (upd H l (.lst (xs ++ zs)))
theorem mt_extendT {X : Cx} : MtM X "list.extend" rExtT := by
  intro pins s σ H x vs v us Q I rx rv h
  obtain ⟨l, b, xs, zs, rfl, rfl, hH, hB, hz, q⟩ := h
  cases rx
  obtain ⟨u, rfl, ru⟩ := rv.one
  cases ru
  obtain ⟨z, its, n, r, hl, e⟩ := I.lstM hH
  obtain ⟨its2, r2, ⟨⟨oc, od, dt, sl⟩, e2, hc2, n2, hd2⟩, hz2⟩ := I.tuple (SqT.of hB)
  simp only at hc2 hd2
  subst hc2 hd2
  have hl2 := r2.length
  have hsz : its.toArray.size + its2.toArray.size ≤ sizeLine := by rw [List.size_toArray, List.size_toArray]; omega
  have hlong : ¬ (!its.toArray.isEmpty && Builtin.List.listTooLong (its.toArray.size + its2.toArray.size)) = true := by
    rw [notLongL hsz, Bool.and_false]
    exact Bool.false_ne_true
  refine call_meets F.slot_list_extend ⟨_, e, rfl⟩ F.entry_list_extend (F.args_list_extend_2 _ _)
    (ext_tup l its.toArray n b its2.toArray n2 od sl hlong (by rw [List.size_toArray]; omega) (by omega)) ⟨e, e2, ?_⟩
  refine ⟨.non, _, I.lset (its' := its ++ its2) hH e (by simp) (r.append r2) ?_, rfl, q⟩
  rw [List.length_append]
  omega
end Hr

namespace Hc
open PySem PySem.Spec PyProof.Rows L2 Hr
def top (i : Nat) : Stmt := PySem.Challenge.pw_hermitcell_k63_verifiers_take_tokens.main.body.getD i (.Pass ⟨0, 0, 0, 0⟩)
theorem bt_type : bootBuiltins "type" = some (.type "type") := by decide +kernel
theorem bt_int : bootBuiltins "int" = some (.type "int") := by decide +kernel
theorem bt_str : bootBuiltins "str" = some (.type "str") := by decide +kernel
theorem bt_bool : bootBuiltins "bool" = some (.type "bool") := by decide +kernel
theorem bt_tuple : bootBuiltins "tuple" = some (.type "tuple") := by decide +kernel
theorem bt_list : bootBuiltins "list" = some (.type "list") := by decide +kernel
theorem bt_range : bootBuiltins "range" = some (.type "range") := by decide +kernel
theorem bt_zip : bootBuiltins "zip" = some (.type "zip") := by decide +kernel
theorem bt_len : bootBuiltins "len" = some (.builtin "len") := by decide +kernel
theorem bt_all : bootBuiltins "all" = some (.builtin "all") := by decide +kernel
theorem bt_max : bootBuiltins "max" = some (.builtin "max") := by decide +kernel
theorem bt_isinstance : bootBuiltins "isinstance" = some (.builtin "isinstance") := by decide +kernel
theorem bt_abs : bootBuiltins "abs" = some (.builtin "abs") := by decide +kernel
/-- a tuple of texts in the written part -/
def KTup (K : PySem.W.Frag) (a : Addr) (ts : List Str) : Prop := ∀ H : Hp, SqT K H a (ts.map V.str)
/-- what the top has -/
structure Txt (K : PySem.W.Frag) (mg : Str → Option Value) (w : World) (C : Addr) : Prop where
  cl : Cl K C
  g_Atom : mg "Atom" = some (.ref C)
  z_type : mg "type" = none
  z_int : mg "int" = none
  z_str : mg "str" = none
  z_bool : mg "bool" = none
  z_tuple : mg "tuple" = none
  z_list : mg "list" = none
  z_range : mg "range" = none
  z_zip : mg "zip" = none
  z_len : mg "len" = none
  z_all : mg "all" = none
  z_max : mg "max" = none
  z_isinstance : mg "isinstance" = none
  z_abs : mg "abs" = none
  c_LEAST : ∃ u, mg "LEAST" = some u ∧ RelV (.int (-2147483648)) u
  c_GREATEST : ∃ u, mg "GREATEST" = some u ∧ RelV (.int (2147483647)) u
  c_MOST_CHARACTERS : ∃ u, mg "MOST_CHARACTERS" = some u ∧ RelV (.int (24)) u
  c_MOST_DEEP : ∃ u, mg "MOST_DEEP" = some u ∧ RelV (.int (40)) u
  c_MOST_RANK : ∃ u, mg "MOST_RANK" = some u ∧ RelV (.int (40)) u
  c_MOST_RANK_HOST : ∃ u, mg "MOST_RANK_HOST" = some u ∧ RelV (.int (36)) u
  forms : ∃ Fo t1 t2 t3 t4 t5, (∃ u, mg "_FORMS" = some u ∧ RelV (.ref Fo) u) ∧ (∃ es n, KDict K w Fo es n) ∧
    KDct K w Fo "token" (.ref t1) ∧ KDct K w Fo "challenge" (.ref t2) ∧ KDct K w Fo "seal" (.ref t3) ∧ KDct K w Fo "page" (.ref t4) ∧ KDct K w Fo "ticket" (.ref t5) ∧ PySem.W.nsIn K Fo "key" = some none ∧
    KTup K t1 ["text", "tuple", "word"] ∧ KTup K t2 ["text", "number"] ∧ KTup K t3 ["text", "number", "number", "hidden"] ∧ KTup K t4 ["text", "number", "number", "hidden"] ∧ KTup K t5 ["text", "number", "text", "tuple", "pages", "tuple"]
  kit : ∀ (d : D) (n : String), n ∈ ["int", "str", "tuple", "bool", "list", "dict"] → PySem.W.kitOne K (kyU C d) (.type n) = some (match d with | .int _ => n == "int" | .bl _ => n == "int" || n == "bool" | .str _ => n == "str" | .tup _ => n == "tuple" | .lst _ => n == "list" | .dct => n == "dict" | _ => false)
  kitC : ∀ d : D, PySem.W.kitOne K (kyU C d) (.ref C) = some (match d with | .atom _ _ => true | _ => false)
end Hc

namespace Hc
open PySem PySem.Spec PyProof.Rows L2 Hr
theorem ifT {p A B : Prop} [Decidable p] (hp : p) (h : A) : if decide p = true then A else B := by
  rw [decide_eq_true hp]; exact iteT h
theorem ifF {p A B : Prop} [Decidable p] (hp : ¬ p) (h : B) : if decide p = true then A else B := by
  rw [decide_eq_false hp]; exact iteF h
theorem bT {b : Bool} {A B : Prop} (hb : b = true) (h : A) : if b = true then A else B := by
  rw [hb]; exact iteT h
theorem bF {b : Bool} {A B : Prop} (hb : b = false) (h : B) : if b = true then A else B := by
  rw [hb]; exact iteF h
theorem bcase {b : Bool} {A B : Prop} (h1 : b = true → A) (h2 : b = false → B) : if b = true then A else B := by
  cases b with
  | true => exact iteT (h1 rfl)
  | false => exact iteF (h2 rfl)
/-- a comprehension without a test -/
theorem yes {σ : L2.St} {H : Hp} {A B : Hp → Prop} (h : A H) : tYes σ H fun b H3 => if b = true then A H3 else B H3 := by
  show (if true = true then A H else B H)
  exact iteT h
theorem same_new {q : Addr} {H : Hp} {o : HO} (h : H q = none) : Same H (L2.upd H q o) := fun c x e => by rw [upd_ne (ne_of_none e h)]; exact e
theorem sfree {H H' : Hp} (e : Same H H') {p : Addr} (h : H' p = none) : H p = none := e.free h
/-! ### what the defs tell -/
def numOk (i : Int) : Bool := decide (-2147483648 ≤ i) && decide (i ≤ 2147483647)
def isNum : D → Bool | .int i => numOk i | _ => false
def sgn (c : Nat) : Bool := decide (32 ≤ c) && decide (c ≤ 126)
def txtOk (s : Str) : Bool := decide (s.length ≤ 24) && s.cps.toList.all sgn
def isTxt : D → Bool | .str s => txtOk s | _ => false
/-- one value is asked; new objects may be made -/
def spB (C : Addr) (ok : D → Prop) (f : D → Bool) : Sp := fun vs H Q _ => ∃ x d, vs = [x] ∧ Is C H x d ∧ ok d ∧ ∀ H', Same H H' → Q (.bl (f d)) H'
theorem kyV_int {C : Addr} {d : D} : (kyV C d = .ty "int") ↔ ∃ i, d = .int i := by cases d <;> simp [kyV]
theorem kyV_str {C : Addr} {d : D} : (kyV C d = .ty "str") ↔ ∃ i, d = .str i := by cases d <;> simp [kyV]
theorem kyV_tup {C : Addr} {d : D} : (kyV C d = .ty "tuple") ↔ ∃ i, d = .tup i := by cases d <;> simp [kyV]
theorem kyV_atom {C : Addr} {d : D} : (kyV C d = .ref C) ↔ ∃ k i, d = .atom k i := by cases d <;> simp [kyV]
section
variable {P : Program} {w : World} {K : PySem.W.Frag} {mg : Str → Option Value} {base : Heap} {f : Addr} {fd : FuncData} {C : Addr}
abbrev s_is_number : Stmt := top 12
theorem sc_is_number : FnScope ["value"] ["value"] (C8.fnScope s_is_number) := C8.fnScope_by (by decide +kernel)
theorem ok_is_number (F : C8.Def K mg "is_number" s_is_number f fd) (b : Binds K fd ["value"] []) (T : Txt K mg w C) : C8.Cal P w K mg base 1 "is_number" (spB C (fun _ => True) isNum) [] := by
  refine C8.cal0 F b .nil sc_is_number (fun vs H Q E h => ?_) (fun cdv A outer s H vs Q E hr h => ?_)
  · obtain ⟨x, d, rfl, _⟩ := h; rfl
  obtain ⟨x, d, rfl, hx, _, q⟩ := h
  refine ⟨_, (pss_one (ps_ret (pe_and (pe_cmpR (op_isTyA (C := C)) (pe_callTy (call_typeA (C := C)) rfl T.z_type bt_type (pa_cons (pv 0) pa_nil)) (pe_bltn (v := .ty "int") rfl T.z_int bt_int rfl) (nomark _)) (pe_one (pe_chain op_le op_le (C8.pe_gc rfl T.c_LEAST) (pv 0) (C8.pe_gc rfl T.c_GREATEST)))))), ?_⟩
  have q := q H (Same.refl H)
  refine ⟨x, rfl, x, d, rfl, hx, kyV_ok d, .inl ⟨_, rfl⟩, _, rfl, ?_⟩
  by_cases c : kyV C d = .ty "int"
  · refine ifT c ?_
    obtain ⟨i, rfl⟩ := kyV_int.mp c
    cases hx
    refine ⟨_, rfl, _, _, rfl, rfl, _, rfl, ite2 (fun c => ?_) (fun c => ?_)⟩
    · refine ⟨_, _, rfl, rfl, ?_⟩
      have e : isNum (.int i) = decide (i ≤ 2147483647) := by simp [isNum, numOk, of_decide_eq_true c]
      rw [e] at q; exact q
    · have e : isNum (.int i) = false := by simp [isNum, numOk] at c ⊢; omega
      rw [e] at q; exact q
  · have e : isNum d = false := by cases d <;> first | rfl | exact absurd rfl c
    rw [e] at q
    exact ifF c q
/-- signs between the space and the tilde -/
theorem lt_one (a b : Nat) : decide (([a] : List Nat) < [b]) = decide (a < b) := by
  by_cases h : a < b
  · rw [decide_eq_true h]; exact decide_eq_true (List.cons_lt_cons_iff.mpr (.inl h))
  · rw [decide_eq_false h]
    refine decide_eq_false fun z => ?_
    rcases List.cons_lt_cons_iff.mp z with z | ⟨_, z⟩
    · exact h z
    · cases z
abbrev s_is_text : Stmt := top 13
theorem sc_is_text : FnScope ["value", "character"] ["value"] (C8.fnScope s_is_text) := C8.fnScope_by (by decide +kernel)
theorem ok_is_text (F : C8.Def K mg "is_text" s_is_text f fd) (b : Binds K fd ["value"] []) (T : Txt K mg w C) : C8.Cal P w K mg base 1 "is_text" (spB C (fun d => ∀ s, d = .str s → s.length ≤ sizeLine) isTxt) [] := by
  refine C8.cal0 F b .nil sc_is_text (fun vs H Q E h => ?_) (fun cdv A outer s H vs Q E hr h => ?_)
  · obtain ⟨x, d, rfl, _⟩ := h; rfl
  obtain ⟨x, d, rfl, hx, hz, q⟩ := h
  refine ⟨_, (pss_cons (ps_if (PW.pt (pw_or (pt_cmpR (op_isNotTyA (C := C)) (pe_callTy (call_typeA (C := C)) rfl T.z_type bt_type (pa_cons (pv 0) pa_nil)) (pe_bltn (v := .ty "str") rfl T.z_str bt_str rfl) (nomark _)) (pw_or1 (pt_cmpR op_gt (pe_callB call_len_str rfl T.z_len bt_len (pa_cons (pv 0) pa_nil)) (C8.pe_gc rfl T.c_MOST_CHARACTERS) (nomark _))))) (pss_one (ps_ret pe_bl)) pss_nil)
      (pss_one (ps_ret (pe_callB (cr_all rfl) rfl T.z_all bt_all (pa_cons (pe_lc (own := [("character", 1)]) (g := gName 1) rfl sc_is_text.nd (pi_str (pv 0)) (blkOk_by (own := [("character", 1)]) (N := ["value", "character"]) (sc := C8.fnScope s_is_text) (by decide +kernel)) (fun _ _ _ _ _ => (pg_name (i := 1) sc_is_text.nd rfl (Or.inl rfl))) (fun _ _ _ _ _ => pts_nil) (fun _ _ _ _ _ => (pe_chain op_le_str op_le_str pe_str (pv 1) pe_str))) pa_nil))))), ?_⟩
  refine ⟨x, rfl, x, d, rfl, hx, kyV_ok d, .inl ⟨_, rfl⟩, _, rfl, ?_⟩
  by_cases c : kyV C d = .ty "str"
  · rw [decide_eq_true c]
    obtain ⟨z, rfl⟩ := kyV_str.mp c
    cases hx
    refine iteF ⟨_, rfl, z, rfl, hz z rfl, _, _, rfl, rfl, _, rfl, ite2 (fun c => ?_) (fun c => ?_)⟩
    · have e : isTxt (.str z) = false := by
        simp only [isTxt, txtOk]
        rw [decide_eq_false (by simp at c; omega)]; rfl
      have q := q H (Same.refl H)
      rw [e] at q; exact q
    · have hlen : z.length ≤ 24 := by simp at c; omega
      have e : isTxt (.str z) = z.cps.toList.all sgn := by
        simp only [isTxt, txtOk]
        rw [decide_eq_true hlen]; rfl
      rw [e] at q
      refine ⟨_, rfl, z, rfl, fun Dl hD => ?_⟩
      refine lc_it (walk_str (z := z)) (fun i H' => Same H H' ∧ H' Dl = some (.lst ((z.cps.toList.take i).map fun c => V.bl (sgn c)))) ⟨same_new hD, upd_same⟩ (fun _ _ _ _ => trivial) ?_ ?_
      · rintro i y H0 H1 hi ⟨s1, hl⟩ ⟨rfl, c, hc, rfl⟩
        have hc' : z.cps.toList[i]? = some c := by rw [Array.getElem?_toList]; exact hc
        have go : ∀ H3, H3 = upd H1 Dl (.lst ((z.cps.toList.take i).map (fun c => V.bl (sgn c)) ++ [.bl (sgn c)])) → Same H H3 ∧ H3 Dl = some (.lst ((z.cps.toList.take (i + 1)).map fun c => V.bl (sgn c))) := fun H3 e3 => by
          subst e3
          refine ⟨fun p o hp => by rw [upd_ne (ne_of_none hp hD)]; exact s1 p o hp, ?_⟩
          rw [upd_same, List.take_add_one, hc', List.map_append]; rfl
        have hn : ((z.cps.toList.take i).map fun c => V.bl (sgn c)).length < sizeLine := by
          have h1 : z.cps.size = z.length := rfl
          rw [List.length_map, List.length_take, Array.length_toList]
          exact small1000 (by omega)
        refine ⟨rfl, yes ?_⟩
        refine ⟨_, rfl, _, _, rfl, rfl, _, rfl, ?_⟩
        have e1 : (!decide (([c] : List Nat) < [32])) = decide (32 ≤ c) := by
          rw [lt_one]; by_cases h : c < 32
          · rw [decide_eq_true h, decide_eq_false (by omega)]; rfl
          · rw [decide_eq_false h, decide_eq_true (by omega)]; rfl
        have e2 : (!decide (([126] : List Nat) < [c])) = decide (c ≤ 126) := by
          rw [lt_one]; by_cases h : 126 < c
          · rw [decide_eq_true h, decide_eq_false (by omega)]; rfl
          · rw [decide_eq_false h, decide_eq_true (by omega)]; rfl
        refine bcase (b := !decide (([c] : List Nat) < [32])) (fun hb => ?_) (fun hb => ?_)
        · refine ⟨_, _, rfl, rfl, _, hl, hn, go _ ?_⟩
          have : (!decide (([126] : List Nat) < [c])) = sgn c := by rw [e2]; rw [e1] at hb; simp only [sgn]; rw [hb, Bool.true_and]
          exact congrArg (fun k => upd H1 Dl (.lst ((z.cps.toList.take i).map (fun c => V.bl (sgn c)) ++ [.bl k]))) this
        · refine ⟨_, hl, hn, go _ ?_⟩
          have : false = sgn c := by rw [e1] at hb; simp only [sgn]; rw [hb, Bool.false_and]
          exact congrArg (fun k => upd H1 Dl (.lst ((z.cps.toList.take i).map (fun c => V.bl (sgn c)) ++ [.bl k]))) this
      · rintro H1 ⟨s1, hl⟩
        have ea : z.cps.toList.take z.cps.size = z.cps.toList := List.take_of_length_le (by rw [Array.length_toList]; exact Nat.le_refl _)
        rw [ea] at hl
        refine ⟨Dl, z.cps.toList.map sgn, rfl, SqL.of (by rw [List.map_map]; exact hl), ?_⟩
        have e9 : (z.cps.toList.map sgn).all id = z.cps.toList.all sgn := by rw [List.all_map]; rfl
        rw [e9]
        exact q H1 s1
  · have e : isTxt d = false := by cases d <;> first | rfl | exact absurd rfl c
    have q := q H (Same.refl H)
    rw [e] at q
    rw [decide_eq_false c]
    exact iteT q
end
end Hc

namespace Hc
open PySem PySem.Spec PyProof.Rows L2 Hr
mutual
/-- a word, nested so deep at most -/
def okW (md mr : Nat) : Nat → D → Bool
  | n, .tup ds => decide (n ≠ md) && okA md mr (n + 1) ds
  | _, .atom k ds => decide (rank (.atom k ds) ≤ mr)
  | _, .non => true
  | _, .int i => numOk i
  | _, .str s => txtOk s
  | _, _ => false
def okA (md mr : Nat) : Nat → List D → Bool
  | _, [] => true
  | n, d :: ds => okW md mr n d && okA md mr n ds
end
mutual
/-- no text is too long for the model's len -/
def txl : D → Prop
  | .str s => s.length ≤ sizeLine
  | .tup ds => txlL ds
  | .lst ds => txlL ds
  | .atom _ ds => txlL ds
  | _ => True
def txlL : List D → Prop
  | [] => True
  | d :: ds => txl d ∧ txlL ds
end
/-- data of a size that the lists bear -/
def Fit (d : D) : Prop := sz d ≤ 1000000 ∧ txl d
theorem okA_app (md mr n : Nat) : ∀ a b : List D, okA md mr n (a ++ b) = (okA md mr n a && okA md mr n b)
  | [], b => by simp [okA]
  | x :: a, b => by rw [List.cons_append]; simp only [okA]; rw [okA_app md mr n a b, Bool.and_assoc]
theorem okA_rev (md mr n : Nat) : ∀ a : List D, okA md mr n a.reverse = okA md mr n a
  | [] => rfl
  | x :: a => by rw [List.reverse_cons, okA_app, okA_rev md mr n a]; simp only [okA]; rw [Bool.and_true, Bool.and_comm]
theorem txlL_mem : ∀ {ds : List D} {d : D}, txlL ds → d ∈ ds → txl d
  | x :: ds, d, h, hd => by
    simp only [txlL] at h
    rcases List.mem_cons.mp hd with rfl | hd
    · exact h.1
    · exact txlL_mem h.2 hd
/-- the stack: pairs of a part and how deep it lies; the parts stood ahead of the call -/
inductive Stk (C : Addr) (H0 H : Hp) : List V → List (D × Nat) → Prop
  | nil : Stk C H0 H [] []
  | cons {q : Addr} {x : V} {d : D} {n : Nat} {xs : List V} {ps : List (D × Nat)} (h : H q = some (.tup [x, .int (n : Int)])) (hx : Is C H0 x d) (t : Stk C H0 H xs ps) : Stk C H0 H (.ref q :: xs) ((d, n) :: ps)
/-- the tuples stand -/
def Tups (H H' : Hp) : Prop := ∀ b xs, H b = some (.tup xs) → H' b = some (.tup xs)
theorem Tups.put {H : Hp} {l : Addr} {xs ys : List V} (h : H l = some (.lst xs)) : Tups H (L2.upd H l (.lst ys)) := fun b zs e => by
  rw [upd_ne (fun z => by rw [z, h] at e; cases e)]; exact e
theorem Tups.trans {H H1 H2 : Hp} (a : Tups H H1) (b : Tups H1 H2) : Tups H H2 := fun c xs h => b c xs (a c xs h)
theorem Tups.of {H H1 : Hp} (a : Same H H1) : Tups H H1 := fun c xs h => a c _ h
theorem Stk.keep {C : Addr} {H0 H H' : Hp} (e : Tups H H') : ∀ {xs : List V} {ps : List (D × Nat)}, Stk C H0 H xs ps → Stk C H0 H' xs ps
  | _, _, .nil => .nil
  | _, _, .cons h hx t => .cons (e _ _ h) hx (t.keep e)
theorem Stk.len {C : Addr} {H0 H : Hp} : ∀ {xs : List V} {ps : List (D × Nat)}, Stk C H0 H xs ps → xs.length = ps.length
  | _, _, .nil => rfl
  | _, _, .cons _ _ t => congrArg (· + 1) t.len
theorem Stk.app {C : Addr} {H0 H : Hp} : ∀ {xs ys : List V} {ps qs : List (D × Nat)}, Stk C H0 H xs ps → Stk C H0 H ys qs → Stk C H0 H (xs ++ ys) (ps ++ qs)
  | _, _, _, _, .nil, t => t
  | _, _, _, _, .cons h hx u, t => .cons h hx (u.app t)
theorem Stk.last {C : Addr} {H0 H : Hp} : ∀ {xs : List V} {ps : List (D × Nat)}, Stk C H0 H xs ps → ps ≠ [] → ∃ (q : Addr) (x : V) (d : D) (n : Nat) (ys : List V) (qs : List (D × Nat)), xs = ys ++ [.ref q] ∧ ps = qs ++ [(d, n)] ∧ H q = some (.tup [x, .int (n : Int)]) ∧ Is C H0 x d ∧ Stk C H0 H ys qs
  | _, _, .nil, h => absurd rfl h
  | _, _, .cons (ps := []) h hx .nil, _ => ⟨_, _, _, _, [], [], rfl, rfl, h, hx, .nil⟩
  | _, _, .cons (ps := p :: ps) h hx t, _ => by
    obtain ⟨q, x, d, n, ys, qs, e1, e2, h1, h2, h3⟩ := t.last (List.cons_ne_nil _ _)
    rw [e1, e2]
    exact ⟨q, x, d, n, _ :: ys, _ :: qs, rfl, rfl, h1, h2, .cons h hx h3⟩
/-- a list that is no argument of ours changes: what stood stays -/
theorem same_put {H H' : Hp} {l : Addr} {o : HO} (s : Same H H') (h : H l = none) : Same H (L2.upd H' l o) := fun b u e => by
  rw [upd_ne (ne_of_none e h)]; exact s b u e
def okS (md mr : Nat) : List (D × Nat) → Bool
  | [] => true
  | p :: ps => okW md mr p.2 p.1 && okS md mr ps
def szS : List (D × Nat) → Nat
  | [] => 0
  | p :: ps => sz p.1 + szS ps
theorem okS_app (md mr : Nat) : ∀ a b, okS md mr (a ++ b) = (okS md mr a && okS md mr b)
  | [], b => by simp [okS]
  | x :: a, b => by rw [List.cons_append]; simp only [okS]; rw [okS_app md mr a b, Bool.and_assoc]
theorem szS_app : ∀ a b, szS (a ++ b) = szS a + szS b
  | [], b => by simp [szS]
  | x :: a, b => by rw [List.cons_append]; simp only [szS]; rw [szS_app a b]; omega
theorem len_szS : ∀ a : List (D × Nat), a.length ≤ szS a
  | [] => Nat.le_refl _
  | x :: a => by
    have := len_szS a
    have := sz_pos x.1
    simp only [szS, List.length_cons]; omega
theorem okS_map (md mr n : Nat) : ∀ ds : List D, okS md mr (ds.map fun d => (d, n)) = okA md mr n ds
  | [] => by simp [okS, okA]
  | d :: ds => by simp only [List.map_cons, okS, okA]; rw [okS_map md mr n ds]
theorem szS_map (n : Nat) : ∀ ds : List D, szS (ds.map fun d => (d, n)) = szL ds
  | [] => by simp [szS, szL]
  | d :: ds => by simp only [List.map_cons, szS, szL]; rw [szS_map n ds]
def spWithin (C : Addr) : Sp := fun vs H Q _ => ∃ x d, ∃ md mr : Nat, vs = [x, .int (md : Int), .int (mr : Int)] ∧ Is C H x d ∧ Fit d ∧ ∀ H', Same H H' → Q (.bl (okW md mr 0 d)) H'
section
variable {P : Program} {w : World} {K : PySem.W.Frag} {mg : Str → Option Value} {base : Heap} {f : Addr} {fd : FuncData} {C : Addr}
abbrev s__is_within : Stmt := top 17
theorem sc__is_within : FnScope ["value", "most_deep", "most_rank", "todo", "part", "deep", "each"] ["value", "most_deep", "most_rank"] (C8.fnScope s__is_within) := C8.fnScope_by (by decide +kernel)
theorem ok__is_within (F : C8.Def K mg "_is_within" s__is_within f fd) (b : Binds K fd ["value", "most_deep", "most_rank"] []) (T : Txt K mg w C) (c_is_number : C8.Cal P w K mg base 1 "is_number" (spB C (fun _ => True) isNum) [])
    (c_is_text : C8.Cal P w K mg base 1 "is_text" (spB C (fun d => ∀ s, d = .str s → s.length ≤ sizeLine) isTxt) []) : C8.Cal P w K mg base 2 "_is_within" (spWithin C) [] := by
  refine C8.cal0 F b .nil sc__is_within (fun vs H Q E h => ?_) (fun cdv A outer s H vs Q E hr h => ?_)
  · obtain ⟨x, d, md, mr, rfl, _⟩ := h; rfl
  obtain ⟨x, d, md, mr, rfl, hx, hz, q⟩ := h
  refine ⟨_, (pss_cons (ps_set (i := 3) sc__is_within.nd rfl (Or.inl rfl) (pe_lst (pa_cons (pe_tup (pa_cons (pv 0) (pa_cons pe_int pa_nil))) pa_nil)))
      (pss_cons (ps_while PassesOwn.never (pt_truth (pv 3) (fun _ => rfl))
      (pss_cons (ps_asg (pe_bm0 PySem.F.plainAttrs_list PySem.F.slot_list_pop PySem.F.type_list_pop mt_pop (pv 3)) (pg_tup rfl (pgs_cons (pg_name (i := 4) sc__is_within.nd rfl (Or.inl rfl)) (pgs_cons (pg_name (i := 5) sc__is_within.nd rfl (Or.inr rfl)) pgs_nil))))
      (pss_one (ps_if (pt_cmpR (op_isTyA (C := C)) (pe_callTy (call_typeA (C := C)) rfl T.z_type bt_type (pa_cons (pv 4) pa_nil)) (pe_bltn (v := .ty "tuple") rfl T.z_tuple bt_tuple rfl) (nomark _)) (pss_cons (ps_if (pt_cmpR op_eq (pv 5) (pv 1) (nomark _)) (pss_one (ps_ret pe_bl)) pss_nil)
      (pss_one (ps_expr (pe_bm PySem.F.plainAttrs_list PySem.F.slot_list_extend PySem.F.type_list_extend mt_extend (pv 3) (pa_cons (pe_lc (own := [("each", 6)]) (g := gName 6) rfl sc__is_within.nd (pi_tup (pv 4)) (blkOk_by (own := [("each", 6)]) (N := ["value", "most_deep", "most_rank", "todo", "part", "deep", "each"]) (sc := C8.fnScope s__is_within) (by decide +kernel)) (fun _ _ _ _ _ => (pg_name (i := 6) sc__is_within.nd rfl (Or.inl rfl))) (fun _ _ _ _ _ => pts_nil) (fun _ _ _ _ _ => (pe_tup (pa_cons (pv 6) (pa_cons (pe_op op_add (pv 5) pe_int) pa_nil))))) pa_nil))))) (pss_one (ps_if (pt_cmpR (op_isTyA (C := C)) (pe_callTy (call_typeA (C := C)) rfl T.z_type bt_type (pa_cons (pv 4) pa_nil)) (pe_glob (v := .ref C) rfl T.g_Atom rfl) (nomark _)) (pss_one (ps_if (pt_cmpR op_gt (pe_fld (pv 4) rfl) (pv 2) (nomark _)) (pss_one (ps_ret pe_bl)) pss_nil)) (pss_one (ps_if (PW.pt (pw_and (pt_cmpR op_notN (pv 4) pe_non (nomark _)) (pw_and (pt_not (pt_val (C8.pe_c c_is_number hr (by first | decide | omega) rfl (pa_cons (pv 4) pa_nil)))) (pw_and1 (pt_not (pt_val (C8.pe_c c_is_text hr (by first | decide | omega) rfl (pa_cons (pv 4) pa_nil)))))))) (pss_one (ps_ret pe_bl)) pss_nil))))))))
      (pss_one (ps_ret pe_bl)))), ?_⟩
  refine ⟨_, rfl, (by show 2 ≤ sizeLine; decide), fun q0 hq0 => ⟨(by show 1 ≤ sizeLine; decide), fun l hl => ?_⟩⟩
  have s1 := same_new (o := .tup [x, .int 0]) hq0
  have s2 := same_new (o := .lst [.ref q0]) hl
  have hl0 : H l = none := s1.free hl
  refine ⟨fun m σ' H' => ∃ v4 v5 xs ps, σ' = [some x, some (.int (md : Int)), some (.int (mr : Int)), some (.ref l), v4, v5, none] ∧ Same H H' ∧ H' l = some (.lst xs) ∧ Stk C H H' xs ps ∧ okS md mr ps = okW md mr 0 d ∧ m = szS ps ∧ szS ps ≤ 1000000 ∧ ∀ p ∈ ps, txl p.1,
    ⟨_, none, none, [.ref q0], [(d, 0)], rfl, s1.trans s2, upd_same, .cons (s2 _ _ upd_same) hx .nil, by simp [okS], rfl, by simp [szS]; exact hz.1, fun p hp => by rw [List.mem_singleton.mp hp]; exact hz.2⟩, ?_⟩
  rintro m σ' H' ⟨v4, v5, xs, ps, rfl, sm, hl', st, ok, rfl, hm, hs⟩
  refine ⟨_, rfl, _, .inl ⟨xs, SqL.of hl', rfl⟩, ?_⟩
  by_cases hps : ps = []
  · subst hps
    cases st
    refine iteF ?_
    have q := q H' sm
    rw [← ok] at q
    exact q
  obtain ⟨qa, y, e, n, ys, qs, rfl, rfl, hq, hy, st'⟩ := st.last hps
  refine bT (by simp) ⟨fun σ2 H2 => ∃ m', m' < szS (qs ++ [(e, n)]) ∧ ∃ v4 v5 xs ps, σ2 = [some x, some (.int (md : Int)), some (.int (mr : Int)), some (.ref l), v4, v5, none] ∧ Same H H2 ∧ H2 l = some (.lst xs) ∧ Stk C H H2 xs ps ∧ okS md mr ps = okW md mr 0 d ∧ m' = szS ps ∧ szS ps ≤ 1000000 ∧ ∀ p ∈ ps, txl p.1, fun σ2 H2 h => h, ?_⟩
  -- part, deep = todo.pop()
  refine ⟨_, rfl, .inl ⟨rfl, _, SqL.of hl'⟩, l, _, .ref qa, rfl, rfl, hl', by simp, ?_⟩
  rw [List.dropLast_concat]
  have tp := Tups.put (ys := ys) hl'
  refine ⟨qa, [y, .int (n : Int)], rfl, SqT.of (tp _ _ hq), rfl, y, [.int (n : Int)], rfl, .int (n : Int), [], rfl, rfl, ?_⟩
  have sm2 : Same H (upd H' l (.lst ys)) := same_put sm hl0
  have hys : (upd H' l (.lst ys)) l = some (.lst ys) := upd_same
  have st2 := st'.keep tp
  rw [okS_app] at ok
  have hsz : szS (qs ++ [(e, n)]) = szS qs + sz e := by rw [szS_app]; simp [szS]
  have hse := sz_pos e
  have hqs : ∀ p ∈ qs, txl p.1 := fun p hp => hs p (List.mem_append_left _ hp)
  have hse2 : txl e := hs (e, n) (List.mem_append_right _ (List.mem_singleton.mpr rfl))
  have ok2 : okS md mr [(e, n)] = okW md mr n e := by simp [okS]
  rw [ok2] at ok
  generalize upd H' l (.lst ys) = H2 at sm2 hys st2
  have hy2 := hy.same sm2
  -- a part that is right, and leads no further
  have good : okW md mr n e = true → ∀ H3, Same H2 H3 → H3 l = some (.lst ys) → ∃ m', m' < szS (qs ++ [(e, n)]) ∧ ∃ v4 v5 xs ps, ([some x, some (.int (md : Int)), some (.int (mr : Int)), some (.ref l), some y, some (.int (n : Int)), none] : L2.St) = [some x, some (.int (md : Int)), some (.int (mr : Int)), some (.ref l), v4, v5, none] ∧ Same H H3 ∧ H3 l = some (.lst xs) ∧ Stk C H H3 xs ps ∧ okS md mr ps = okW md mr 0 d ∧ m' = szS ps ∧ szS ps ≤ 1000000 ∧ ∀ p ∈ ps, txl p.1 := fun hok H3 s3 hl3 =>
    ⟨szS qs, by omega, _, _, ys, qs, rfl, sm2.trans s3, hl3, st2.keep (Tups.of s3), by rw [← ok, hok, Bool.and_true], rfl, by omega, hqs⟩
  -- a part that is wrong
  have bad : okW md mr n e = false → ∀ H3, Same H2 H3 → Q (.bl false) H3 := fun hok H3 s3 => by
    have q := q H3 (sm2.trans s3)
    rw [← ok, hok, Bool.and_false] at q
    exact q
  refine ⟨_, rfl, y, e, rfl, hy2, kyV_ok e, .inl ⟨_, rfl⟩, _, rfl, ?_⟩
  by_cases ct : kyV C e = .ty "tuple"
  · refine ifT ct ?_
    obtain ⟨es, rfl⟩ := kyV_tup.mp ct
    refine ⟨_, rfl, _, rfl, rfl, _, rfl, ?_⟩
    by_cases cn : n = md
    · refine ifT (by rw [cn]) ?_
      exact bad (by simp [okW, cn]) H2 (Same.refl _)
    · refine ifF (fun z => cn (by have := V.int.inj z; omega)) ?_
      have hyt := hy
      cases hyt with
      | @tup ta txs _ hta tis =>
        refine ⟨_, rfl, .inl ⟨rfl, _, SqL.of hys⟩, _, rfl, ta, rfl, ⟨_, SqT.of (sm2 _ _ hta)⟩, fun Dl hD => ?_⟩
        have nDl : l ≠ Dl := fun z => by rw [z] at hys; rw [hys] at hD; cases hD
        refine lc_tup (K := K) (a := ta) (xs := txs) (fun i H3 => Same H2 H3 ∧ ∃ zs, H3 Dl = some (.lst zs) ∧ Stk C H H3 zs ((es.take i).map fun d => (d, n + 1)) ∧ zs.length = i)
          ⟨same_new hD, [], upd_same, by simpa using Stk.nil, rfl⟩ (fun i H3 _ h => SqT.of (h.1 _ _ (sm2 _ _ hta))) ?_ ?_
        · rintro i z H3 hi ⟨s3, zs, hz3, stz, hzl⟩
          obtain ⟨ed, hed, hiz⟩ := tis.at hi
          refine ⟨rfl, yes ?_⟩
          refine ⟨_, rfl, _, rfl, _, _, rfl, rfl, (by show 2 ≤ sizeLine; decide), fun t ht => ?_⟩
          have s4 := same_new (o := .tup [z, .int ((n : Int) + 1)]) ht
          have hz4 := s4 _ _ hz3
          have hlt := (List.getElem?_eq_some_iff.mp hed).1
          refine ⟨zs, hz4, Nat.lt_of_lt_of_le (show zs.length < 1000001 by simp only [sz] at hsz; have := len_szL es; omega) (by decide), same_put (s3.trans s4) hD, zs ++ [.ref t], upd_same, ?_, by simp [hzl]⟩
          have e6 : (es.take (i + 1)).map (fun d => (d, n + 1)) = (es.take i).map (fun d => (d, n + 1)) ++ [(ed, n + 1)] := by rw [List.take_add_one, hed, List.map_append]; rfl
          rw [e6]
          exact (stz.keep ((Tups.of s4).trans (Tups.put hz4))).app (.cons (Tups.put hz4 _ _ upd_same) hiz .nil)
        · rintro H3 ⟨s3, zs, hz3, stz, hzl⟩
          have htl := tis.len
          have hzl2 : zs.length + 1 ≤ sz (.tup es) := by simp only [sz]; have := len_szL es; omega
          have hyl := st2.len
          have hql := len_szS qs
          have hl3 := s3 _ _ hys
          refine ⟨l, Dl, ys, zs, rfl, rfl, hl3, hz3, Nat.le_trans (show ys.length + zs.length ≤ 1000000 by omega) (by decide), ?_⟩
          rw [List.take_of_length_le (by omega)] at stz
          refine ⟨szS (qs ++ es.map fun d => (d, n + 1)), ?_, _, _, ys ++ zs, qs ++ es.map (fun d => (d, n + 1)), rfl, same_put (sm2.trans s3) hl0, upd_same, ((st2.keep (Tups.of s3)).app stz).keep (Tups.put hl3), ?_, rfl, ?_, fun p hp => ?_⟩
          · rw [szS_app, szS_map, hsz]; simp only [sz]; omega
          · rw [okS_app, okS_map, ← ok]; simp [okW, cn]
          · rw [szS_app, szS_map]; simp only [sz] at hsz; omega
          · rcases List.mem_append.mp hp with hp | hp
            · exact hqs p hp
            · obtain ⟨d', hd', rfl⟩ := List.mem_map.mp hp
              exact txlL_mem (by simpa [txl] using hse2) hd'
  · refine ifF ct ⟨_, rfl, y, e, rfl, hy2, kyV_ok e, .inr rfl, _, rfl, ?_⟩
    by_cases ca : kyV C e = .ref C
    · refine ifT ca ?_
      obtain ⟨k, es, rfl⟩ := kyV_atom.mp ca
      cases hy2 with
      | @atom aa dx at_ _ axs _ h1 h2 h3 =>
        refine ⟨_, rfl, aa, C, dx, _, _, rfl, h1, T.cl.cl, T.cl.nR, rfl, _, rfl, _, _, rfl, rfl, _, rfl, ite2 (fun c => ?_) (fun c => ?_)⟩
        · exact bad (by simp only [okW]; refine decide_eq_false fun z => ?_; simp at c; omega) H2 (Same.refl _)
        · exact good (by simp only [okW]; refine decide_eq_true ?_; simp at c; omega) H2 (Same.refl _) hys
    · refine ifF ca ⟨_, rfl, rfl, _, rfl, ?_⟩
      by_cases cN : y = .non
      · rw [decide_eq_true cN]
        subst cN
        cases hy
        exact iteF (iteF (good rfl H2 (Same.refl _) hys))
      · rw [decide_eq_false cN]
        refine iteT ⟨_, rfl, y, e, rfl, hy2, trivial, fun H3 s3 => ⟨_, rfl, ?_⟩⟩
        cases hn : isNum e with
        | true =>
          refine iteF (iteF (good ?_ H3 s3 (s3 _ _ hys)))
          cases e <;> first | exact hn | cases hn
        | false =>
          refine iteT ⟨_, rfl, y, e, rfl, hy2.same s3, fun z hz' => by subst hz'; simpa [txl] using hse2, fun H4 s4 => ⟨_, rfl, ?_⟩⟩
          have s34 := s3.trans s4
          cases ht : isTxt e with
          | true =>
            refine iteF (good ?_ H4 s34 (s34 _ _ hys))
            cases e <;> first | exact ht | cases ht
          | false =>
            refine iteT (bad ?_ H4 s34)
            cases e with
            | non => cases hy; exact absurd rfl cN
            | int i => exact hn
            | str z => exact ht
            | tup es => exact absurd rfl ct
            | atom k es => exact absurd rfl ca
            | _ => rfl
end
end Hc

namespace Hc
open PySem PySem.Spec PyProof.Rows L2 Hr
mutual
/-- the atoms, each where it stands -/
def places : D → List D
  | .tup ds => placesL ds
  | .atom k ds => [.atom k ds]
  | _ => []
def placesL : List D → List D
  | [] => []
  | d :: ds => places d ++ placesL ds
end
theorem placesL_app : ∀ a b : List D, placesL (a ++ b) = placesL a ++ placesL b
  | [], b => rfl
  | x :: a, b => by rw [List.cons_append]; simp only [placesL]; rw [placesL_app a b, List.append_assoc]
mutual
theorem places_len : ∀ d : D, (places d).length ≤ sz d
  | .tup ds => by simp only [places, sz]; have := placesL_len ds; omega
  | .atom k ds => by simp [places, sz]
  | .non | .bl _ | .int _ | .str _ | .lst _ | .dct => by simp [places, sz]
theorem placesL_len : ∀ ds : List D, (placesL ds).length ≤ szL ds
  | [] => Nat.le_refl _
  | d :: ds => by simp only [placesL, szL, List.length_append]; have := places_len d; have := placesL_len ds; omega
end
mutual
theorem places_rank : ∀ d : D, (∀ e ∈ places d, rank e ≤ rank d) ∧ (0 < rank d → ∃ e ∈ places d, rank e = rank d)
  | .tup ds => by simp only [places, rank]; exact placesL_rank ds
  | .atom k ds => by simp [places]
  | .non | .bl _ | .int _ | .str _ | .lst _ | .dct => by simp [places, rank]
theorem placesL_rank : ∀ ds : List D, (∀ e ∈ placesL ds, rank e ≤ rankL ds) ∧ (0 < rankL ds → ∃ e ∈ placesL ds, rank e = rankL ds)
  | [] => by simp [placesL, rankL]
  | d :: ds => by
    obtain ⟨h1, h2⟩ := places_rank d
    obtain ⟨h3, h4⟩ := placesL_rank ds
    simp only [placesL, rankL]
    refine ⟨fun e he => ?_, fun hp => ?_⟩
    · rcases List.mem_append.mp he with he | he
      · have := h1 e he; omega
      · have := h3 e he; omega
    · by_cases c : rankL ds ≤ rank d
      · obtain ⟨e, he, hr⟩ := h2 (by omega)
        exact ⟨e, List.mem_append_left _ he, by omega⟩
      · obtain ⟨e, he, hr⟩ := h4 (by omega)
        exact ⟨e, List.mem_append_right _ he, by omega⟩
end
mutual
theorem places_atom : ∀ (d : D), ∀ e ∈ places d, ∃ k ds, e = .atom k ds
  | .tup ds, e, h => placesL_atom ds e (by simpa [places] using h)
  | .atom k ds, e, h => by simp [places] at h; exact ⟨k, ds, h⟩
  | .non, _, h | .bl _, _, h | .int _, _, h | .str _, _, h | .lst _, _, h | .dct, _, h => by simp [places] at h
theorem placesL_atom : ∀ (ds : List D), ∀ e ∈ placesL ds, ∃ k ds, e = .atom k ds
  | [], _, h => by simp [placesL] at h
  | d :: ds, e, h => by
    simp only [placesL] at h
    rcases List.mem_append.mp h with h | h
    · exact places_atom d e h
    · exact placesL_atom ds e h
end
def spPlaces (C : Addr) : Sp := fun vs H Q _ => ∃ x d, vs = [x] ∧ Is C H x d ∧ Fit d ∧ ∀ H' p xs, Same H H' → H p = none → H' p = some (.lst xs) → IsA C H' xs (places d) → Q (.ref p) H'
/-- a natural number is told -/
def spN (C : Addr) (ok : D → Prop) (f : D → Nat) : Sp := fun vs H Q _ => ∃ x d, vs = [x] ∧ Is C H x d ∧ ok d ∧ ∀ H', Same H H' → Q (.int (f d : Int)) H'
section
variable {P : Program} {w : World} {K : PySem.W.Frag} {mg : Str → Option Value} {base : Heap} {f : Addr} {fd : FuncData} {C : Addr}
abbrev s_is_word : Stmt := top 14
theorem sc_is_word : FnScope ["value"] ["value"] (C8.fnScope s_is_word) := C8.fnScope_by (by decide +kernel)
theorem ok_is_word (F : C8.Def K mg "is_word" s_is_word f fd) (b : Binds K fd ["value"] []) (T : Txt K mg w C) (c__is_within : C8.Cal P w K mg base 2 "_is_within" (spWithin C) []) : C8.Cal P w K mg base 3 "is_word" (spB C Fit (okW 40 40 0)) [] := by
  refine C8.cal0 F b .nil sc_is_word (fun vs H Q E h => ?_) (fun cdv A outer s H vs Q E hr h => ?_)
  · obtain ⟨x, d, rfl, _⟩ := h; rfl
  obtain ⟨x, d, rfl, hx, hz, q⟩ := h
  refine ⟨_, (pss_one (ps_ret (C8.pe_c c__is_within hr (by first | decide | omega) rfl (pa_cons (pv 0) (pa_cons (C8.pe_gc rfl T.c_MOST_DEEP) (pa_cons (C8.pe_gc rfl T.c_MOST_RANK) pa_nil)))))), ?_⟩
  exact ⟨x, rfl, x, d, 40, 40, rfl, hx, hz, q⟩
abbrev s__places_of_atoms : Stmt := top 18
theorem sc__places_of_atoms : FnScope ["value", "found", "todo", "part"] ["value"] (C8.fnScope s__places_of_atoms) := C8.fnScope_by (by decide +kernel)
theorem ok__places_of_atoms (F : C8.Def K mg "_places_of_atoms" s__places_of_atoms f fd) (b : Binds K fd ["value"] []) (T : Txt K mg w C) : C8.Cal P w K mg base 1 "_places_of_atoms" (spPlaces C) [] := by
  refine C8.cal0 F b .nil sc__places_of_atoms (fun vs H Q E h => ?_) (fun cdv A outer s H vs Q E hr h => ?_)
  · obtain ⟨x, d, rfl, _⟩ := h; rfl
  obtain ⟨x, d, rfl, hx, hz, q⟩ := h
  refine ⟨_, (pss_cons (ps_set (i := 1) sc__places_of_atoms.nd rfl (Or.inl rfl) (pe_lst pa_nil))
      (pss_cons (ps_set (i := 2) sc__places_of_atoms.nd rfl (Or.inl rfl) (pe_lst (pa_cons (pv 0) pa_nil)))
      (pss_cons (ps_while PassesOwn.never (pt_truth (pv 2) (fun _ => rfl))
      (pss_cons (ps_set (i := 3) sc__places_of_atoms.nd rfl (Or.inl rfl) (pe_bm0 PySem.F.plainAttrs_list PySem.F.slot_list_pop PySem.F.type_list_pop mt_pop (pv 2)))
      (pss_one (ps_if (pt_cmpR (op_isTyA (C := C)) (pe_callTy (call_typeA (C := C)) rfl T.z_type bt_type (pa_cons (pv 3) pa_nil)) (pe_bltn (v := .ty "tuple") rfl T.z_tuple bt_tuple rfl) (nomark _)) (pss_one (ps_expr (pe_bm PySem.F.plainAttrs_list PySem.F.slot_list_extend PySem.F.type_list_extend mt_extendT (pv 2) (pa_cons (pe_revT (pv 3)) pa_nil)))) (pss_one (ps_if (pt_cmpR (op_isTyA (C := C)) (pe_callTy (call_typeA (C := C)) rfl T.z_type bt_type (pa_cons (pv 3) pa_nil)) (pe_glob (v := .ref C) rfl T.g_Atom rfl) (nomark _)) (pss_one (ps_expr (pe_bm PySem.F.plainAttrs_list PySem.F.slot_list_append PySem.F.type_list_append mt_append (pv 1) (pa_cons (pv 3) pa_nil)))) pss_nil))))))
      (pss_one (ps_ret (pv 1)))))), ?_⟩
  refine ⟨(by show 0 ≤ sizeLine; decide), fun fo hfo => ⟨x, rfl, (by show 1 ≤ sizeLine; decide), fun l hl => ?_⟩⟩
  have s1 := same_new (o := .lst []) hfo
  have s2 := same_new (o := .lst [x]) hl
  have hl0 : H l = none := s1.free hl
  have nfl : fo ≠ l := fun z => by rw [← z, upd_same] at hl; cases hl
  refine ⟨fun m σ' H' => ∃ v3 fs xs es ds, σ' = [some x, some (.ref fo), some (.ref l), v3] ∧ Same H H' ∧ H' fo = some (.lst fs) ∧ H' l = some (.lst xs) ∧ IsA C H fs es ∧ IsA C H xs ds ∧ es ++ placesL ds.reverse = places d ∧ m = szL ds ∧ szL ds ≤ 1000000,
    ⟨_, none, [], [x], [], [d], rfl, s1.trans s2, s2 _ _ upd_same, upd_same, .nil, .cons hx .nil, by simp [placesL], rfl, by simp [szL]; exact hz.1⟩, ?_⟩
  rintro m σ' H' ⟨v3, fs, xs, es, ds, rfl, sm, hf', hl', hfs, hxs, e0, rfl, hm⟩
  refine ⟨_, rfl, _, .inl ⟨xs, SqL.of hl', rfl⟩, ?_⟩
  rcases List.eq_nil_or_concat ds with rfl | ⟨ds', e, rfl⟩
  · cases hxs
    refine iteF ⟨_, rfl, ?_⟩
    simp only [List.reverse_nil, placesL, List.append_nil] at e0
    rw [e0] at hfs
    exact q H' fo fs sm hfo hf' (hfs.same sm)
  obtain ⟨ys, y, rfl, hys, hy⟩ := hxs.concat
  simp only [List.concat_eq_append] at e0 hm ⊢
  refine bT (by simp) ⟨fun σ2 H2 => ∃ m', m' < szL (ds' ++ [e]) ∧ ∃ v3 fs xs es ds, σ2 = [some x, some (.ref fo), some (.ref l), v3] ∧ Same H H2 ∧ H2 fo = some (.lst fs) ∧ H2 l = some (.lst xs) ∧ IsA C H fs es ∧ IsA C H xs ds ∧ es ++ placesL ds.reverse = places d ∧ m' = szL ds ∧ szL ds ≤ 1000000, fun σ2 H2 h => h, ?_⟩
  refine ⟨_, rfl, .inl ⟨rfl, _, SqL.of hl'⟩, l, _, y, rfl, rfl, hl', by simp, ?_⟩
  rw [List.dropLast_concat]
  have sm2 : Same H (upd H' l (.lst ys)) := same_put sm hl0
  have hl2 : (upd H' l (.lst ys)) l = some (.lst ys) := upd_same
  have hf2 : (upd H' l (.lst ys)) fo = some (.lst fs) := by rw [upd_ne nfl]; exact hf'
  generalize upd H' l (.lst ys) = H2 at sm2 hl2 hf2
  rw [List.reverse_append, List.reverse_singleton, List.singleton_append] at e0
  simp only [placesL] at e0
  have hse := sz_pos e
  have hsz : szL (ds' ++ [e]) = szL ds' + sz e := by rw [szL_app]; simp [szL]
  have hdl := len_szL ds'
  have hyl := hys.len
  refine ⟨_, rfl, y, e, rfl, hy.same sm2, kyV_ok e, .inl ⟨_, rfl⟩, _, rfl, ?_⟩
  by_cases ct : kyV C e = .ty "tuple"
  · refine ifT ct ?_
    obtain ⟨gs, rfl⟩ := kyV_tup.mp ct
    cases hy with
    | @tup ta txs _ hta tis =>
      refine ⟨_, rfl, .inl ⟨rfl, _, SqL.of hl2⟩, _, rfl, ta, _, rfl, SqT.of (sm2 _ _ hta), fun r hr' => ?_⟩
      have s3 := same_new (o := .tup txs.reverse) hr'
      have htl := tis.len
      have hgl := len_szL gs
      refine ⟨l, r, ys, _, rfl, rfl, s3 _ _ hl2, upd_same, Nat.le_trans (show ys.length + txs.reverse.length ≤ 1000000 by simp only [sz] at hsz; rw [List.length_reverse]; omega) (by decide), ?_⟩
      refine ⟨szL (ds' ++ gs.reverse), ?_, _, fs, ys ++ txs.reverse, es, ds' ++ gs.reverse, rfl, same_put (sm2.trans s3) hl0, by rw [upd_ne nfl]; exact s3 _ _ hf2, upd_same, hfs, hys.app tis.rev, ?_, rfl, ?_⟩
      · rw [szL_app, szL_rev, hsz]; simp only [sz]; omega
      · rw [List.reverse_append, List.reverse_reverse, placesL_app]; simp only [places] at e0; exact e0
      · rw [szL_app, szL_rev]; simp only [sz] at hsz; omega
  · refine ifF ct ⟨_, rfl, y, e, rfl, hy.same sm2, kyV_ok e, .inr rfl, _, rfl, ?_⟩
    by_cases ca : kyV C e = .ref C
    · refine ifT ca ?_
      obtain ⟨k, gs, rfl⟩ := kyV_atom.mp ca
      have hel : es.length + 1 ≤ 1000000 := by
        have h1 := congrArg List.length e0
        have h2 := places_len d
        have h3 := hz.1
        simp only [List.length_append, places, List.length_singleton] at h1
        omega
      have hfl := hfs.len
      refine ⟨_, rfl, .inl ⟨rfl, _, SqL.of hf2⟩, _, rfl, fo, fs, y, rfl, rfl, hf2, Nat.lt_of_lt_of_le (show fs.length < 1000001 by omega) (by decide), ?_⟩
      refine ⟨szL ds', by omega, _, fs ++ [y], ys, es ++ [.atom k gs], ds', rfl, same_put sm2 hfo, upd_same, by rw [upd_ne nfl.symm]; exact hl2, hfs.app (.cons hy .nil), hys, ?_, rfl, by omega⟩
      simp only [places] at e0
      rw [List.append_assoc]; exact e0
    · refine ifF ca ⟨szL ds', by omega, _, fs, ys, es, ds', rfl, sm2, hf2, hl2, hfs, hys, ?_, rfl, by omega⟩
      have hp : places e = [] := by cases e <;> first | rfl | exact absurd rfl ct | exact absurd rfl ca
      rw [hp] at e0; exact e0
end
end Hc

namespace Hc
open PySem PySem.Spec PyProof.Rows L2 Hr
theorem call_lenS {X : Cx} : CallR X (.builtin "len") (fun xs H Q => ∃ p ys, xs = [.ref p] ∧ (SqL X.K H p ys ∨ SqT X.K H p ys) ∧ Q (.int ys.length) H) := call_len_seq
def spRk (C : Addr) : Sp := fun vs H Q _ => ∃ k t ds, vs = [.str k, .ref t] ∧ Is C H (.ref t) (.tup ds) ∧ Fit (.tup ds) ∧ ∀ H', Same H H' → Q (.int ((rank (.atom k ds) : Nat) : Int)) H'
def mostR (k : Str) : Nat := if k = "token" then 36 else 40
def spMost : Sp := fun vs H Q _ => ∃ k, vs = [.str k] ∧ Q (.int ((mostR k : Nat) : Int)) H
def isS : D → Bool | .str _ => true | _ => false
def isI : D → Bool | .int _ => true | _ => false
def isT : D → Bool | .tup _ => true | _ => false
def hasF (d : D) (z : Str) : Bool :=
  if z = "text" then isS d
  else if z = "number" then isI d
  else if z = "tuple" then isT d
  else if z = "hidden" then (match d with | .non => true | .tup ds => decide (ds.length = 4) | _ => false)
  else if z = "pages" then (match d with | .tup ds => decide (ds.length = 8) | _ => false)
  else true
def spHasF (C : Addr) : Sp := fun vs H Q _ => ∃ x d z, vs = [x, .str z] ∧ Is C H x d ∧ Q (.bl (hasF d z)) H
theorem inV2 (k : Str) : inV (.str k) [.str "seal", .str "page"] = (decide (k = "seal") || decide (k = "page")) := by
  have e : ∀ a b : Str, eqV (.str a) (.str b) = decide (b = a) := fun a b => by
    simp only [eqV]
    by_cases h : a = b
    · subst h; simp
    · simp [h, Ne.symm h, fun z : b = a => h z.symm]
  show ([V.str "seal", .str "page"].any fun y => eqV y (.str k)) = _
  rw [List.any_cons, List.any_cons, e, e]
  simp
section
variable {P : Program} {w : World} {K : PySem.W.Frag} {mg : Str → Option Value} {base : Heap} {f : Addr} {fd : FuncData} {C : Addr}
abbrev s_rank_of : Stmt := top 15
theorem sc_rank_of : FnScope ["word", "atom"] ["word"] (C8.fnScope s_rank_of) := C8.fnScope_by (by decide +kernel)
theorem ok_rank_of (F : C8.Def K mg "rank_of" s_rank_of f fd) (b : Binds K fd ["word"] []) (T : Txt K mg w C) (c__places_of_atoms : C8.Cal P w K mg base 1 "_places_of_atoms" (spPlaces C) []) : C8.Cal P w K mg base 2 "rank_of" (spN C Fit rank) [] := by
  refine C8.cal0 F b .nil sc_rank_of (fun vs H Q E h => ?_) (fun cdv A outer s H vs Q E hr h => ?_)
  · obtain ⟨x, d, rfl, _⟩ := h; rfl
  obtain ⟨x, d, rfl, hx, hz, q⟩ := h
  refine ⟨_, (pss_one (ps_ret (pe_callBK (call_maxDK rfl) rfl T.z_max bt_max (pa_cons (pe_lc (own := [("atom", 1)]) (te := tFld K (tVar 1) "rank") (g := gName 1) rfl sc_rank_of.nd (pi_list (C8.pe_c c__places_of_atoms hr (by first | decide | omega) rfl (pa_cons (pv 0) pa_nil))) (blkOk_by (own := [("atom", 1)]) (N := ["word", "atom"]) (sc := C8.fnScope s_rank_of) (by decide +kernel)) (fun _ _ _ _ _ => (pg_name (i := 1) sc_rank_of.nd rfl (Or.inl rfl))) (fun _ _ _ _ _ => pts_nil) (fun _ _ _ _ _ => (pe_fld (pv 1) rfl))) pa_nil) (pk_cons pe_int pk_nil)))), ?_⟩
  refine ⟨x, rfl, x, d, rfl, hx, hz, fun H1 p xs sm hp hl is => ⟨p, rfl, ⟨xs, SqL.of hl⟩, fun Dl hD => ?_⟩⟩
  have npD : p ≠ Dl := fun z => by rw [z] at hl; rw [hl] at hD; cases hD
  refine lc_list (K := K) (a := p) (xs := xs) (fun i H3 => Same H1 H3 ∧ H3 Dl = some (.lst (((places d).take i).map fun e => V.int ((rank e : Nat) : Int)))) ⟨same_new hD, upd_same⟩ (fun i H3 _ h => SqL.of (h.1 _ _ hl)) ?_ ?_
  · rintro i z H3 hi ⟨s3, hz3⟩
    obtain ⟨e, he, hie⟩ := is.at hi
    obtain ⟨k, gs, rfl⟩ := places_atom d e (List.mem_of_getElem? he)
    refine ⟨rfl, yes ?_⟩
    have hie3 := hie.same s3
    cases hie3 with
    | @atom aa dx at_ _ axs _ h1 h2 h3 =>
      have hlt := (List.getElem?_eq_some_iff.mp he).1
      have hpl := places_len d
      have hzz := hz.1
      refine ⟨_, rfl, aa, C, dx, _, _, rfl, h1, T.cl.cl, T.cl.nR, rfl, _, hz3, Nat.lt_of_lt_of_le (show _ < 1000001 by rw [List.length_map, List.length_take]; omega) (by decide), same_put s3 hD, ?_⟩
      rw [upd_same, List.take_add_one, he, List.map_append]; rfl
  · rintro H3 ⟨s3, hz3⟩
    rw [is.len, List.take_of_length_le (Nat.le_refl _)] at hz3
    refine ⟨Dl, (places d).map fun e => ((rank e : Nat) : Int), 0, rfl, rfl, SqL.of (by rw [List.map_map]; exact hz3), fun m h0 h1 => ?_⟩
    have em : m = ((rank d : Nat) : Int) := by
      obtain ⟨r1, r2⟩ := places_rank d
      by_cases hp0 : places d = []
      · have hr0 : ¬ 0 < rank d := fun z => by
          obtain ⟨e, he, _⟩ := r2 z
          rw [hp0] at he; cases he
        rw [h0 (by rw [hp0]; rfl)]; omega
      · obtain ⟨hm, hall⟩ := h1 (by simpa using hp0)
        obtain ⟨e, he, rfl⟩ := List.mem_map.mp hm
        have h5 := r1 e he
        have hpos : 0 < rank d := by
          obtain ⟨k, gs, rfl⟩ := places_atom d e he
          have : 0 < rank (.atom k gs) := by simp only [rank]; split <;> omega
          omega
        obtain ⟨e2, he2, hr2⟩ := r2 hpos
        have := hall _ (List.mem_map.mpr ⟨e2, he2, rfl⟩)
        omega
    rw [em]
    exact q H3 (sm.trans s3)
abbrev s__rank_of_atom : Stmt := top 22
theorem sc__rank_of_atom : FnScope ["kind", "term"] ["kind", "term"] (C8.fnScope s__rank_of_atom) := C8.fnScope_by (by decide +kernel)
theorem ok__rank_of_atom (F : C8.Def K mg "_rank_of_atom" s__rank_of_atom f fd) (b : Binds K fd ["kind", "term"] []) (T : Txt K mg w C) (c_rank_of : C8.Cal P w K mg base 2 "rank_of" (spN C Fit rank) []) : C8.Cal P w K mg base 3 "_rank_of_atom" (spRk C) [] := by
  refine C8.cal0 F b .nil sc__rank_of_atom (fun vs H Q E h => ?_) (fun cdv A outer s H vs Q E hr h => ?_)
  · obtain ⟨k, t, ds, rfl, _⟩ := h; rfl
  obtain ⟨k, t, ds, rfl, hx, hz, q⟩ := h
  refine ⟨_, (pss_cons (ps_if (pt_cmpR op_in_seq (pv 0) (pe_tup (pa_cons pe_str (pa_cons pe_str pa_nil))) (by with_unfolding_all rfl)) (pss_one (ps_ret pe_int)) pss_nil)
      (pss_one (ps_ret (pe_op op_add (C8.pe_c c_rank_of hr (by first | decide | omega) rfl (pa_cons (pv 1) pa_nil)) pe_int)))), ?_⟩
  refine ⟨_, rfl, (by show 2 ≤ sizeLine; decide), fun u hu => ?_⟩
  have s1 := same_new (o := .tup [.str "seal", .str "page"]) hu
  refine ⟨u, _, rfl, .inr (SqT.of upd_same), rfl, rfl, _, rfl, ?_⟩
  show (if (inV (.str k) [.str "seal", .str "page"]) = true then _ else _)
  rw [inV2]
  by_cases c : k = "seal" ∨ k = "page"
  · have e : rank (.atom k ds) = 1 := by simp only [rank]; rw [if_pos c]
    rw [e] at q
    refine bT (by simpa using c) (q _ s1)
  · have e : rank (.atom k ds) = rankL ds + 1 := by simp only [rank]; rw [if_neg c]
    rw [e] at q
    refine bF (by simpa using c) ⟨_, rfl, _, .tup ds, rfl, hx.same s1, hz, fun H2 s2 => ⟨_, _, rfl, rfl, ?_⟩⟩
    have q2 := q H2 (s1.trans s2)
    have e2 : (((rankL ds + 1 : Nat)) : Int) = ((rank (.tup ds) : Nat) : Int) + 1 := by simp only [rank]; omega
    rw [e2] at q2
    exact q2
abbrev s__most_rank : Stmt := top 23
theorem sc__most_rank : FnScope ["kind"] ["kind"] (C8.fnScope s__most_rank) := C8.fnScope_by (by decide +kernel)
theorem ok__most_rank (F : C8.Def K mg "_most_rank" s__most_rank f fd) (b : Binds K fd ["kind"] []) (T : Txt K mg w C) : C8.Cal P w K mg base 1 "_most_rank" spMost [] := by
  refine C8.cal0 F b .nil sc__most_rank (fun vs H Q E h => ?_) (fun cdv A outer s H vs Q E hr h => ?_)
  · obtain ⟨k, rfl, _⟩ := h; rfl
  obtain ⟨k, rfl, q⟩ := h
  refine ⟨_, (pss_one (ps_ret (pe_ifExp (pt_cmpR op_eq (pv 0) pe_str (nomark _)) (C8.pe_gc rfl T.c_MOST_RANK_HOST) (C8.pe_gc rfl T.c_MOST_RANK)))), ?_⟩
  refine ⟨_, rfl, rfl, _, rfl, ?_⟩
  unfold mostR at q
  by_cases c : k = "token"
  · rw [if_pos c] at q
    exact ifT (congrArg V.str c) q
  · rw [if_neg c] at q
    exact ifF (fun z => c (V.str.inj z)) q
abbrev s__has_form : Stmt := top 21
theorem sc__has_form : FnScope ["part", "form"] ["part", "form"] (C8.fnScope s__has_form) := C8.fnScope_by (by decide +kernel)
theorem ok__has_form (F : C8.Def K mg "_has_form" s__has_form f fd) (b : Binds K fd ["part", "form"] []) (T : Txt K mg w C) : C8.Cal P w K mg base 1 "_has_form" (spHasF C) [] := by
  refine C8.cal0 F b .nil sc__has_form (fun vs H Q E h => ?_) (fun cdv A outer s H vs Q E hr h => ?_)
  · obtain ⟨x, d, z, rfl, _⟩ := h; rfl
  obtain ⟨x, d, z, rfl, hx, q⟩ := h
  refine ⟨_, (pss_cons (ps_if (pt_cmpR op_eq (pv 1) pe_str (nomark _)) (pss_one (ps_ret (pe_cmpR (op_isTyA (C := C)) (pe_callTy (call_typeA (C := C)) rfl T.z_type bt_type (pa_cons (pv 0) pa_nil)) (pe_bltn (v := .ty "str") rfl T.z_str bt_str rfl) (nomark _)))) pss_nil)
      (pss_cons (ps_if (pt_cmpR op_eq (pv 1) pe_str (nomark _)) (pss_one (ps_ret (pe_cmpR (op_isTyA (C := C)) (pe_callTy (call_typeA (C := C)) rfl T.z_type bt_type (pa_cons (pv 0) pa_nil)) (pe_bltn (v := .ty "int") rfl T.z_int bt_int rfl) (nomark _)))) pss_nil)
      (pss_cons (ps_if (pt_cmpR op_eq (pv 1) pe_str (nomark _)) (pss_one (ps_ret (pe_cmpR (op_isTyA (C := C)) (pe_callTy (call_typeA (C := C)) rfl T.z_type bt_type (pa_cons (pv 0) pa_nil)) (pe_bltn (v := .ty "tuple") rfl T.z_tuple bt_tuple rfl) (nomark _)))) pss_nil)
      (pss_cons (ps_if (pt_cmpR op_eq (pv 1) pe_str (nomark _)) (pss_one (ps_ret (pe_or (pe_cmpR op_isN (pv 0) pe_non (nomark _)) (pe_one (pe_and (pe_cmpR (op_isTyA (C := C)) (pe_callTy (call_typeA (C := C)) rfl T.z_type bt_type (pa_cons (pv 0) pa_nil)) (pe_bltn (v := .ty "tuple") rfl T.z_tuple bt_tuple rfl) (nomark _)) (pe_one (pe_cmpR op_eq (pe_callB call_lenS rfl T.z_len bt_len (pa_cons (pv 0) pa_nil)) pe_int (nomark _)))))))) pss_nil)
      (pss_cons (ps_if (pt_cmpR op_eq (pv 1) pe_str (nomark _)) (pss_one (ps_ret (pe_and (pe_cmpR (op_isTyA (C := C)) (pe_callTy (call_typeA (C := C)) rfl T.z_type bt_type (pa_cons (pv 0) pa_nil)) (pe_bltn (v := .ty "tuple") rfl T.z_tuple bt_tuple rfl) (nomark _)) (pe_one (pe_cmpR op_eq (pe_callB call_lenS rfl T.z_len bt_len (pa_cons (pv 0) pa_nil)) pe_int (nomark _)))))) pss_nil)
      (pss_one (ps_ret pe_bl))))))), ?_⟩
  have q := q
  unfold hasF at q
  have kS : decide (kyV C d = .ty "str") = isS d := by cases d <;> simp [kyV, isS]
  have kI : decide (kyV C d = .ty "int") = isI d := by cases d <;> simp [kyV, isI]
  have kT : decide (kyV C d = .ty "tuple") = isT d := by cases d <;> simp [kyV, isT]
  refine ⟨_, rfl, rfl, _, rfl, ?_⟩
  by_cases c1 : z = "text"
  · rw [if_pos c1] at q
    refine ifT (congrArg V.str c1) ⟨x, rfl, x, d, rfl, hx, kyV_ok d, .inl ⟨_, rfl⟩, ?_⟩
    rw [kS]; exact q
  rw [if_neg c1] at q
  refine ifF (fun y => c1 (V.str.inj y)) ⟨_, rfl, rfl, _, rfl, ?_⟩
  by_cases c2 : z = "number"
  · rw [if_pos c2] at q
    refine ifT (congrArg V.str c2) ⟨x, rfl, x, d, rfl, hx, kyV_ok d, .inl ⟨_, rfl⟩, ?_⟩
    rw [kI]; exact q
  rw [if_neg c2] at q
  refine ifF (fun y => c2 (V.str.inj y)) ⟨_, rfl, rfl, _, rfl, ?_⟩
  by_cases c3 : z = "tuple"
  · rw [if_pos c3] at q
    refine ifT (congrArg V.str c3) ⟨x, rfl, x, d, rfl, hx, kyV_ok d, .inl ⟨_, rfl⟩, ?_⟩
    rw [kT]; exact q
  rw [if_neg c3] at q
  refine ifF (fun y => c3 (V.str.inj y)) ⟨_, rfl, rfl, _, rfl, ?_⟩
  by_cases c4 : z = "hidden"
  · rw [if_pos c4] at q
    refine ifT (congrArg V.str c4) ⟨x, rfl, rfl, _, rfl, ?_⟩
    cases hx with
    | non => exact iteT q
    | @tup a xs ds ht ha =>
      have hl := ha.len
      refine iteF ⟨_, rfl, _, .tup ds, rfl, .tup ht ha, kyV_ok _, .inl ⟨_, rfl⟩, _, rfl, ?_⟩
      refine ifT rfl ⟨_, rfl, a, xs, rfl, .inr (SqT.of ht), rfl, ?_⟩
      have e : decide (V.int (xs.length : Int) = V.int 4) = decide (ds.length = 4) := by
        rw [hl]; by_cases c : ds.length = 4
        · rw [c]; rfl
        · rw [decide_eq_false c, decide_eq_false fun y => c (by have := V.int.inj y; omega)]
      rw [e]; exact q
    | bl y => exact iteF ⟨_, rfl, _, .bl y, rfl, .bl y, kyV_ok _, .inl ⟨_, rfl⟩, _, rfl, ifF (by simp [kyV]) q⟩
    | int y => exact iteF ⟨_, rfl, _, .int y, rfl, .int y, kyV_ok _, .inl ⟨_, rfl⟩, _, rfl, ifF (by simp [kyV]) q⟩
    | str y => exact iteF ⟨_, rfl, _, .str y, rfl, .str y, kyV_ok _, .inl ⟨_, rfl⟩, _, rfl, ifF (by simp [kyV]) q⟩
    | lst h1 h2 => exact iteF ⟨_, rfl, _, .lst _, rfl, .lst h1 h2, kyV_ok _, .inl ⟨_, rfl⟩, _, rfl, ifF (by simp [kyV]) q⟩
    | dct h1 => exact iteF ⟨_, rfl, _, .dct, rfl, .dct h1, kyV_ok _, .inl ⟨_, rfl⟩, _, rfl, ifF (by simp [kyV]) q⟩
    | atom h1 h2 h3 => exact iteF ⟨_, rfl, _, .atom _ _, rfl, .atom h1 h2 h3, kyV_ok _, .inl ⟨_, rfl⟩, _, rfl, ifF (by simp [kyV]) q⟩
  rw [if_neg c4] at q
  refine ifF (fun y => c4 (V.str.inj y)) ⟨_, rfl, rfl, _, rfl, ?_⟩
  by_cases c5 : z = "pages"
  · rw [if_pos c5] at q
    refine ifT (congrArg V.str c5) ⟨x, rfl, x, d, rfl, hx, kyV_ok d, .inl ⟨_, rfl⟩, _, rfl, ?_⟩
    by_cases ct : kyV C d = .ty "tuple"
    · obtain ⟨ds, rfl⟩ := kyV_tup.mp ct
      cases hx with
      | @tup a xs _ ht ha =>
        have hl := ha.len
        refine ifT ct ⟨_, rfl, a, xs, rfl, .inr (SqT.of ht), rfl, ?_⟩
        have e : decide (V.int (xs.length : Int) = V.int 8) = decide (ds.length = 8) := by
          rw [hl]; by_cases c : ds.length = 8
          · rw [c]; rfl
          · rw [decide_eq_false c, decide_eq_false fun y => c (by have := V.int.inj y; omega)]
        rw [e]; exact q
    · refine ifF ct ?_
      cases d <;> first | exact q | exact absurd rfl ct
  rw [if_neg c5] at q
  exact ifF (fun y => c5 (V.str.inj y)) q
end
end Hc

namespace Hc
open PySem PySem.Spec PyProof.Rows L2 Hr
theorem walk_zipT {K : PySem.W.Frag} {a b : Addr} {xs ys : List V} {n : Nat} (hn : n = min xs.length ys.length) : Walk (RZ.ItzT K a b) n (fun H => SqT K H a xs ∧ SqT K H b ys) (YPair (fun i => xs[i]?) (fun i => ys[i]?)) := by
  subst hn
  refine ⟨fun i _ hi q => ?_, fun _ q => ⟨xs, ys, q.1, q.2, by omega⟩, fun i H v H' _ q y => ?_⟩
  · have h1 : i < xs.length := by omega
    have h2 : i < ys.length := by omega
    exact ⟨xs, ys, xs[i], ys[i], q.1, q.2, by simp [h1], by simp [h2]⟩
  · obtain ⟨t, x, z, e1, e2, e3, e4, e5⟩ := y
    exact ⟨t, x, z, e1, e2, e3, e4 xs q.1, e5 ys q.2⟩
def formsOf (k : Str) : Option (List Str) :=
  if k = "token" then some ["text", "tuple", "word"]
  else if k = "challenge" then some ["text", "number"]
  else if k = "seal" then some ["text", "number", "number", "hidden"]
  else if k = "page" then some ["text", "number", "number", "hidden"]
  else if k = "ticket" then some ["text", "number", "text", "tuple", "pages", "tuple"]
  else none
def partOk (d : D) (z : Str) : Bool := okW 40 40 0 d && hasF d z
def isTermK (k : Str) (ds : List D) : Bool := match formsOf k with
  | some fs => decide (ds.length = fs.length) && (ds.zip fs).all fun p => partOk p.1 p.2
  | none => false
def isTermD : D → D → Bool
  | .str k, .tup ds => isTermK k ds
  | _, _ => false
def KindOk : D → Prop
  | .str k => k = "token" ∨ k = "challenge" ∨ k = "seal" ∨ k = "page" ∨ k = "ticket" ∨ k = "key"
  | _ => True
theorem forms_at {K : PySem.W.Frag} {mg : Str → Option Value} {w : World} {C : Addr} (T : Txt K mg w C) : ∃ Fo, (∃ u, mg "_FORMS" = some u ∧ RelV (.ref Fo) u) ∧ (∃ es n, KDict K w Fo es n) ∧
    ∀ k : Str, KindOk (.str k) → (∃ t fs, formsOf k = some fs ∧ KDct K w Fo k (.ref t) ∧ KTup K t fs) ∨ (formsOf k = none ∧ PySem.W.nsIn K Fo k = some none) := by
  obtain ⟨Fo, t1, t2, t3, t4, t5, gF, KD, d1, d2, d3, d4, d5, d6, k1, k2, k3, k4, k5⟩ := T.forms
  refine ⟨Fo, gF, KD, fun k hk => ?_⟩
  rcases hk with rfl | rfl | rfl | rfl | rfl | rfl
  · exact .inl ⟨t1, _, by decide +kernel, d1, k1⟩
  · exact .inl ⟨t2, _, by decide +kernel, d2, k2⟩
  · exact .inl ⟨t3, _, by decide +kernel, d3, k3⟩
  · exact .inl ⟨t4, _, by decide +kernel, d4, k4⟩
  · exact .inl ⟨t5, _, by decide +kernel, d5, k5⟩
  · exact .inr ⟨by decide +kernel, d6⟩
def spTerm (C : Addr) : Sp := fun vs H Q _ => ∃ xk xt dk dt, vs = [xk, xt] ∧ Is C H xk dk ∧ Is C H xt dt ∧ KindOk dk ∧ Fit dt ∧ ∀ H', Same H H' → Q (.bl (isTermD dk dt)) H'
theorem Fit.part {ds : List D} {d : D} (h : Fit (.tup ds)) (hd : d ∈ ds) : Fit d := by
  refine ⟨?_, txlL_mem (by simpa [txl] using h.2) hd⟩
  have h1 := h.1
  simp only [sz] at h1
  have : sz d ≤ szL ds := by
    clear h h1
    induction ds with
    | nil => cases hd
    | cons x r ih =>
      simp only [szL]
      rcases List.mem_cons.mp hd with rfl | hd
      · omega
      · have := ih hd; omega
  omega
def spInit (C : Addr) : Sp := fun vs H Q _ => ∃ p dx k t ds, vs = [.ref p, .str k, .ref t] ∧ H p = some (.ins C dx []) ∧ Is C H (.ref t) (.tup ds) ∧ isTermK k ds = true ∧ rank (.atom k ds) ≤ mostR k ∧ Fit (.tup ds) ∧
  ∀ H', H' p = some (.ins C dx (atF k t (rank (.atom k ds)))) → (∀ b o, H b = some o → b ≠ p → H' b = some o) → Q .non H'
theorem put_at (k : Str) (t : Addr) (r : Nat) : putF "_stripped" .non (putF "rank" (.int (r : Int)) (putF "term" (.ref t) (putF "kind" (.str k) []))) = atF k t r := by
  have n1 : ¬ (("kind" : Str) = "term") := by decide +kernel
  have n2 : ¬ (("kind" : Str) = "rank") := by decide +kernel
  have n3 : ¬ (("term" : Str) = "rank") := by decide +kernel
  have n4 : ¬ (("kind" : Str) = "_stripped") := by decide +kernel
  have n5 : ¬ (("term" : Str) = "_stripped") := by decide +kernel
  have n6 : ¬ (("rank" : Str) = "_stripped") := by decide +kernel
  simp [putF, atF, n1, n2, n3, n4, n5, n6]
theorem term_kind {k : Str} {ds : List D} (h : isTermK k ds = true) : KindOk (.str k) := by
  unfold isTermK formsOf at h
  unfold KindOk
  by_cases c1 : k = "token"
  · exact .inl c1
  by_cases c2 : k = "challenge"
  · exact .inr (.inl c2)
  by_cases c3 : k = "seal"
  · exact .inr (.inr (.inl c3))
  by_cases c4 : k = "page"
  · exact .inr (.inr (.inr (.inl c4)))
  by_cases c5 : k = "ticket"
  · exact .inr (.inr (.inr (.inr (.inl c5))))
  rw [if_neg c1, if_neg c2, if_neg c3, if_neg c4, if_neg c5] at h
  cases h
section
variable {P : Program} {w : World} {K : PySem.W.Frag} {mg : Str → Option Value} {base : Heap} {f : Addr} {fd : FuncData} {C : Addr}
abbrev s__is_term : Stmt := top 20
theorem sc__is_term : FnScope ["kind", "term", "forms", "part", "form"] ["kind", "term"] (C8.fnScope s__is_term) := C8.fnScope_by (by decide +kernel)
theorem ok__is_term (F : C8.Def K mg "_is_term" s__is_term f fd) (b : Binds K fd ["kind", "term"] []) (T : Txt K mg w C) (c_is_word : C8.Cal P w K mg base 3 "is_word" (spB C Fit (okW 40 40 0)) []) (c__has_form : C8.Cal P w K mg base 1 "_has_form" (spHasF C) []) : C8.Cal P w K mg base 4 "_is_term" (spTerm C) [] := by
  refine C8.cal0 F b .nil sc__is_term (fun vs H Q E h => ?_) (fun cdv A outer s H vs Q E hr h => ?_)
  · obtain ⟨xk, xt, dk, dt, rfl, _⟩ := h; rfl
  obtain ⟨xk, xt, dk, dt, rfl, hk, ht, hok, hz, q⟩ := h
  obtain ⟨Fo, gF, ⟨es, n, KD⟩, hf⟩ := forms_at T
  refine ⟨_, (pss_cons (ps_if (PW.pt (pw_or (pt_cmpR (op_isNotTyA (C := C)) (pe_callTy (call_typeA (C := C)) rfl T.z_type bt_type (pa_cons (pv 0) pa_nil)) (pe_bltn (v := .ty "str") rfl T.z_str bt_str rfl) (nomark _)) (pw_or (pt_cmpR (op_notIn_kd KD) (pv 0) (C8.pe_gc rfl gF) (by with_unfolding_all rfl)) (pw_or1 (pt_cmpR (op_isNotTyA (C := C)) (pe_callTy (call_typeA (C := C)) rfl T.z_type bt_type (pa_cons (pv 1) pa_nil)) (pe_bltn (v := .ty "tuple") rfl T.z_tuple bt_tuple rfl) (nomark _)))))) (pss_one (ps_ret pe_bl)) pss_nil)
      (pss_cons (ps_set (i := 2) sc__is_term.nd rfl (Or.inl rfl) (pe_ix ix_kdict (C8.pe_gc rfl gF) (pv 0) (fun _ _ => rfl)))
      (pss_cons (ps_if (pt_cmpR op_ne (pe_callB call_lenS rfl T.z_len bt_len (pa_cons (pv 1) pa_nil)) (pe_callB call_lenS rfl T.z_len bt_len (pa_cons (pv 2) pa_nil)) (nomark _)) (pss_one (ps_ret pe_bl)) pss_nil)
      (pss_one (ps_ret (pe_callB (cr_all rfl) rfl T.z_all bt_all (pa_cons (pe_lc (own := [("part", 3), ("form", 4)]) (g := gTup K 2 (gCons (gName 3) (gCons (gName 4) gNil))) rfl sc__is_term.nd (RZ.pi_zipA rfl T.z_zip (pa_cons (pv 1) (pa_cons (pv 2) pa_nil))) (blkOk_by (own := [("part", 3), ("form", 4)]) (N := ["kind", "term", "forms", "part", "form"]) (sc := C8.fnScope s__is_term) (by decide +kernel)) (fun _ _ _ _ _ => (pg_tup rfl (pgs_cons (pg_name (i := 3) sc__is_term.nd rfl (Or.inl rfl)) (pgs_cons (pg_name (i := 4) sc__is_term.nd rfl (Or.inl rfl)) pgs_nil)))) (fun _ _ _ _ _ => pts_nil) (fun _ _ _ _ _ => (pe_and (C8.pe_c c_is_word hr (by first | decide | omega) rfl (pa_cons (pv 3) pa_nil)) (pe_one (C8.pe_c c__has_form hr (by first | decide | omega) rfl (pa_cons (pv 3) (pa_cons (pv 4) pa_nil))))))) pa_nil))))))), ?_⟩
  refine ⟨_, rfl, xk, dk, rfl, hk, kyV_ok dk, .inl ⟨_, rfl⟩, _, rfl, ?_⟩
  by_cases c1 : kyV C dk = .ty "str"
  · obtain ⟨k, rfl⟩ := kyV_str.mp c1
    rw [decide_eq_true c1]
    cases hk
    rcases hf k hok with ⟨tf, fs, e1, kd, kt⟩ | ⟨e1, kn⟩
    · obtain ⟨es', n', u, kl, kk, kn, ru⟩ := id kd
      refine iteF ⟨_, rfl, k, some u, rfl, rfl, kn, _, rfl, iteF ?_⟩
      refine ⟨_, rfl, xt, dt, rfl, ht, kyV_ok dt, .inl ⟨_, rfl⟩, _, rfl, ?_⟩
      by_cases c2 : kyV C dt = .ty "tuple"
      · obtain ⟨ds, rfl⟩ := kyV_tup.mp c2
        rw [decide_eq_true c2]
        cases ht with
        | @tup ta xs _ hta hxs =>
          have hl := hxs.len
          refine iteF ⟨_, rfl, Fo, k, _, rfl, rfl, kd, ?_⟩
          refine ⟨_, rfl, ta, xs, rfl, .inr (SqT.of hta), _, rfl, tf, _, rfl, .inr (kt H), rfl, _, rfl, ?_⟩
          have eT : isTermD (.str k) (.tup ds) = (decide (ds.length = fs.length) && (ds.zip fs).all fun p => partOk p.1 p.2) := by
            simp only [isTermD, isTermK, e1]
          rw [eT] at q
          by_cases c3 : ds.length = fs.length
          · refine bF (by rw [hl, List.length_map, c3]; simp) ?_
            rw [decide_eq_true c3, Bool.true_and] at q
            refine ⟨_, rfl, _, rfl, ta, tf, xs, fs.map V.str, rfl, .inr ⟨SqT.of hta, kt H, fun Dl hD => ?_⟩⟩
            have hmin : ds.length = min xs.length (fs.map V.str).length := by rw [hl, List.length_map]; omega
            refine lc_it (walk_zipT (K := K) (a := ta) (b := tf) (xs := xs) (ys := fs.map V.str) hmin) (fun i H3 => Same H H3 ∧ H3 Dl = some (.lst (((ds.zip fs).take i).map fun p => V.bl (partOk p.1 p.2)))) ⟨same_new hD, upd_same⟩ (fun i H3 _ h => ⟨SqT.of (h.1 _ _ hta), kt H3⟩) ?_ ?_
            · rintro i v H3 H4 hi ⟨s3, hz3⟩ ⟨t, x, y, rfl, nt, rfl, ex, ey⟩
              have ex : xs[i]? = some x := ex
              obtain ⟨d, hd, hx⟩ := hxs.at ex
              obtain ⟨z, hz2, rfl⟩ : ∃ z, fs[i]? = some z ∧ y = V.str z := by
                have ey : (fs.map V.str)[i]? = some y := ey
                rw [List.getElem?_map] at ey
                cases h : fs[i]? with
                | none => rw [h] at ey; cases ey
                | some z => rw [h] at ey; exact ⟨z, rfl, (Option.some.inj ey).symm⟩
              have s4 := same_new (o := .tup [x, .str z]) nt
              refine ⟨t, [x, .str z], rfl, SqT.of upd_same, rfl, x, [.str z], rfl, .str z, [], rfl, rfl, rfl, yes ?_⟩
              refine ⟨_, rfl, x, d, rfl, hx.same (s3.trans s4), hz.part (List.mem_of_getElem? hd), fun H5 s5 => ⟨_, rfl, ?_⟩⟩
              have hpz : (ds.zip fs)[i]? = some (d, z) := by rw [List.getElem?_zip_eq_some]; exact ⟨hd, hz2⟩
              have s35 := (s3.trans s4).trans s5
              have hz5 := s5 _ _ (s4 _ _ hz3)
              have fin : ∀ r, r = partOk d z → ∃ acc, H5 Dl = some (.lst acc) ∧ acc.length < sizeLine ∧ Same H (upd H5 Dl (.lst (acc ++ [.bl r]))) ∧ (upd H5 Dl (.lst (acc ++ [.bl r]))) Dl = some (.lst (((ds.zip fs).take (i + 1)).map fun p => V.bl (partOk p.1 p.2))) := fun r er => by
                subst er
                refine ⟨_, hz5, Nat.lt_of_lt_of_le (show _ < 1000001 by rw [List.length_map, List.length_take]; have := hz.1; have := len_szL ds; simp only [sz] at *; omega) (by decide), same_put s35 hD, ?_⟩
                rw [upd_same, List.take_add_one, hpz, List.map_append]; rfl
              cases ho : okW 40 40 0 d with
              | true => exact iteT ⟨_, rfl, _, rfl, x, d, z, rfl, hx.same s35, fin _ (by simp [partOk, ho])⟩
              | false => exact iteF (fin _ (by simp [partOk, ho]))
            · rintro H3 ⟨s3, hz3⟩
              have hzl : (ds.zip fs).length = ds.length := by rw [List.length_zip]; omega
              rw [List.take_of_length_le (by omega)] at hz3
              refine ⟨Dl, (ds.zip fs).map fun p => partOk p.1 p.2, rfl, SqL.of (by rw [List.map_map]; exact hz3), ?_⟩
              have e9 : ((ds.zip fs).map fun p => partOk p.1 p.2).all id = (ds.zip fs).all fun p => partOk p.1 p.2 := by rw [List.all_map]; rfl
              rw [e9]
              exact q H3 s3
          · refine bT (by rw [hl, List.length_map, decide_eq_false (fun z => c3 (by have := V.int.inj z; omega))]; rfl) ?_
            rw [decide_eq_false c3, Bool.false_and] at q
            exact q H (Same.refl H)
      · rw [decide_eq_false c2]
        have e : isTermD (.str k) dt = false := by cases dt <;> first | rfl | exact absurd rfl c2
        rw [e] at q
        exact iteT (q H (Same.refl H))
    · refine iteF ⟨_, rfl, k, none, rfl, rfl, kn, _, rfl, iteT ?_⟩
      have e : isTermD (.str k) dt = false := by cases dt <;> simp [isTermD, isTermK, e1]
      rw [e] at q
      exact q H (Same.refl H)
  · rw [decide_eq_false c1]
    have e : isTermD dk dt = false := by cases dk <;> first | rfl | exact absurd rfl c1
    rw [e] at q
    exact iteT (q H (Same.refl H))
abbrev s_Atom___init__ : Stmt := L2.inClass (top 16) 0
theorem sc_Atom___init__ : FnScope ["self", "kind", "term", "rank"] ["self", "kind", "term"] (C8.fnScope s_Atom___init__) := C8.fnScope_by (by decide +kernel)
theorem ok_init {fI : Addr} {fdI : FuncData} (M : Mk K C fI) (hm : mg "Atom" = some (.ref C)) (F : C8.Fun K "__init__" "Atom.__init__" s_Atom___init__ fI fdI) (b : Binds K fdI ["self", "kind", "term"] []) (T : Txt K mg w C)
    (c__is_term : C8.Cal P w K mg base 4 "_is_term" (spTerm C) []) (c__rank_of_atom : C8.Cal P w K mg base 3 "_rank_of_atom" (spRk C) []) (c__most_rank : C8.Cal P w K mg base 1 "_most_rank" spMost []) : C8.Mak P w K mg base 5 "Atom" C (spInit C) [] := by
  refine C8.mak0 M hm F b .nil sc_Atom___init__ (fun vs H Q E h => ?_) (fun cdv A outer s H vs Q E hr h => ?_)
  · obtain ⟨p, dx, k, t, ds, rfl, _⟩ := h; rfl
  obtain ⟨p, dx, k, t, ds, rfl, hp, hx, ht, hrk, hz, q⟩ := h
  refine ⟨_, (pss_cons (ps_if (pt_not (pt_val (C8.pe_c c__is_term hr (by first | decide | omega) rfl (pa_cons (pv 1) (pa_cons (pv 2) pa_nil))))) (pss_one ps_never) pss_nil)
      (pss_cons (ps_set (i := 3) sc_Atom___init__.nd rfl (Or.inl rfl) (C8.pe_c c__rank_of_atom hr (by first | decide | omega) rfl (pa_cons (pv 1) (pa_cons (pv 2) pa_nil))))
      (pss_cons (ps_if (pt_cmpR op_gt (pv 3) (C8.pe_c c__most_rank hr (by first | decide | omega) rfl (pa_cons (pv 1) pa_nil)) (nomark _)) (pss_one ps_never) pss_nil)
      (pss_cons (ps_fld (pv 0) (pv 1) rfl)
      (pss_cons (ps_fld (pv 0) (pv 2) rfl)
      (pss_cons (ps_fld (pv 0) (pv 3) rfl)
      (pss_one (ps_fld (pv 0) pe_non rfl)))))))), ?_⟩
  refine ⟨_, rfl, _, rfl, _, _, .str k, .tup ds, rfl, .str k, hx, term_kind ht, hz, fun H1 s1 => ⟨_, rfl, ?_⟩⟩
  refine bF (by simp only [isTermD, ht]; rfl) ?_
  refine ⟨_, rfl, _, rfl, k, t, ds, rfl, hx.same s1, hz, fun H2 s2 => ?_⟩
  refine ⟨_, rfl, _, rfl, k, rfl, _, _, rfl, rfl, _, rfl, ?_⟩
  refine ifF (by omega) ?_
  have hp2 := s2 _ _ (s1 _ _ hp)
  refine ⟨_, rfl, _, rfl, p, C, dx, [], rfl, hp2, T.cl.cl, T.cl.nK, (by show 0 < 1000; decide), ?_⟩
  refine ⟨_, rfl, _, rfl, p, C, dx, _, rfl, upd_same, T.cl.cl, T.cl.nT, (by show 1 < 1000; decide), ?_⟩
  refine ⟨_, rfl, _, rfl, p, C, dx, _, rfl, upd_same, T.cl.cl, T.cl.nR, (by show 2 < 1000; decide), ?_⟩
  refine ⟨_, rfl, p, C, dx, _, rfl, upd_same, T.cl.cl, T.cl.nS, (by show 3 < 1000; decide), ?_⟩
  refine q _ (Eq.trans upd_same (congrArg (fun l => some (HO.ins C dx l)) (put_at k t _))) fun c o e n => ?_
  rw [upd_ne n, upd_ne n, upd_ne n, upd_ne n]
  exact s2 _ _ (s1 _ _ e)
end
end Hc

/-! == and != of an instance with an own == and something of another kind. -/
namespace Hr
open PySem PySem.Spec PyProof.Rows PySem.SeqAt
/-- what is asked of the class at C beside its own == -/
structure Oth (K : PySem.W.Frag) (C : Addr) : Prop where
  mo : PySem.W.mroIn K C (.type "object") = some true
  nn : PySem.W.findIn K (.ref C) "__ne__" = some (some (.builtin "object.__ne__"))
  sN : PySem.W.subIn K (.ref C) (.type "NoneType") = some false
  sI : PySem.W.subIn K (.ref C) (.type "int") = some false
  sS : PySem.W.subIn K (.ref C) (.type "str") = some false
  sT : PySem.W.subIn K (.ref C) (.type "tuple") = some false
theorem sub_bi {K : PySem.W.Frag} {C : Addr} {n : String} (h : n = "NoneType" ∨ n = "int" ∨ n = "str" ∨ n = "tuple") : PySem.W.subIn K (.type n) (.ref C) = some false := by
  rcases h with rfl | rfl | rfl | rfl
  · have e : fastBuiltinMro "NoneType" = some [.type "NoneType", .type "object"] := by decide +kernel
    show (fastBuiltinMro "NoneType").map (·.contains (.ref C)) = some false
    rw [e]; first | rfl | simp
  · have e : fastBuiltinMro "int" = some [.type "int", .type "object"] := by decide +kernel
    show (fastBuiltinMro "int").map (·.contains (.ref C)) = some false
    rw [e]; first | rfl | simp
  · have e : fastBuiltinMro "str" = some [.type "str", .type "object"] := by decide +kernel
    show (fastBuiltinMro "str").map (·.contains (.ref C)) = some false
    rw [e]; first | rfl | simp
  · have e : fastBuiltinMro "tuple" = some [.type "tuple", .type "object"] := by decide +kernel
    show (fastBuiltinMro "tuple").map (·.contains (.ref C)) = some false
    rw [e]; first | rfl | simp
section
variable {prog : Program} {w : World} {A : Around} {E : Value → Shared → Prop} {s : Shared} {K : PySem.W.Frag} {x C : Addr} {ox : Obj} {od : Option Obj} {b : Value}
theorem ne_entry {M : Model} {Q : Fin → Shared → Prop} (hu : A.units < cLine) (h : wpAny M A (callSpecialIfBound? (.ref x) (Str.ofString "__eq__") [b]) (fun r s' => ∃ v, r = some (.bool v) ∧ Q (.done (.ret (.bool (!v)))) s') E s) :
    wpAny M A (Builtin.«object.__ne__» ⟨[.ref x, b], []⟩) Q E s := by
  unfold Builtin.«object.__ne__»
  repeat (first
    | with_reducible refine wpAny_cRoomFor hu ?_
    | (refine wpAny_bind (m := callSpecialIfBound? (.ref x) (Str.ofString "__eq__") [b]) (wpAny_mono h (fun r s' hr => by
          obtain ⟨v, rfl, hq⟩ := hr
          repeat (first | exact hq | exact wpAny_pure hq | exact wpAny_truthy_bool hq | (refine wpAny_bind (m := truthy (.bool _)) (wpAny_truthy_bool ?_)) | wp_step)) fun _ _ e => e))
    | wp_step)
theorem ifBound_objNe {M : Model} {args : List Value} {Q : Option Value → Shared → Prop} (X : K.In s.heap) (I : PySem.W.InstAt s.heap x ox C od) (hs : PySem.W.findIn K (.ref C) "__ne__" = some (some (.builtin "object.__ne__")))
    (h : wpAny M A (call (.builtin "object.__ne__") (.ref x :: args)) (fun v => Q (some v)) E s) : wpAny M A (callSpecialIfBound? (.ref x) "__ne__" args) Q E s := by
  simp only [callSpecialIfBound?, bindSpecialIfBound?]
  refine wpAny_holding (wpAny_bind (wpAny_bind (wpAny_bind (I.type.here ((PySem.W.looks_findIn X hs).here ?_)))))
  refine wpAny_bind (wpAny_askSetting (wpAny_ite ?_))
  have last : wpAny M A (call (.builtin "object.__ne__") ([.ref x] ++ args) >>= fun v => pure (some v)) Q E s := wpAny_bind (wpAny_mono h (fun v s' g => wpAny_pure g) fun _ _ g => g)
  split
  · exact wpAny_bind (wpAny_of_eq (F.cmp_object.ne.bind _) (wpAny_pure (by exact last)))
  · exact wpAny_tryCatch (wpAny_bind (wpAny_of_eq (F.cmp_object.ne.bind _) (wpAny_pure (by exact last))))
/-- the own == is asked of the instance at x, it says v -/
def Own (prog : Program) (w : World) (A : Around) (E : Value → Shared → Prop) (x : Addr) (b : Value) (v : Bool) (J : Shared → Prop) (s : Shared) : Prop :=
  wpAny (model prog w) A (callSpecialIfBound? (.ref x) (Str.ofString "__eq__") [b]) (fun r s' => r = some (.bool v) ∧ J s') E s
theorem call_objNe {v : Bool} {J : Shared → Prop} {Q : Value → Shared → Prop} (hu : A.units < cLine) (X : K.In s.heap) (I : PySem.W.InstAt s.heap x ox C od) (hm : PySem.W.mroIn K C (.type "object") = some true)
    (h : Own prog w A.in1 E x b v J s) (q : ∀ s', J s' → Q (.bool (!v)) s') (hu1 : A.in1.units < cLine) : wpAny (model prog w) A (call (.builtin "object.__ne__") [.ref x, b]) Q E s :=
  wpAny_call (codeAny_call_builtin F.cmp_object.ne.plain F.cmpEntry_ne (PySem.W.check_slot F.cmpKind_ne F.cmpSplit_ne (I.type.andThen (PySem.W.looks_mroIn X hm)) (F.cmpArgs_ne _ _)
    (ne_entry hu1 (wpAny_mono h (fun r s' z => ⟨v, z.1, q s' z.2⟩) fun _ _ z => z))))
theorem try_eq {v : Bool} {J : Shared → Prop} (h : Own prog w A E x b v J s) : wpAny (model prog w) A (tryCompare (.ref x) "__eq__" b) (fun r s' => r = some (.bool v) ∧ J s') E s := by
  unfold tryCompare
  refine wpAny_bind (wpAny_mono h (fun r s' z => ?_) fun _ _ z => z)
  obtain ⟨rfl, j⟩ := z
  exact wpAny_pure ⟨rfl, j⟩
theorem try_ne {v : Bool} {J : Shared → Prop} (hu : A.units < cLine) (hu1 : A.in1.units < cLine) (X : K.In s.heap) (I : PySem.W.InstAt s.heap x ox C od) (o : Oth K C)
    (h : Own prog w A.in1 E x b v J s) : wpAny (model prog w) A (tryCompare (.ref x) "__ne__" b) (fun r s' => r = some (.bool (!v)) ∧ J s') E s := by
  unfold tryCompare
  refine wpAny_bind (ifBound_objNe X I o.nn (call_objNe hu X I o.mo h (fun s' j => ?_) hu1))
  exact wpAny_pure ⟨rfl, j⟩
/-- instance == something of a built-in type -/
theorem rc_left {T : String} {op : CmpOp} {v : Bool} {J : Shared → Prop} {Q : Value → Shared → Prop} (hu : A.units < cLine) (X : K.In s.heap) (I : PySem.W.InstAt s.heap x ox C od) (hb : s.TypeIs b T) (hT : T = "NoneType" ∨ T = "int" ∨ T = "str" ∨ T = "tuple")
    (h : wpAny (model prog w) A (tryCompare (.ref x) (cmpInfo op).2.1 b) (fun r s' => r = some (.bool v) ∧ J s') E s) (q : ∀ s', J s' → Q (.bool v) s') : wpAny (model prog w) A (richCompare op (.ref x) b) Q E s := by
  unfold richCompare
  simp only [oneThing_ref]
  refine wpAny_holding (wpAny_bind (wpAny_cRoomFor hu ?_))
  refine wpAny_bind (I.type.here (wpAny_bind (wpAny_typeOf hb ?_)))
  split
  · refine wpAny_bind ((PySem.W.looks_subIn X (sub_bi hT)).here ?_)
    simp only [Bool.false_eq_true, if_false]
    refine wpAny_bind (wpAny_mono h (fun r s' z => ?_) fun _ _ z => z)
    obtain ⟨rfl, j⟩ := z
    exact wpAny_pure (q s' j)
  · rename_i z
    exact absurd (by simp) z
/-- something of a built-in type == instance: the built-in one declines -/
theorem rc_right {T id : String} {op : CmpOp} {v : Bool} {J : Shared → Prop} {Q : Value → Shared → Prop} (hu : A.units < cLine) (X : K.In s.heap) (I : PySem.W.InstAt s.heap x ox C od) (hb : s.TypeIs b T)
    (hsub : PySem.W.subIn K (.ref C) (.type T) = some false) (hone : oneThing? op b (.ref x) = none) (sl : Slot T (cmpInfo op).2.1 id)
    (dec : wpAny (model prog w) A (call (.builtin id) [b, .ref x]) (fun v s' => v = .notImplemented ∧ s' = s) E s)
    (h : wpAny (model prog w) A (tryCompare (.ref x) (cmpInfo op).2.2 b) (fun r s' => r = some (.bool v) ∧ J s') E s) (q : ∀ s', J s' → Q (.bool v) s') : wpAny (model prog w) A (richCompare op b (.ref x)) Q E s := by
  have two : wpAny (model prog w) A (tryCompare b (cmpInfo op).2.1 (.ref x)) (fun r s' => r = none ∧ s' = s) E s :=
    wpAny_tryCompare_declines hb sl (wpAny_mono dec (fun v s' z => ⟨z.1, rfl, z.2⟩) fun _ _ z => z)
  unfold richCompare
  simp only [hone]
  refine wpAny_holding (wpAny_bind (wpAny_cRoomFor hu ?_))
  refine wpAny_bind (wpAny_typeOf hb (wpAny_bind (I.type.here ?_)))
  split
  · refine wpAny_bind ((PySem.W.looks_subIn X hsub).here ?_)
    simp only [Bool.false_eq_true, if_false, Bool.not_false, if_true]
    refine wpAny_bind (m := tryCompare b _ (.ref x)) (wpAny_mono two (fun r s1 z => ?_) fun _ _ z => z)
    obtain ⟨z1, z2⟩ := z
    subst z1
    subst z2
    refine wpAny_bind (m := tryCompare (.ref x) _ b) (wpAny_mono h (fun r s2 z => ?_) fun _ _ z => z)
    obtain ⟨rfl, j⟩ := z
    exact wpAny_pure (q s2 j)
  · rename_i z
    exact absurd (by simp) z
end
end Hr

namespace Hr
open PySem PySem.Spec PyProof.Rows PySem.SeqAt
open AutoSeq1 (wpAny_loadPart')
open MeetsSeq MeetsSeq2 MeetsSeq3 SeqRoads2
theorem int_eq_inst (b : Int) (u : Tok) (l C : Addr) (dx : Addr) : Meets (Builtin.«int.__eq__» ⟨[.int b u, .ref l], []⟩) (fun _ R s => s.heap.get? l = some { cls := .ref C, dict := some dx, data := .plain } ∧ R (.ok (.ret .notImplemented)) s) :=
  .of_wp fun prog w A R s h => by
    obtain ⟨hp, g, d, tk, os⟩ := s; obtain ⟨hl, h⟩ := h
    wp_walk using wpAny_loadPart' hl, wpAny_load hl
    exact ⟨_, rfl, h⟩
theorem int_ne_inst (b : Int) (u : Tok) (l C : Addr) (dx : Addr) : Meets (Builtin.«int.__ne__» ⟨[.int b u, .ref l], []⟩) (fun _ R s => s.heap.get? l = some { cls := .ref C, dict := some dx, data := .plain } ∧ R (.ok (.ret .notImplemented)) s) :=
  .of_wp fun prog w A R s h => by
    obtain ⟨hp, g, d, tk, os⟩ := s; obtain ⟨hl, h⟩ := h
    wp_walk using wpAny_loadPart' hl, wpAny_load hl
    exact ⟨_, rfl, h⟩
theorem str_eq_inst (b : Str) (u : Tok) (l C : Addr) (dx : Addr) : Meets (Builtin.«str.__eq__» ⟨[.str b u, .ref l], []⟩) (fun _ R s => s.heap.get? l = some { cls := .ref C, dict := some dx, data := .plain } ∧ R (.ok (.ret .notImplemented)) s) :=
  .of_wp fun prog w A R s h => by
    obtain ⟨hp, g, d, tk, os⟩ := s; obtain ⟨hl, h⟩ := h
    wp_walk using wpAny_loadPart' hl, wpAny_load hl
    exact ⟨_, rfl, h⟩
theorem str_ne_inst (b : Str) (u : Tok) (l C : Addr) (dx : Addr) : Meets (Builtin.«str.__ne__» ⟨[.str b u, .ref l], []⟩) (fun _ R s => s.heap.get? l = some { cls := .ref C, dict := some dx, data := .plain } ∧ R (.ok (.ret .notImplemented)) s) :=
  .of_wp fun prog w A R s h => by
    obtain ⟨hp, g, d, tk, os⟩ := s; obtain ⟨hl, h⟩ := h
    wp_walk using wpAny_loadPart' hl, wpAny_load hl
    exact ⟨_, rfl, h⟩
section
variable {prog : Program} {w : World} {A : Around} {E : Value → Shared → Prop} {s : Shared} {R : Result → Shared → Prop}
theorem tup_eq_inst {l x C dx : Addr} {items : Array Value} {n : Nat} {dd : Option Addr} {sl : Array (Option Value)} (hI : PySem.W.Looks (model prog w) s.heap (isSubtype (.ref C) (.type "tuple")) false) (hx : s.heap.get? x = some { cls := .ref C, dict := some dx, data := .plain })
    (hl : s.heap.get? l = some { cls := .type "tuple", dict := dd, data := .seq items n, slots := sl }) (h : R (.ok (.ret .notImplemented)) s) : wpAny (model prog w) A.in1 (Builtin.«tuple.__eq__» ⟨[.ref l, .ref x], []⟩) (GQ.FinOf prog w A R) (fun e s' => R (.error e) s') s := by
  obtain ⟨hp, g, d, tk, os⟩ := s
  wp_walk using wpAny_loadPart' hl, wpAny_loadPart' hx, hI.here
  exact h
theorem tup_ne_inst {l x C dx : Addr} {items : Array Value} {n : Nat} {dd : Option Addr} {sl : Array (Option Value)} (hI : PySem.W.Looks (model prog w) s.heap (isSubtype (.ref C) (.type "tuple")) false) (hx : s.heap.get? x = some { cls := .ref C, dict := some dx, data := .plain })
    (hl : s.heap.get? l = some { cls := .type "tuple", dict := dd, data := .seq items n, slots := sl }) (h : R (.ok (.ret .notImplemented)) s) : wpAny (model prog w) A.in1 (Builtin.«tuple.__ne__» ⟨[.ref l, .ref x], []⟩) (GQ.FinOf prog w A R) (fun e s' => R (.error e) s') s := by
  obtain ⟨hp, g, d, tk, os⟩ := s
  wp_walk using wpAny_loadPart' hl, wpAny_loadPart' hx, hI.here
  exact h
end
end Hr

/-! == of tuples whose items' == may run code, and may give False. -/
namespace Hr
open PySem PySem.Spec PyProof.Rows PySem.SeqAt
open AutoSeq1 (wpAny_loadPart')
open MeetsSeq MeetsSeq2 MeetsSeq3 SeqRoads2
section
variable {prog : Program} {w : World} {A : Around} {R : Result → Shared → Prop}
/-- all the pairs are equal, and there are as many -/
def allP (bs : Nat → Bool) (m n : Nat) : Bool := (List.range (min m n)).all bs && (m == n)
theorem allP_no {bs : Nat → Bool} {m n i : Nat} (hi : i < min m n) (h : bs i = false) : allP bs m n = false := by
  unfold allP
  have : (List.range (min m n)).all bs = false := by
    rw [List.all_eq_false]
    exact ⟨i, List.mem_range.mpr hi, by rw [h]; exact Bool.false_ne_true⟩
  rw [this]; rfl
theorem allP_yes {bs : Nat → Bool} {m n : Nat} (h : ∀ j, j < min m n → bs j = true) : allP bs m n = (m == n) := by
  unfold allP
  rw [List.all_eq_true.mpr fun j hj => h j (List.mem_range.mp hj)]; rfl
theorem tup_eqB {l b : Addr} {items items2 : Array Value} {n n2 : Nat} {dd dd2 : Option Addr} {sl sl2 : Array (Option Value)} {bs : Nat → Bool} {J : Shared → Prop}
    (turn : ∀ i (h1 : i < items.size) (h2 : i < items2.size) s, J s → wpAny (model prog w) A.in1 (eqBool items[i] items2[i]) (fun r s' => r = bs i ∧ J s') (fun e s' => R (.error e) s') s)
    (fin : ∀ s, J s → R (.ok (.ret (.bool (allP bs items.size items2.size)))) s) {s : Shared} (hl1 : s.heap.get? l = some { cls := .type "tuple", dict := dd, data := .seq items n, slots := sl }) (hb1 : s.heap.get? b = some { cls := .type "tuple", dict := dd2, data := .seq items2 n2, slots := sl2 }) (h : J s) :
    wpAny (model prog w) A.in1 (Builtin.«tuple.__eq__» ⟨[.ref l, .ref b], []⟩) (GQ.FinOf prog w A R) (fun e s' => R (.error e) s') s := by
  have f2 := AutoSeq1.sub_tuple_tuple
  have hZ : (items.toList.zip items2.toList).length = min items.size items2.size := by simp
  have h0 := h
  obtain ⟨hp, g, d, tk, os⟩ := s
  wp_walk using wpAny_loadPart' hl1, wpAny_loadPart' hb1, wpAny_forIn_list _ (fun rest b s' => b.1 = none ∧ ∃ i, rest = (items.toList.zip items2.toList).drop i ∧ i ≤ min items.size items2.size ∧ (∀ j, j < i → bs j = true) ∧ J s') _
  case turn =>
    rintro ⟨y, x⟩ rest b s' ⟨hb', i, hz, hi, hbs, hI⟩
    have hlt : i < (items.toList.zip items2.toList).length := by
      rcases Nat.lt_or_ge i (items.toList.zip items2.toList).length with h' | h'
      · exact h'
      · rw [List.drop_of_length_le h'] at hz; cases hz
    have hm : i < min items.size items2.size := hZ ▸ hlt
    have h1 : i < items.size := Nat.lt_of_lt_of_le hm (Nat.min_le_left _ _)
    have h2 : i < items2.size := Nat.lt_of_lt_of_le hm (Nat.min_le_right _ _)
    rw [List.drop_eq_getElem_cons hlt] at hz
    injection hz with hyx hrest
    have hy : y = items[i] := by have := congrArg Prod.fst hyx; simpa using this
    have hx : x = items2[i] := by have := congrArg Prod.snd hyx; simpa using this
    subst hy hx
    refine wpAny_bind (wpAny_mono (turn i h1 h2 s' hI) (fun r s2 q2 => ?_) fun _ _ x => x)
    obtain ⟨hr, q2⟩ := q2
    subst hr
    cases hbi : bs i with
    | true =>
      wp_walk
      exact ⟨rfl, i + 1, hrest, hm, fun j hj => by
        rcases Nat.lt_succ_iff_lt_or_eq.mp hj with h | rfl
        · exact hbs j h
        · exact hbi, q2⟩
    | false =>
      have hR := fin s2 q2
      rw [allP_no hm hbi] at hR
      wp_walk
      exact hR
  case fin =>
    rintro ⟨b1, b2⟩ s' ⟨hb', i, hz, hi, hbs, hI⟩
    simp only at hb'
    subst hb'
    have hge : min items.size items2.size ≤ i := by
      rcases Nat.lt_or_ge i (items.toList.zip items2.toList).length with h' | h'
      · rw [List.drop_eq_getElem_cons h'] at hz; cases hz
      · exact hZ ▸ h'
    have hR := fin s' hI
    rw [allP_yes fun j hj => hbs j (by omega)] at hR
    wp_walk
    simpa [Builtin.Tuple.tupleCompareSizes] using hR
  case h =>
    exact ⟨rfl, 0, rfl, Nat.zero_le _, fun j hj => absurd hj (Nat.not_lt_zero _), h0⟩
end
end Hr

namespace Hc
open PySem PySem.Spec PyProof.Rows L2 Hr PySem.SeqAt
mutual
def eqD : D → D → Bool
  | .tup a, .tup b => eqL a b
  | .atom k a, .atom k' b => decide (k = k') && eqL a b
  | .non, .non => true
  | .int i, .int j => decide (i = j)
  | .str x, .str y => decide (x = y)
  | _, _ => false
def eqL : List D → List D → Bool
  | [], [] => true
  | x :: a, y :: b => eqD x y && eqL a b
  | _, _ => false
end
mutual
/-- a word, whatever its depth -/
def wrd : D → Bool
  | .tup ds => wrdL ds
  | .atom k ds => wrdL ds && isTermK k ds
  | .non => true
  | .int _ => true
  | .str _ => true
  | _ => false
def wrdL : List D → Bool
  | [] => true
  | d :: ds => wrd d && wrdL ds
end
theorem eqL_app : ∀ {a b x y : List D}, a.length = b.length → eqL (a ++ x) (b ++ y) = (eqL a b && eqL x y)
  | [], [], x, y, _ => by simp [eqL]
  | p :: a, q :: b, x, y, h => by
    rw [List.cons_append, List.cons_append]
    simp only [eqL]
    rw [eqL_app (by simpa using h), Bool.and_assoc]
  | [], _ :: _, _, _, h => by simp at h
  | _ :: _, [], _, _, h => by simp at h
theorem eqL_len : ∀ {a b : List D}, a.length ≠ b.length → eqL a b = false
  | [], [], h => absurd rfl h
  | p :: a, q :: b, h => by
    simp only [eqL]
    rw [eqL_len (fun z => h (by simp [z])), Bool.and_false]
  | [], _ :: _, _ => rfl
  | _ :: _, [], _ => rfl
theorem wrdL_app : ∀ (a b : List D), wrdL (a ++ b) = (wrdL a && wrdL b)
  | [], b => by simp [wrdL]
  | x :: a, b => by rw [List.cons_append]; simp only [wrdL]; rw [wrdL_app a b, Bool.and_assoc]
def isAt : D → Bool | .atom _ _ => true | _ => false
def isTu : D → Bool | .tup _ => true | _ => false
/-- what the loop keeps -/
def LoopS (X : Cx) (pins : List (Addr × Obj)) (σ : L2.St) (H : Hp) (s' : Shared) : Prop := ∃ H', Inv X pins σ H' s' ∧ Same H H'
/-- an atom == something that is none -/
def spEqN (C : Addr) : Sp := fun vs H Q _ => ∃ x y d e, vs = [x, y] ∧ Is C H x d ∧ Is C H y e ∧ isAt d = true ∧ isAt e = false ∧ ∀ H', Same H H' → Q (.bl false) H'
structure OwnS (P : Program) (w : World) (K : PySem.W.Frag) (mg : Str → Option Value) (base : Heap) (n : Nat) (C : Addr) (sp : Sp) : Prop where
  ex : ∃ (f : Addr) (fd : FuncData) (ps : List Str), FnOk P w K mg base C8.CX0 n f fd ps sp ∧ PySem.W.findIn K (.ref C) "__eq__" = some (some (.ref f)) ∧ PySem.W.isFn K (.ref f) = true ∧ Binds K fd ps []
section
variable {X : Cx} {n : Nat} {C : Addr} {sp : Sp}
theorem own_run (O : OwnS X.prog X.w X.K X.mg X.base n C sp) {A : Around} {pins : List (Addr × Obj)} {s : Shared} {σ : L2.St} {H : Hp} {a dx : Addr} {fs : List (Str × V)} {y : V} {v : Value} {r : Bool} (sb : Sub X n A) (I : Inv X pins σ H s) (ha : H a = some (.ins C dx fs)) (ry : RelV y v)
    (hsp : sp [.ref a, y] H (fun z H' => z = .bl r ∧ Same H H') C8.E0) : Own X.prog X.w A X.xe a v r (LoopS X pins σ H) s := by
  obtain ⟨f, fd, ps, F, hs, hf, hb⟩ := O.ex
  obtain ⟨mA, J, _⟩ := ins_get I.hok ha
  obtain ⟨od, J, _⟩ := J.look
  have e0 : Env0 X.prog X.w X.K X.mg X.base A X.stack s H := by
    have e := I.env0
    exact ⟨by rw [sb.fr]; exact e.frames, e.mod, e.bs, e.bsz, e.funs, e.frf, e.hok, e.bare⟩
  have hl := F.len _ _ _ _ hsp
  have r2 : Vals [V.ref a, y] [Value.ref a, v] := .cons rfl (.cons ry .nil)
  refine PySem.W.ifBound_K I.kIn J hs hf (wpAny_call (codeAny_mono (F.run A X.stack s H ⟨[.ref a, v], []⟩ [.ref a, v] [.ref a, y] _ C8.E0 sb.room e0 (by
    have := hb s [.ref a, v] I.kIn (by simpa using hl)
    simpa using this) r2 hsp) fun r s' hq => ?_))
  cases r with
  | error e => exact C8.pass0 (E := C8.E0) pins σ H s e s' I hq
  | ok fl =>
    cases fl with
    | ret w =>
      obtain ⟨z, H', I', rz, ez, ex⟩ := I.after hq
      subst ez
      cases rz
      exact ⟨rfl, H', I', ex⟩
    | next => exact False.elim hq
    | brk => exact False.elim hq
    | cont => exact False.elim hq
end
section
variable {P : Program} {w : World} {K : PySem.W.Frag} {mg : Str → Option Value} {base : Heap} {f : Addr} {fd : FuncData} {C : Addr}
theorem kitA (T : Txt K mg w C) (d : D) : PySem.W.kitOne K (kyU C d) (.ref C) = some (isAt d) := by rw [T.kitC]; cases d <;> rfl
end
section
variable {X : Cx} {n : Nat} {C : Addr}
/-- != of two words of which not both are tuples and not both are atoms -/
def rNeMix (C : Addr) : R2 := fun x y H Q => ∃ d e, Is C H x d ∧ Is C H y e ∧ wrd d = true ∧ wrd e = true ∧ (isTu d && isTu e) = false ∧ (isAt d && isAt e) = false ∧ ∀ H', Same H H' → Q (.bl (!eqD d e)) H'
theorem op_neMix (O : OwnS X.prog X.w X.K X.mg X.base n C (spEqN C)) (o : Oth X.K C) (hr : Room (n + 1) X.A) : OpR X (compareOp .NotEq) (rNeMix C) := by
  intro pins s σ H x y v u Q I rx ry h
  obtain ⟨d, e, hx, hy, wd, we, ht, ha, q⟩ := h
  have sb : Sub X (n + 1) X.A := ⟨hr, rfl⟩
  have hu := hr.units0
  have hu1 := sb.in1.room.units0
  show wpAny (model X.prog X.w) X.A (richCompare .NotEq v u) (EP X pins σ Q) X.xe s
  have fin : ∀ (b : Bool), b = (!eqD d e) → ∀ s', LoopS X pins σ H s' → EP X pins σ Q (.bool b) s' := fun b hb s' j => by
    obtain ⟨H', I', e'⟩ := j
    rw [hb]
    exact ⟨.bl _, H', I', rfl, q H' e'⟩
  have here : LoopS X pins σ H s := ⟨H, I, Same.refl H⟩
  -- the own == says no
  have own : ∀ {a dx : Addr} {fs : List (Str × V)} {y : V} {v : Value} {d e : D}, H a = some (.ins C dx fs) → Is C H (.ref a) d → Is C H y e → RelV y v → isAt d = true → isAt e = false → Own X.prog X.w X.A.in1 X.xe a v false (LoopS X pins σ H) s :=
    fun u1 h1 h2 rv d1 e1 => own_run O sb.in1 I u1 rv ⟨_, _, _, _, rfl, h1, h2, d1, e1, fun H' s' => ⟨rfl, s'⟩⟩
  have inst : ∀ {a dx : Addr} {fs : List (Str × V)}, H a = some (.ins C dx fs) → ∃ od, PySem.W.InstAt s.heap a (PySem.W.instObj C dx) C (some od) := fun u1 => by
    obtain ⟨mA, J, _⟩ := ins_get I.hok u1
    obtain ⟨od, J, _⟩ := J.look
    exact ⟨od, J⟩
  have tups : ∀ {a : Addr} {xs : List V}, H a = some (.tup xs) → ∃ its : Array Value, s.heap.IsTuple a its := fun h => by
    obtain ⟨its, r, e, z⟩ := I.tuple (SqT.of h)
    exact ⟨_, e⟩
  have left : ∀ {a dx : Addr} {fs : List (Str × V)} {T : String}, H a = some (.ins C dx fs) → x = .ref a → s.TypeIs u T → (T = "NoneType" ∨ T = "int" ∨ T = "str" ∨ T = "tuple") → isAt d = true → isAt e = false → wpAny (model X.prog X.w) X.A (richCompare .NotEq v u) (EP X pins σ Q) X.xe s := fun {a dx fs T} u1 hxa ht1 hT d1 e1 => by
    subst hxa
    cases rx
    obtain ⟨od, J⟩ := inst u1
    refine rc_left (op := .NotEq) hu I.kIn J ht1 hT (try_ne hu hu1 I.kIn J o (own u1 hx hy ry d1 e1)) (fun s' j => fin _ ?_ s' j)
    cases d <;> cases e <;> first | rfl | (simp [isAt] at d1; done) | (simp [isAt] at e1; done)
  have right : ∀ {c dy : Addr} {gs : List (Str × V)} {T id : String}, H c = some (.ins C dy gs) → y = .ref c → s.TypeIs v T → PySem.W.subIn X.K (.ref C) (.type T) = some false → oneThing? .NotEq v (.ref c) = none → Slot T (cmpInfo .NotEq).2.1 id →
      wpAny (model X.prog X.w) X.A (call (.builtin id) [v, .ref c]) (fun z s' => z = .notImplemented ∧ s' = s) X.xe s → isAt e = true → isAt d = false → wpAny (model X.prog X.w) X.A (richCompare .NotEq v u) (EP X pins σ Q) X.xe s := fun {c dy gs T id} u1 hyc ht1 hT hone sl dec e1 d1 => by
    subst hyc
    cases ry
    obtain ⟨od, J⟩ := inst u1
    refine rc_right (op := .NotEq) hu I.kIn J ht1 hT hone sl dec (try_ne hu hu1 I.kIn J o (own u1 hy hx rx e1 d1)) (fun s' j => fin _ ?_ s' j)
    cases d <;> cases e <;> first | rfl | (simp [isAt] at d1; done) | (simp [isAt] at e1; done)
  have flat : scal x y = true → (!decide (x = y)) = (!eqD d e) → wpAny (model X.prog X.w) X.A (richCompare .NotEq v u) (EP X pins σ Q) X.xe s := fun hs he => op_ne pins s σ H x y v u Q I rx ry ⟨hs, by rw [he]; exact q H (Same.refl H)⟩
  cases hx with
  | bl b => cases wd
  | lst _ _ => cases wd
  | dct _ => cases wd
  | @atom a1 dx1 t1 k1 xs1 ds1 u1 v1 i1 =>
    cases hy with
    | bl b => cases we
    | lst _ _ => cases we
    | dct _ => cases we
    | atom _ _ _ => cases ha
    | non => cases ry; exact left u1 rfl rfl (.inl rfl) rfl rfl
    | int j => obtain ⟨t, rfl⟩ := ry; exact left u1 rfl rfl (.inr (.inl rfl)) rfl rfl
    | str z => obtain ⟨t, rfl⟩ := ry; exact left u1 rfl rfl (.inr (.inr (.inl rfl))) rfl rfl
    | tup h2 i2 =>
      cases ry
      obtain ⟨its, oo, ho, hc, _⟩ := tups h2
      exact left u1 rfl ⟨oo, ho, hc⟩ (.inr (.inr (.inr rfl))) rfl rfl
  | non =>
    cases rx
    cases hy with
    | bl b => cases we
    | lst _ _ => cases we
    | dct _ => cases we
    | non => exact flat rfl (by simp [eqD])
    | int j => exact flat rfl (by simp [eqD])
    | str z => exact flat rfl (by simp [eqD])
    | tup h2 i2 =>
      cases ry
      obtain ⟨its, hi⟩ := tups h2
      exact RcNeAt.none_tuple hi hu _ _ _ _ (fin _ rfl s here)
    | @atom c dy _ _ _ _ u2 _ _ => exact right u2 rfl rfl o.sN rfl F.slot_NoneType_ne (call_gives F.slot_NoneType_ne rfl F.entry_NoneType_ne (F.args_NoneType_ne_2 _ _) (NoneType___ne___none_ref_0 c) ⟨rfl, rfl⟩) rfl rfl
  | int i =>
    obtain ⟨t, rfl⟩ := rx
    cases hy with
    | bl b => cases we
    | lst _ _ => cases we
    | dct _ => cases we
    | non => exact flat rfl (by simp [eqD])
    | int j => exact flat rfl (by simp [eqD])
    | str z => exact flat rfl (by simp [eqD])
    | tup h2 i2 =>
      cases ry
      obtain ⟨its, hi⟩ := tups h2
      exact RcNeAt.int_tuple i t hi hu _ _ _ _ (fin _ rfl s here)
    | @atom c dy _ _ _ _ u2 _ _ =>
      obtain ⟨od, J⟩ := inst u2
      exact right u2 rfl rfl o.sI rfl F.slot_int_ne (call_meets F.slot_int_ne rfl F.entry_int_ne (F.args_int_ne_2 _ _) (int_ne_inst i t c C dy) ⟨J.at_, rfl, rfl⟩) rfl rfl
  | str z0 =>
    obtain ⟨t, rfl⟩ := rx
    cases hy with
    | bl b => cases we
    | lst _ _ => cases we
    | dct _ => cases we
    | non => exact flat rfl (by simp [eqD])
    | int j => exact flat rfl (by simp [eqD])
    | str z => exact flat rfl (by simp [eqD])
    | tup h2 i2 =>
      cases ry
      obtain ⟨its, hi⟩ := tups h2
      exact RcNeAt.str_tuple z0 t hi hu _ _ _ _ (fin _ rfl s here)
    | @atom c dy _ _ _ _ u2 _ _ =>
      obtain ⟨od, J⟩ := inst u2
      exact right u2 rfl rfl o.sS rfl F.slot_str_ne (call_meets F.slot_str_ne rfl F.entry_str_ne (F.args_str_ne_2 _ _) (str_ne_inst z0 t c C dy) ⟨J.at_, rfl, rfl⟩) rfl rfl
  | @tup a1 xs1 ds1 h1 i1 =>
    cases rx
    obtain ⟨its, hi⟩ := tups h1
    cases hy with
    | bl b => cases we
    | lst _ _ => cases we
    | dct _ => cases we
    | non => cases ry; exact RcNeAt.tuple_none hi hu _ _ _ _ (fin _ rfl s here)
    | int j => obtain ⟨t, rfl⟩ := ry; exact RcNeAt.tuple_int j t hi hu _ _ _ _ (fin _ rfl s here)
    | str z => obtain ⟨t, rfl⟩ := ry; exact RcNeAt.tuple_str z t hi hu _ _ _ _ (fin _ rfl s here)
    | tup h2 i2 => cases ht
    | @atom c dy _ _ _ _ u2 _ _ =>
      obtain ⟨od, J⟩ := inst u2
      obtain ⟨⟨cls, dd, data, sl⟩, ho, hc, k, hd⟩ := id hi
      simp only at hc hd
      subst hc hd
      exact right u2 rfl ⟨_, ho, rfl⟩ o.sT (oneThing_ref _ _ _) F.slot_tuple_ne (GQ.call_here F.slot_tuple_ne ⟨_, ho, rfl⟩ F.entry_tuple_ne (F.args_tuple_ne_2 _ _) (tup_ne_inst (PySem.W.looks_subIn I.kIn o.sT) J.at_ ho ⟨rfl, rfl⟩)) rfl rfl
end
end Hc

namespace Hc
open PySem PySem.Spec PyProof.Rows L2 Hr
mutual
theorem eqD_refl : ∀ {d : D}, wrd d = true → eqD d d = true
  | .tup ds, h => by simp only [eqD]; simp only [wrd] at h; exact eqL_refl h
  | .atom k ds, h => by
    simp only [wrd, Bool.and_eq_true] at h
    simp only [eqD]; rw [eqL_refl h.1]; simp
  | .non, _ => rfl
  | .int i, _ => by simp [eqD]
  | .str s, _ => by simp [eqD]
  | .bl _, h => by simp [wrd] at h
  | .lst _, h => by simp [wrd] at h
  | .dct, h => by simp [wrd] at h
theorem eqL_refl : ∀ {ds : List D}, wrdL ds = true → eqL ds ds = true
  | [], _ => rfl
  | d :: ds, h => by
    simp only [wrdL, Bool.and_eq_true] at h
    simp only [eqL]; rw [eqD_refl h.1, eqL_refl h.2]; rfl
end
theorem term_len {k : Str} {ds es : List D} (h : isTermK k ds = true) (g : isTermK k es = true) : ds.length = es.length := by
  unfold isTermK at h g
  cases hf : formsOf k with
  | none => rw [hf] at h; cases h
  | some fs =>
    rw [hf] at h g
    simp only [Bool.and_eq_true, decide_eq_true_eq] at h g
    rw [h.1, g.1]
def spAre (C : Addr) : Sp := fun vs H Q _ => ∃ a b ds es, vs = [.ref a, .ref b] ∧ Is C H (.ref a) (.tup ds) ∧ Is C H (.ref b) (.tup es) ∧ ds.length = es.length ∧ wrdL ds = true ∧ wrdL es = true ∧ szL ds ≤ 1000000 ∧ szL es ≤ 1000000 ∧ ∀ H', Same H H' → Q (.bl (eqL ds es)) H'
def spSame (C : Addr) : Sp := fun vs H Q _ => ∃ a b dx fs dx' fs', vs = [.ref a, .ref b] ∧ H a = some (.ins C dx fs) ∧ H b = some (.ins C dx' fs') ∧ Q (.bl (decide (a = b))) H
section
variable {P : Program} {w : World} {K : PySem.W.Frag} {mg : Str → Option Value} {base : Heap} {f : Addr} {fd : FuncData} {C : Addr}
abbrev s_Atom_is_same : Stmt := L2.inClass (top 16) 2
theorem sc_Atom_is_same : FnScope ["self", "other"] ["self", "other"] (C8.fnScope s_Atom_is_same) := C8.fnScope_by (by decide +kernel)
theorem ok_is_same {fI : Addr} {fdI : FuncData} (me : Meth K C "is_same" fI) (T : Txt K mg w C) (F : C8.Fun K "is_same" "Atom.is_same" s_Atom_is_same fI fdI) (b : Binds K fdI ["self", "other"] []) : C8.Met P w K mg base 1 C "is_same" (spSame C) [] := by
  refine C8.met0 T.cl.cl me F b sc_Atom_is_same (fun vs H Q E h => ?_) (fun cdv A outer s H vs Q E hr h => ?_)
  · obtain ⟨a, b, dx, fs, dx', fs', rfl, _⟩ := h; rfl
  obtain ⟨a, b, dx, fs, dx', fs', rfl, h1, h2, q⟩ := h
  refine ⟨_, (pss_one (ps_ret (pe_cmpR op_is_ref (pv 0) (pv 1) (nomark _)))), ?_⟩
  exact ⟨_, rfl, _, rfl, a, b, _, _, rfl, rfl, h1, rfl, h2, rfl, q⟩
abbrev s__are_equal : Stmt := top 19
theorem sc__are_equal : FnScope ["ones", "others", "left", "right", "one", "other"] ["ones", "others"] (C8.fnScope s__are_equal) := C8.fnScope_by (by decide +kernel)
theorem ok__are_equal (F : C8.Def K mg "_are_equal" s__are_equal f fd) (b : Binds K fd ["ones", "others"] []) (T : Txt K mg w C) (O : OwnS P w K mg base 1 C (spEqN C)) (o : Oth K C) (m_is_same : C8.Met P w K mg base 1 C "is_same" (spSame C) []) : C8.Cal P w K mg base 3 "_are_equal" (spAre C) [] := by
  refine C8.cal0 F b .nil sc__are_equal (fun vs H Q E h => ?_) (fun cdv A outer s H vs Q E hr h => ?_)
  · obtain ⟨a, b, ds, es, rfl, _⟩ := h; rfl
  obtain ⟨a, b, ds, es, rfl, ha, hb, hl, hs, hs2, hz1, hz2, q⟩ := h
  refine ⟨_, (pss_cons (ps_set (i := 2) sc__are_equal.nd rfl (Or.inl rfl) (pe_callTy call_list_of rfl T.z_list bt_list (pa_cons (pv 0) pa_nil)))
      (pss_cons (ps_set (i := 3) sc__are_equal.nd rfl (Or.inl rfl) (pe_callTy call_list_of rfl T.z_list bt_list (pa_cons (pv 1) pa_nil)))
      (pss_cons (ps_while PassesOwn.never (pt_truth (pv 2) (fun _ => rfl))
      (pss_cons (ps_set (i := 4) sc__are_equal.nd rfl (Or.inl rfl) (pe_bm0 PySem.F.plainAttrs_list PySem.F.slot_list_pop PySem.F.type_list_pop mt_pop (pv 2)))
      (pss_cons (ps_set (i := 5) sc__are_equal.nd rfl (Or.inl rfl) (pe_bm0 PySem.F.plainAttrs_list PySem.F.slot_list_pop PySem.F.type_list_pop mt_pop (pv 3)))
      (pss_one (ps_if (PW.pt (pw_and (pt_cmpR (op_isTyA (C := C)) (pe_callTy (call_typeA (C := C)) rfl T.z_type bt_type (pa_cons (pv 4) pa_nil)) (pe_bltn (v := .ty "tuple") rfl T.z_tuple bt_tuple rfl) (nomark _)) (pw_and1 (pt_cmpR (op_isTyA (C := C)) (pe_callTy (call_typeA (C := C)) rfl T.z_type bt_type (pa_cons (pv 5) pa_nil)) (pe_bltn (v := .ty "tuple") rfl T.z_tuple bt_tuple rfl) (nomark _))))) (pss_cons (ps_if (pt_cmpR op_ne (pe_callB call_lenS rfl T.z_len bt_len (pa_cons (pv 4) pa_nil)) (pe_callB call_lenS rfl T.z_len bt_len (pa_cons (pv 5) pa_nil)) (nomark _)) (pss_one (ps_ret pe_bl)) pss_nil)
      (pss_cons (ps_expr (pe_bm PySem.F.plainAttrs_list PySem.F.slot_list_extend PySem.F.type_list_extend mt_extendT (pv 2) (pa_cons (pv 4) pa_nil)))
      (pss_one (ps_expr (pe_bm PySem.F.plainAttrs_list PySem.F.slot_list_extend PySem.F.type_list_extend mt_extendT (pv 3) (pa_cons (pv 5) pa_nil)))))) (pss_one (ps_if (PW.pt (pw_and (pt_cmpR (op_isTyA (C := C)) (pe_callTy (call_typeA (C := C)) rfl T.z_type bt_type (pa_cons (pv 4) pa_nil)) (pe_glob (v := .ref C) rfl T.g_Atom rfl) (nomark _)) (pw_and1 (pt_cmpR (op_isTyA (C := C)) (pe_callTy (call_typeA (C := C)) rfl T.z_type bt_type (pa_cons (pv 5) pa_nil)) (pe_glob (v := .ref C) rfl T.g_Atom rfl) (nomark _))))) (pss_cons (ps_if (pt_val (C8.pe_mt m_is_same hr (by first | decide | omega) (pv 4) (pa_cons (pv 5) pa_nil))) (pss_one ps_continue) pss_nil)
      (pss_cons (ps_if (pt_cmpR op_ne (pe_fld (pv 4) rfl) (pe_fld (pv 5) rfl) (nomark _)) (pss_one (ps_ret pe_bl)) pss_nil)
      (pss_cons (ps_expr (pe_bm PySem.F.plainAttrs_list PySem.F.slot_list_extend PySem.F.type_list_extend mt_extendT (pv 2) (pa_cons (pe_fld (pv 4) rfl) pa_nil)))
      (pss_one (ps_expr (pe_bm PySem.F.plainAttrs_list PySem.F.slot_list_extend PySem.F.type_list_extend mt_extendT (pv 3) (pa_cons (pe_fld (pv 5) rfl) pa_nil))))))) (pss_one (ps_if (pt_cmpR (op_neMix O o (hr.mono (by decide))) (pv 4) (pv 5) (nomark _)) (pss_one (ps_ret pe_bl)) pss_nil)))))))))
      (pss_one (ps_ret pe_bl))))), ?_⟩
  cases ha with
  | @tup _ xs _ ta ia =>
    cases hb with
    | @tup _ ys _ tb ib =>
      refine ⟨_, rfl, a, xs, rfl, .inr (SqT.of ta), fun l hl0 => ?_⟩
      have s1 := same_new (o := .lst xs) hl0
      refine ⟨_, rfl, b, ys, rfl, .inr (SqT.of (s1 _ _ tb)), fun r hr0 => ?_⟩
      have s2 := same_new (o := .lst ys) hr0
      have hrH : H r = none := s1.free hr0
      have nlr : l ≠ r := fun z => by rw [← z, upd_same] at hr0; cases hr0
      refine ⟨fun m σ' H' => ∃ v4 v5 xs ys as bs, σ' = [some (.ref a), some (.ref b), some (.ref l), some (.ref r), v4, v5] ∧ Same H H' ∧ H' l = some (.lst xs) ∧ H' r = some (.lst ys) ∧ IsA C H xs as ∧ IsA C H ys bs ∧ as.length = bs.length ∧ wrdL as = true ∧ wrdL bs = true ∧ eqL as bs = eqL ds es ∧ m = szL as ∧ szL as ≤ 1000000 ∧ szL bs ≤ 1000000,
        ⟨_, none, none, xs, ys, ds, es, rfl, s1.trans s2, s2 _ _ upd_same, upd_same, ia, ib, hl, hs, hs2, rfl, rfl, hz1, hz2⟩, ?_⟩
      clear hs hs2 hz1 hz2 hl s1 s2 ia ib ta tb hr0
      rintro m σ' H' ⟨v4, v5, xs, ys, as, bs, rfl, sm, hxl, hyr, ixs, iys, hl, hs, hs2, he, rfl, hza, hzb⟩
      refine ⟨_, rfl, _, .inl ⟨xs, SqL.of hxl, rfl⟩, ?_⟩
      rcases List.eq_nil_or_concat as with rfl | ⟨as', d, rfl⟩
      · have hb0 : bs = [] := List.eq_nil_of_length_eq_zero hl.symm
        subst hb0
        cases ixs
        refine iteF ?_
        have q := q H' sm
        rw [← he] at q
        exact q
      rcases List.eq_nil_or_concat bs with rfl | ⟨bs', e, rfl⟩
      · simp at hl
      obtain ⟨xs', x, rfl, ixs', hx⟩ := ixs.concat
      obtain ⟨ys', y, rfl, iys', hy⟩ := iys.concat
      simp only [List.concat_eq_append] at hl hs hs2 he hza hzb ⊢
      have hl' : as'.length = bs'.length := by simpa using hl
      rw [wrdL_app, Bool.and_eq_true] at hs hs2
      rw [eqL_app hl'] at he
      have wd : wrd d = true := by simpa [wrdL] using hs.2
      have we : wrd e = true := by simpa [wrdL] using hs2.2
      have he2 : eqL [d] [e] = eqD d e := by simp [eqL]
      rw [he2] at he
      have hsa : szL (as' ++ [d]) = szL as' + sz d := by rw [szL_app]; simp [szL]
      have hsb : szL (bs' ++ [e]) = szL bs' + sz e := by rw [szL_app]; simp [szL]
      have hpd := sz_pos d
      have hla := len_szL as'
      have hlb := len_szL bs'
      have hlx := ixs'.len
      have hly := iys'.len
      refine bT (by simp) ⟨fun σ2 H2 => ∃ m', m' < szL (as' ++ [d]) ∧ ∃ v4 v5 xs ys as bs, σ2 = [some (.ref a), some (.ref b), some (.ref l), some (.ref r), v4, v5] ∧ Same H H2 ∧ H2 l = some (.lst xs) ∧ H2 r = some (.lst ys) ∧ IsA C H xs as ∧ IsA C H ys bs ∧ as.length = bs.length ∧ wrdL as = true ∧ wrdL bs = true ∧ eqL as bs = eqL ds es ∧ m' = szL as ∧ szL as ≤ 1000000 ∧ szL bs ≤ 1000000, fun σ2 H2 h => h, ?_⟩
      -- one = left.pop(); other = right.pop()
      refine ⟨_, rfl, .inl ⟨rfl, _, SqL.of hxl⟩, l, _, x, rfl, rfl, hxl, by simp, ?_⟩
      rw [List.dropLast_concat]
      have hyr1 : (upd H' l (.lst xs')) r = some (.lst (ys' ++ [y])) := by rw [upd_ne nlr.symm]; exact hyr
      refine ⟨_, rfl, .inl ⟨rfl, _, SqL.of hyr1⟩, r, _, y, rfl, rfl, hyr1, by simp, ?_⟩
      rw [List.dropLast_concat]
      have sm2 : Same H (upd (upd H' l (.lst xs')) r (.lst ys')) := same_put (same_put sm hl0) hrH
      have hl2 : (upd (upd H' l (.lst xs')) r (.lst ys')) l = some (.lst xs') := by rw [upd_ne nlr]; exact upd_same
      have hr2 : (upd (upd H' l (.lst xs')) r (.lst ys')) r = some (.lst ys') := upd_same
      generalize upd (upd H' l (.lst xs')) r (.lst ys') = H2 at sm2 hl2 hr2
      have hx2 := hx.same sm2
      have hy2 := hy.same sm2
      -- nothing more is asked of the pair
      have good : ∀ H3, Same H2 H3 → eqD d e = true → ∃ m', m' < szL (as' ++ [d]) ∧ ∃ v4 v5 xs ys as bs, ([some (.ref a), some (.ref b), some (.ref l), some (.ref r), some x, some y] : L2.St) = [some (.ref a), some (.ref b), some (.ref l), some (.ref r), v4, v5] ∧ Same H H3 ∧ H3 l = some (.lst xs) ∧ H3 r = some (.lst ys) ∧ IsA C H xs as ∧ IsA C H ys bs ∧ as.length = bs.length ∧ wrdL as = true ∧ wrdL bs = true ∧ eqL as bs = eqL ds es ∧ m' = szL as ∧ szL as ≤ 1000000 ∧ szL bs ≤ 1000000 := fun H3 s3 h =>
        ⟨szL as', by omega, _, _, xs', ys', as', bs', rfl, sm2.trans s3, s3 _ _ hl2, s3 _ _ hr2, ixs', iys', hl', hs.1, hs2.1, by rw [← he, h, Bool.and_true], rfl, by omega, by omega⟩
      have bad : ∀ H3, Same H2 H3 → eqD d e = false → Q (.bl false) H3 := fun H3 s3 h => by
        have q := q H3 (sm2.trans s3)
        rw [← he, h, Bool.and_false] at q
        exact q
      -- both are opened
      have open_ : ∀ {ts us : List V} {gs hs' : List D} {p1 p2 : Addr}, H2 p1 = some (.tup ts) → H2 p2 = some (.tup us) → IsA C H ts gs → IsA C H us hs' → gs.length = hs'.length → wrdL gs = true → wrdL hs' = true → eqL gs hs' = eqD d e → szL gs < sz d → szL hs' ≤ sz e →
          (xs'.length + ts.length ≤ sizeLine ∧ ys'.length + us.length ≤ sizeLine) ∧ (upd H2 l (.lst (xs' ++ ts))) r = some (.lst ys') ∧ (upd H2 l (.lst (xs' ++ ts))) p2 = some (.tup us) ∧
          ∃ m', m' < szL (as' ++ [d]) ∧ ∃ v4 v5 xs ys as bs, ([some (.ref a), some (.ref b), some (.ref l), some (.ref r), some x, some y] : L2.St) = [some (.ref a), some (.ref b), some (.ref l), some (.ref r), v4, v5] ∧ Same H (upd (upd H2 l (.lst (xs' ++ ts))) r (.lst (ys' ++ us))) ∧ (upd (upd H2 l (.lst (xs' ++ ts))) r (.lst (ys' ++ us))) l = some (.lst xs) ∧ (upd (upd H2 l (.lst (xs' ++ ts))) r (.lst (ys' ++ us))) r = some (.lst ys) ∧ IsA C H xs as ∧ IsA C H ys bs ∧ as.length = bs.length ∧ wrdL as = true ∧ wrdL bs = true ∧ eqL as bs = eqL ds es ∧ m' = szL as ∧ szL as ≤ 1000000 ∧ szL bs ≤ 1000000 := fun {ts us gs hs' p1 p2} e1 e2 i1 i2 hlen hsp hsp2 heq z1 z2 => by
        have k1 := i1.len
        have k2 := i2.len
        have k3 := len_szL gs
        have k4 := len_szL hs'
        refine ⟨⟨Nat.le_trans (show _ ≤ 1000000 by omega) (by decide), Nat.le_trans (show _ ≤ 1000000 by omega) (by decide)⟩, by rw [upd_ne nlr.symm]; exact hr2, Tups.put hl2 _ _ e2, ?_⟩
        refine ⟨szL (as' ++ gs), ?_, _, _, xs' ++ ts, ys' ++ us, as' ++ gs, bs' ++ hs', rfl, same_put (same_put sm2 hl0) hrH, by rw [upd_ne nlr]; exact upd_same, upd_same, ixs'.app i1, iys'.app i2, by simp; omega, ?_, ?_, ?_, rfl, ?_, ?_⟩
        · rw [szL_app, hsa]; omega
        · rw [wrdL_app, hs.1, hsp]; rfl
        · rw [wrdL_app, hs2.1, hsp2]; rfl
        · rw [eqL_app hl', heq]; exact he
        · rw [szL_app]; omega
        · rw [szL_app]; omega
      refine ⟨_, rfl, x, d, rfl, hx2, kyV_ok d, .inl ⟨_, rfl⟩, _, rfl, ?_⟩
      by_cases ct : kyV C d = .ty "tuple"
      · refine ifT ct ⟨_, rfl, y, e, rfl, hy2, kyV_ok e, .inl ⟨_, rfl⟩, _, rfl, ?_⟩
        obtain ⟨gs, rfl⟩ := kyV_tup.mp ct
        by_cases cu : kyV C e = .ty "tuple"
        · refine ifT cu ?_
          obtain ⟨hs', rfl⟩ := kyV_tup.mp cu
          cases hx with
          | @tup p1 ts _ t1 i1 =>
            cases hy with
            | @tup p2 us _ t2 i2 =>
              have k1 := i1.len
              have k2 := i2.len
              refine ⟨_, rfl, p1, ts, rfl, .inr (SqT.of (sm2 _ _ t1)), _, rfl, p2, us, rfl, .inr (SqT.of (sm2 _ _ t2)), rfl, _, rfl, ?_⟩
              by_cases cl : gs.length = hs'.length
              · refine bF (by rw [k1, k2, cl]; simp) ?_
                have hsp : wrdL gs = true := by simpa [wrd] using wd
                have hsp2 : wrdL hs' = true := by simpa [wrd] using we
                obtain ⟨⟨b1, b2⟩, f1, f2, fin⟩ := open_ (sm2 _ _ t1) (sm2 _ _ t2) i1 i2 cl hsp hsp2 (by simp [eqD]) (by simp only [sz]; omega) (by simp only [sz]; omega)
                refine ⟨_, rfl, .inl ⟨rfl, _, SqL.of hl2⟩, _, rfl, l, p1, xs', ts, rfl, rfl, hl2, sm2 _ _ t1, b1, ?_⟩
                exact ⟨_, rfl, .inl ⟨rfl, _, SqL.of f1⟩, _, rfl, r, p2, ys', us, rfl, rfl, f1, f2, b2, fin⟩
              · refine bT (by rw [k1, k2, decide_eq_false (fun z => cl (by have := V.int.inj z; omega))]; rfl) ?_
                exact bad H2 (Same.refl H2) (by simp only [eqD]; exact eqL_len cl)
        · refine ifF cu ?_
          have hnt : (isTu (.tup gs) && isTu e) = false := by cases e <;> first | exact absurd rfl cu | simp [isTu]
          have hna : (isAt (.tup gs) && isAt e) = false := rfl
          refine ⟨_, rfl, x, .tup gs, rfl, hx2, kyV_ok _, .inr rfl, _, rfl, ifF (fun z => nomatch z) ?_⟩
          refine ⟨_, rfl, _, rfl, .tup gs, e, hx2, hy2, wd, we, hnt, hna, fun H3 s3 => ⟨_, rfl, ?_⟩⟩
          cases hq : eqD (.tup gs) e with
          | true => exact bF rfl (good H3 s3 hq)
          | false => exact bT rfl (bad H3 s3 hq)
      · refine ifF ct ?_
        refine ⟨_, rfl, x, d, rfl, hx2, kyV_ok d, .inr rfl, _, rfl, ?_⟩
        by_cases ca : kyV C d = .ref C
        · refine ifT ca ⟨_, rfl, y, e, rfl, hy2, kyV_ok e, .inr rfl, _, rfl, ?_⟩
          obtain ⟨k, gs, rfl⟩ := kyV_atom.mp ca
          by_cases cb : kyV C e = .ref C
          · refine ifT cb ?_
            obtain ⟨k', hs', rfl⟩ := kyV_atom.mp cb
            cases hx with
            | @atom a1 dx1 q1 _ ts _ u1 v1 i1 =>
              cases hy with
              | @atom a2 dx2 q2 _ us _ u2 v2 i2 =>
                refine ⟨_, rfl, a1, dx1, _, rfl, sm2 _ _ u1, rfl, _, rfl, a1, a2, dx1, _, dx2, _, rfl, sm2 _ _ u1, sm2 _ _ u2, ⟨_, rfl, ?_⟩⟩
                by_cases cs : a1 = a2
                · subst cs
                  have eds := Is.uniq (Is.atom u1 v1 i1) (Is.atom u2 v2 i2)
                  refine bT (by simp) ?_
                  exact good H2 (Same.refl H2) (by rw [eds]; exact eqD_refl we)
                refine bF (by simp [cs]) ?_
                refine ⟨_, rfl, a1, C, dx1, _, _, rfl, sm2 _ _ u1, T.cl.cl, T.cl.nK, rfl, _, rfl, a2, C, dx2, _, _, rfl, sm2 _ _ u2, T.cl.cl, T.cl.nK, rfl, rfl, _, rfl, ?_⟩
                by_cases ck : k = k'
                · refine bF (by rw [ck]; simp) ?_
                  have w1 : wrdL gs = true ∧ isTermK k gs = true := by simpa [wrd] using wd
                  have w2 : wrdL hs' = true ∧ isTermK k hs' = true := by subst ck; simpa [wrd] using we
                  have hlk := term_len w1.2 w2.2
                  obtain ⟨⟨b1, b2⟩, f1, f2, fin⟩ := open_ (sm2 _ _ v1) (sm2 _ _ v2) i1 i2 hlk w1.1 w2.1 (by simp [eqD, ck]) (by simp only [sz]; omega) (by simp only [sz]; omega)
                  refine ⟨_, rfl, .inl ⟨rfl, _, SqL.of hl2⟩, _, rfl, a1, C, dx1, _, _, rfl, sm2 _ _ u1, T.cl.cl, T.cl.nT, rfl, l, q1, xs', ts, rfl, rfl, hl2, sm2 _ _ v1, b1, ?_⟩
                  have n2 : a2 ≠ l := fun z => by have := sm2 _ _ u2; rw [z, hl2] at this; cases this
                  exact ⟨_, rfl, .inl ⟨rfl, _, SqL.of f1⟩, _, rfl, a2, C, dx2, _, _, rfl, by rw [upd_ne n2]; exact sm2 _ _ u2, T.cl.cl, T.cl.nT, rfl, r, q2, ys', us, rfl, rfl, f1, f2, b2, fin⟩
                · refine bT (by rw [decide_eq_false (fun z => ck (V.str.inj z))]; rfl) ?_
                  exact bad H2 (Same.refl H2) (by simp [eqD, ck])
          · refine ifF cb ?_
            have hnt : (isTu (.atom k gs) && isTu e) = false := rfl
            have hna : (isAt (.atom k gs) && isAt e) = false := by cases e <;> first | exact absurd rfl cb | simp [isAt]
            refine ⟨_, rfl, _, rfl, .atom k gs, e, hx2, hy2, wd, we, hnt, hna, fun H3 s3 => ⟨_, rfl, ?_⟩⟩
            cases hq : eqD (.atom k gs) e with
            | true => exact bF rfl (good H3 s3 hq)
            | false => exact bT rfl (bad H3 s3 hq)
        · refine ifF ca ?_
          have hnt : (isTu d && isTu e) = false := by cases d <;> first | rfl | exact absurd rfl ct
          have hna : (isAt d && isAt e) = false := by cases d <;> first | rfl | exact absurd rfl ca
          refine ⟨_, rfl, _, rfl, d, e, hx2, hy2, wd, we, hnt, hna, fun H3 s3 => ⟨_, rfl, ?_⟩⟩
          cases hq : eqD (d) e with
          | true => exact bF rfl (good H3 s3 hq)
          | false => exact bT rfl (bad H3 s3 hq)
end
end Hc

namespace Hc
open PySem PySem.Spec PyProof.Rows L2 Hr
section
variable {P : Program} {w : World} {K : PySem.W.Frag} {mg : Str → Option Value} {base : Heap} {f : Addr} {fd : FuncData} {C : Addr}
abbrev s_Atom___eq__ : Stmt := L2.inClass (top 16) 1
theorem sc_Atom___eq__ : FnScope ["self", "other"] ["self", "other"] (C8.fnScope s_Atom___eq__) := C8.fnScope_by (by decide +kernel)
theorem ok_eqN {fI : Addr} {fdI : FuncData} (F : C8.Fun K "__eq__" "Atom.__eq__" s_Atom___eq__ fI fdI) (T : Txt K mg w C) : FnOk P w K mg base C8.CX0 1 fI fdI ["self", "other"] (spEqN C) := by
  refine C8.fn0 F sc_Atom___eq__ (fun vs H Q E h => ?_) (fun cdv A outer s H vs Q E hr h => ?_)
  · obtain ⟨x, y, d, e, rfl, _⟩ := h; rfl
  obtain ⟨x, y, d, e, rfl, hx, hy, hd, he, q⟩ := h
  refine ⟨_, (pss_cons (ps_if (pt_not (pt_val (pe_callB (call_isiA T.cl) rfl T.z_isinstance bt_isinstance (pa_cons (pv 1) (pa_cons (pe_glob (v := .ref C) rfl T.g_Atom rfl) pa_nil))))) (pss_one (ps_ret pe_bl)) pss_nil)
      (pss_one ps_never)), ?_⟩
  refine ⟨_, rfl, y, _, _, _, _, rfl, hy, .own C, kitA T e, _, rfl, ?_⟩
  rw [he]
  exact bT rfl (q H (Same.refl H))
end
end Hc

namespace Hc
open PySem PySem.Spec PyProof.Rows L2 Hr
/-- an atom == a word -/
def spEqG (C : Addr) : Sp := fun vs H Q _ => ∃ x y d e, vs = [x, y] ∧ Is C H x d ∧ Is C H y e ∧ isAt d = true ∧ wrd d = true ∧ wrd e = true ∧ sz d ≤ 1000000 ∧ sz e ≤ 1000000 ∧ ∀ H', Same H H' → Q (.bl (eqD d e)) H'
section
variable {P : Program} {w : World} {K : PySem.W.Frag} {mg : Str → Option Value} {base : Heap} {f : Addr} {fd : FuncData} {C : Addr}
theorem ok_eq {fI : Addr} {fdI : FuncData} (F : C8.Fun K "__eq__" "Atom.__eq__" s_Atom___eq__ fI fdI) (T : Txt K mg w C)
    (c__are_equal : C8.Cal P w K mg base 3 "_are_equal" (spAre C) []) : FnOk P w K mg base C8.CX0 4 fI fdI ["self", "other"] (spEqG C) := by
  refine C8.fn0 F sc_Atom___eq__ (fun vs H Q E h => ?_) (fun cdv A outer s H vs Q E hr h => ?_)
  · obtain ⟨x, y, d, e, rfl, _⟩ := h; rfl
  obtain ⟨x, y, d, e, rfl, hx, hy, hd, wd, we, zd, ze, q⟩ := h
  obtain ⟨k, ds, rfl⟩ : ∃ k ds, d = .atom k ds := by cases d <;> first | exact ⟨_, _, rfl⟩ | (simp [isAt] at hd; done)
  refine ⟨_, (pss_cons (ps_if (pt_not (pt_val (pe_callB (call_isiA T.cl) rfl T.z_isinstance bt_isinstance (pa_cons (pv 1) (pa_cons (pe_glob (v := .ref C) rfl T.g_Atom rfl) pa_nil))))) (pss_one (ps_ret pe_bl)) pss_nil)
      (pss_one (ps_ret (pe_and (pe_cmpR op_eq (pe_fld (pv 0) rfl) (pe_fld (pv 1) rfl) (nomark _)) (pe_one (C8.pe_c c__are_equal hr (by first | decide | omega) rfl (pa_cons (pe_fld (pv 0) rfl) (pa_cons (pe_fld (pv 1) rfl) pa_nil)))))))), ?_⟩
  refine ⟨_, rfl, y, _, _, _, _, rfl, hy, .own C, kitA T e, _, rfl, ?_⟩
  cases hA : isAt e with
  | false =>
    have e0 : eqD (.atom k ds) e = false := by cases e <;> first | rfl | (simp [isAt] at hA; done)
    rw [e0] at q
    exact bT rfl (q H (Same.refl H))
  | true =>
    obtain ⟨k', es, rfl⟩ : ∃ k ds, e = .atom k ds := by cases e <;> first | exact ⟨_, _, rfl⟩ | (simp [isAt] at hA; done)
    refine bF rfl ?_
    have w1 : wrdL ds = true ∧ isTermK k ds = true := by simpa [wrd] using wd
    have w2 : wrdL es = true ∧ isTermK k' es = true := by simpa [wrd] using we
    cases hx with
    | @atom a1 dx1 t1 _ xs _ u1 v1 i1 =>
      cases hy with
      | @atom a2 dx2 t2 _ ys _ u2 v2 i2 =>
        refine ⟨_, rfl, a1, C, dx1, _, _, rfl, u1, T.cl.cl, T.cl.nK, rfl, _, rfl, a2, C, dx2, _, _, rfl, u2, T.cl.cl, T.cl.nK, rfl, rfl, _, rfl, ?_⟩
        by_cases ck : k = k'
        · subst ck
          refine bT (by simp) ?_
          refine ⟨_, rfl, a1, C, dx1, _, _, rfl, u1, T.cl.cl, T.cl.nT, rfl, _, rfl, a2, C, dx2, _, _, rfl, u2, T.cl.cl, T.cl.nT, rfl, ?_⟩
          simp only [sz] at zd ze
          refine ⟨_, _, ds, es, rfl, .tup v1 i1, .tup v2 i2, term_len w1.2 w2.2, w1.1, w2.1, by omega, by omega, fun H' s' => ?_⟩
          have e0 : eqD (.atom k ds) (.atom k es) = eqL ds es := by simp [eqD]
          rw [e0] at q
          exact q H' s'
        · refine bF (by simpa using ck) ?_
          have e0 : eqD (.atom k ds) (.atom k' es) = false := by simp [eqD, ck]
          rw [e0] at q
          exact q H (Same.refl H)
end
end Hc

namespace Hc
open PySem PySem.Spec PyProof.Rows L2 Hr PySem.SeqAt
mutual
/-- how deep tuples lie in one another -/
def dep : D → Nat
  | .tup ds => depL ds + 1
  | _ => 0
def depL : List D → Nat
  | [] => 0
  | d :: ds => max (dep d) (depL ds)
end
theorem depL_mem : ∀ {ds : List D} {d : D}, d ∈ ds → dep d ≤ depL ds
  | x :: ds, d, h => by
    simp only [depL]
    rcases List.mem_cons.mp h with rfl | h
    · omega
    · have := depL_mem h; omega
theorem szL_mem : ∀ {ds : List D} {d : D}, d ∈ ds → sz d ≤ szL ds
  | x :: ds, d, h => by
    simp only [szL]
    rcases List.mem_cons.mp h with rfl | h
    · omega
    · have := szL_mem h; omega
theorem wrdL_mem : ∀ {ds : List D} {d : D}, wrdL ds = true → d ∈ ds → wrd d = true
  | x :: ds, d, w, h => by
    simp only [wrdL, Bool.and_eq_true] at w
    rcases List.mem_cons.mp h with rfl | h
    · exact w.1
    · exact wrdL_mem w.2 h
section
variable {prog : Program} {w : World} {A : Around} {E : Value → Shared → Prop} {s : Shared}
def noFl : Value → Bool
  | .none => true | .int _ _ => true | .str _ _ => true | .ref _ => true | _ => false
theorem eqB_of_rc {u v : Value} {Q : Bool → Shared → Prop} (hne : (u == v) = true → False) (h : wpAny (model prog w) A (richCompare .Eq u v) (fun z s' => ∃ r, z = .bool r ∧ Q r s') E s) (hf : noFl u = true := by rfl) : wpAny (model prog w) A (eqBool u v) Q E s := by
  have go : wpAny (model prog w) A (do truthOfDropped (← richCompare .Eq u v)) Q E s := by
    refine wpAny_bind (wpAny_mono h (fun z s' hz => ?_) fun _ _ x => x)
    obtain ⟨r, rfl, q⟩ := hz
    exact wpAny_truthy_bool q
  cases u <;> first
    | (simp [noFl] at hf; done)
    | (unfold eqBool
       refine wpAny_holding ?_
       exact wpAny_ite_split (fun hab => (hne hab).elim) (fun _ => go))
end
section
variable {X : Cx} {n : Nat} {C : Addr}
/-- == of two words that are not both tuples -/
theorem eqMix (O : OwnS X.prog X.w X.K X.mg X.base n C (spEqG C)) (o : Oth X.K C) {A : Around} (sb : Sub X n A) {pins : List (Addr × Obj)} {s : Shared} {σ : L2.St} {H : Hp} {x y : V} {v u : Value} {d e : D} (I : Inv X pins σ H s) (rx : RelV x v) (ry : RelV y u)
    (hx : Is C H x d) (hy : Is C H y e) (wd : wrd d = true) (we : wrd e = true) (zd : sz d ≤ 1000000) (ze : sz e ≤ 1000000) (ht : (isTu d && isTu e) = false) : wpAny (model X.prog X.w) A (eqBool v u) (fun r s' => r = eqD d e ∧ LoopS X pins σ H s') X.xe s := by
  have hu := sb.room.units0
  have here : LoopS X pins σ H s := ⟨H, I, Same.refl H⟩
  have own : ∀ {a dx : Addr} {fs : List (Str × V)} {y : V} {v : Value} {d e : D}, H a = some (.ins C dx fs) → Is C H (.ref a) d → Is C H y e → RelV y v → isAt d = true → wrd d = true → wrd e = true → sz d ≤ 1000000 → sz e ≤ 1000000 → Own X.prog X.w A X.xe a v (eqD d e) (LoopS X pins σ H) s :=
    fun u1 h1 h2 rv d1 wd we zd ze => own_run O sb I u1 rv ⟨_, _, _, _, rfl, h1, h2, d1, wd, we, zd, ze, fun H' s' => ⟨rfl, s'⟩⟩
  have inst : ∀ {a dx : Addr} {fs : List (Str × V)}, H a = some (.ins C dx fs) → ∃ od, PySem.W.InstAt s.heap a (PySem.W.instObj C dx) C (some od) := fun u1 => by
    obtain ⟨mA, J, _⟩ := ins_get I.hok u1
    obtain ⟨od, J, _⟩ := J.look
    exact ⟨od, J⟩
  have tups : ∀ {a : Addr} {xs : List V}, H a = some (.tup xs) → ∃ its : Array Value, s.heap.IsTuple a its := fun h => by
    obtain ⟨its, r, e, z⟩ := I.tuple (SqT.of h)
    exact ⟨_, e⟩
  have comm : isAt d = false → isAt e = true → eqD e d = eqD d e := fun h1 h2 => by
    cases d <;> cases e <;> first | rfl | (simp [isAt] at h1; done) | (simp [isAt] at h2; done)
  have left : ∀ {a dx : Addr} {fs : List (Str × V)} {T : String}, H a = some (.ins C dx fs) → x = .ref a → s.TypeIs u T → (T = "NoneType" ∨ T = "int" ∨ T = "str" ∨ T = "tuple") → isAt d = true → wpAny (model X.prog X.w) A (richCompare .Eq v u) (fun z s' => ∃ r, z = .bool r ∧ r = eqD d e ∧ LoopS X pins σ H s') X.xe s := fun {a dx fs T} u1 hxa ht1 hT d1 => by
    subst hxa
    cases rx
    obtain ⟨od, J⟩ := inst u1
    exact rc_left (op := .Eq) hu I.kIn J ht1 hT (try_eq (own u1 hx hy ry d1 wd we zd ze)) (fun s' j => ⟨_, rfl, rfl, j⟩)
  have right : ∀ {c dy : Addr} {gs : List (Str × V)} {T id : String}, H c = some (.ins C dy gs) → y = .ref c → s.TypeIs v T → PySem.W.subIn X.K (.ref C) (.type T) = some false → oneThing? .Eq v (.ref c) = none → Slot T (cmpInfo .Eq).2.1 id →
      wpAny (model X.prog X.w) A (call (.builtin id) [v, .ref c]) (fun z s' => z = .notImplemented ∧ s' = s) X.xe s → isAt e = true → isAt d = false → wpAny (model X.prog X.w) A (richCompare .Eq v u) (fun z s' => ∃ r, z = .bool r ∧ r = eqD d e ∧ LoopS X pins σ H s') X.xe s := fun {c dy gs T id} u1 hyc ht1 hT hone sl dec e1 d1 => by
    subst hyc
    cases ry
    obtain ⟨od, J⟩ := inst u1
    exact rc_right (op := .Eq) hu I.kIn J ht1 hT hone sl dec (try_eq (own u1 hy hx rx e1 we wd ze zd)) (fun s' j => ⟨_, rfl, comm d1 e1, j⟩)
  have flat : flatV x = true → flatV y = true → eqV x y = eqD d e → wpAny (model X.prog X.w) A (eqBool v u) (fun r s' => r = eqD d e ∧ LoopS X pins σ H s') X.xe s := fun h1 h2 he => eqAt_V (A := A) (s := s) rx ry h1 h2 X.prog X.w X.xe _ ⟨he, here⟩
  cases hx with
  | bl b => cases wd
  | lst _ _ => cases wd
  | dct _ => cases wd
  | @atom a1 dx1 t1 k1 xs1 ds1 u1 v1 i1 =>
    cases hy with
    | bl b => cases we
    | lst _ _ => cases we
    | dct _ => cases we
    | non => cases rx; cases ry; exact eqB_of_rc (fun z => nomatch (eq_of_beq z)) (left u1 rfl rfl (.inl rfl) rfl)
    | int j => cases rx; obtain ⟨t, rfl⟩ := ry; exact eqB_of_rc (fun z => nomatch (eq_of_beq z)) (left u1 rfl rfl (.inr (.inl rfl)) rfl)
    | str z => cases rx; obtain ⟨t, rfl⟩ := ry; exact eqB_of_rc (fun z => nomatch (eq_of_beq z)) (left u1 rfl rfl (.inr (.inr (.inl rfl))) rfl)
    | @tup t2 _ _ h2 i2 =>
      cases rx
      cases ry
      obtain ⟨its, oo, ho, hc, _⟩ := tups h2
      refine eqB_of_rc (fun z => ?_) (left u1 rfl ⟨oo, ho, hc⟩ (.inr (.inr (.inr rfl))) rfl)
      have e1 := Value.ref.inj (eq_of_beq z)
      rw [e1, h2] at u1; cases u1
    | @atom a2 dx2 t2 k2 xs2 ds2 u2 v2 i2 =>
      cases rx
      cases ry
      by_cases hac : a1 = a2
      · subst hac
        have ed := Is.uniq (Is.atom u1 v1 i1) (Is.atom u2 v2 i2)
        rw [← ed, eqD_refl wd]
        exact SeqAt.EqAt.same (A := A) (s := s) (.ref a1) X.prog X.w X.xe _ ⟨rfl, here⟩
      · refine eqB_of_rc (fun z => hac (Value.ref.inj (eq_of_beq z))) ?_
        obtain ⟨od, J⟩ := inst u1
        obtain ⟨od2, J2⟩ := inst u2
        have ow := try_eq (own u1 (.atom u1 v1 i1) (.atom u2 v2 i2) (rfl : RelV (.ref a2) (.ref a2)) rfl wd we zd ze)
        unfold richCompare
        simp only [oneThing_ref]
        refine wpAny_holding (wpAny_bind (wpAny_cRoomFor hu ?_))
        refine wpAny_bind (J.type.here (wpAny_bind (J2.type.here ?_)))
        split
        · rename_i z
          exact absurd z (by simp)
        · refine wpAny_bind (wpAny_pure ?_)
          simp only [Bool.false_eq_true, if_false]
          refine wpAny_bind (wpAny_mono ow (fun r s' z => ?_) fun _ _ z => z)
          obtain ⟨rfl, j⟩ := z
          exact wpAny_pure ⟨_, rfl, rfl, j⟩
  | non =>
    cases hy with
    | bl b => cases we
    | lst _ _ => cases we
    | dct _ => cases we
    | non => exact flat rfl rfl rfl
    | int j => exact flat rfl rfl rfl
    | str z => exact flat rfl rfl rfl
    | tup h2 i2 =>
      cases rx
      cases ry
      obtain ⟨its, hi⟩ := tups h2
      exact EqAt.none_tuple hi hu _ _ _ _ ⟨rfl, here⟩
    | @atom c dy _ _ _ _ u2 _ _ =>
      cases rx
      have r := right u2 rfl (T := "NoneType") rfl o.sN rfl F.slot_NoneType_eq (call_gives F.slot_NoneType_eq rfl F.entry_NoneType_eq (F.args_NoneType_eq_2 _ _) (NoneType___eq___none_ref_0 c) ⟨rfl, rfl⟩) rfl rfl
      cases ry
      exact eqB_of_rc (fun z => nomatch (eq_of_beq z)) r
  | int i =>
    cases hy with
    | bl b => cases we
    | lst _ _ => cases we
    | dct _ => cases we
    | non => exact flat rfl rfl rfl
    | int j => exact flat rfl rfl (by simp only [eqV, eqD]; exact Bool.eq_iff_iff.mpr (by simp))
    | str z => exact flat rfl rfl rfl
    | tup h2 i2 =>
      obtain ⟨t, rfl⟩ := rx
      cases ry
      obtain ⟨its, hi⟩ := tups h2
      exact EqAt.int_tuple i t hi hu _ _ _ _ ⟨rfl, here⟩
    | @atom c dy _ _ _ _ u2 _ _ =>
      obtain ⟨t, rfl⟩ := rx
      obtain ⟨od, J⟩ := inst u2
      have r := right u2 rfl (T := "int") rfl o.sI rfl F.slot_int_eq (call_meets F.slot_int_eq rfl F.entry_int_eq (F.args_int_eq_2 _ _) (int_eq_inst i t c C dy) ⟨J.at_, rfl, rfl⟩) rfl rfl
      cases ry
      exact eqB_of_rc (fun z => nomatch (eq_of_beq z)) r
  | str z0 =>
    cases hy with
    | bl b => cases we
    | lst _ _ => cases we
    | dct _ => cases we
    | non => exact flat rfl rfl rfl
    | int j => exact flat rfl rfl rfl
    | str z => exact flat rfl rfl (by simp only [eqV, eqD]; exact Bool.eq_iff_iff.mpr (by simp))
    | tup h2 i2 =>
      obtain ⟨t, rfl⟩ := rx
      cases ry
      obtain ⟨its, hi⟩ := tups h2
      exact EqAt.str_tuple z0 t hi hu _ _ _ _ ⟨rfl, here⟩
    | @atom c dy _ _ _ _ u2 _ _ =>
      obtain ⟨t, rfl⟩ := rx
      obtain ⟨od, J⟩ := inst u2
      have r := right u2 rfl (T := "str") rfl o.sS rfl F.slot_str_eq (call_meets F.slot_str_eq rfl F.entry_str_eq (F.args_str_eq_2 _ _) (str_eq_inst z0 t c C dy) ⟨J.at_, rfl, rfl⟩) rfl rfl
      cases ry
      exact eqB_of_rc (fun z => nomatch (eq_of_beq z)) r
  | @tup a1 xs1 ds1 h1 i1 =>
    cases rx
    obtain ⟨its, hi⟩ := tups h1
    cases hy with
    | bl b => cases we
    | lst _ _ => cases we
    | dct _ => cases we
    | non => cases ry; exact EqAt.tuple_none hi hu _ _ _ _ ⟨rfl, here⟩
    | int j => obtain ⟨t, rfl⟩ := ry; exact EqAt.tuple_int j t hi hu _ _ _ _ ⟨rfl, here⟩
    | str z => obtain ⟨t, rfl⟩ := ry; exact EqAt.tuple_str z t hi hu _ _ _ _ ⟨rfl, here⟩
    | tup h2 i2 => cases ht
    | @atom c dy _ _ _ _ u2 _ _ =>
      obtain ⟨od, J⟩ := inst u2
      obtain ⟨⟨cls, dd, data, sl⟩, ho, hc, k, hd⟩ := id hi
      simp only at hc hd
      subst hc hd
      have r := right u2 rfl (T := "tuple") ⟨_, ho, rfl⟩ o.sT (oneThing_ref _ _ _) F.slot_tuple_eq (GQ.call_here F.slot_tuple_eq ⟨_, ho, rfl⟩ F.entry_tuple_eq (F.args_tuple_eq_2 _ _) (tup_eq_inst (PySem.W.looks_subIn I.kIn o.sT) J.at_ ho ⟨rfl, rfl⟩)) rfl rfl
      cases ry
      refine eqB_of_rc (fun z => ?_) r
      have e1 := Value.ref.inj (eq_of_beq z)
      rw [e1, u2] at h1; cases h1
end
end Hc

namespace Hc
open PySem PySem.Spec PyProof.Rows L2 Hr PySem.SeqAt
theorem eqL_all : ∀ {ds es : List D} (bs : Nat → Bool), (∀ i d e, ds[i]? = some d → es[i]? = some e → bs i = eqD d e) → allP bs ds.length es.length = eqL ds es
  | [], [], bs, _ => rfl
  | [], _ :: _, bs, _ => by simp [allP, eqL]
  | _ :: _, [], bs, _ => by simp [allP, eqL]
  | d :: ds, e :: es, bs, h => by
    have h0 := h 0 d e rfl rfl
    have ih := eqL_all (ds := ds) (es := es) (fun i => bs (i + 1)) fun i d' e' h1 h2 => h (i + 1) d' e' (by simpa using h1) (by simpa using h2)
    simp only [eqL]
    rw [← ih, ← h0]
    unfold allP
    simp only [List.length_cons]
    have hm : min (ds.length + 1) (es.length + 1) = min ds.length es.length + 1 := by omega
    rw [hm, List.range_succ_eq_map, List.all_cons, List.all_map]
    have : (ds.length + 1 == es.length + 1) = (ds.length == es.length) := by simp
    rw [this, Bool.and_assoc]
    rfl
section
variable {X : Cx} {n : Nat} {C : Addr}
/-- what is asked of two words that are compared -/
structure W2 (C : Addr) (H : Hp) (x y : V) (d e : D) : Prop where
  x : Is C H x d
  y : Is C H y e
  wd : wrd d = true
  we : wrd e = true
  zd : sz d ≤ 1000000
  ze : sz e ≤ 1000000
theorem W2.same {H H' : Hp} {x y : V} {d e : D} (w : W2 C H x y d e) (s : Same H H') : W2 C H' x y d e := ⟨w.x.same s, w.y.same s, w.wd, w.we, w.zd, w.ze⟩
/-- == of two words -/
theorem eqW (O : OwnS X.prog X.w X.K X.mg X.base n C (spEqG C)) (o : Oth X.K C) : ∀ (N : Nat) {A : Around} (sb : Sub X (N + n) A) {pins : List (Addr × Obj)} {s : Shared} {σ : L2.St} {H : Hp} {x y : V} {v u : Value} {d e : D}, dep d ≤ N → Inv X pins σ H s → RelV x v → RelV y u → W2 C H x y d e →
    wpAny (model X.prog X.w) A (eqBool v u) (fun r s' => r = eqD d e ∧ LoopS X pins σ H s') X.xe s := by
  intro N
  induction N with
  | zero =>
    intro A sb pins s σ H x y v u d e hd I rx ry w
    have ht : isTu d = false := by cases d <;> first | rfl | (simp [dep] at hd; done)
    exact eqMix O o (sb.mono (by omega)) I rx ry w.x w.y w.wd w.we w.zd w.ze (by rw [ht]; rfl)
  | succ N ih =>
    intro A sb pins s σ H x y v u d e hd I rx ry w
    by_cases ht : (isTu d && isTu e) = false
    · exact eqMix O o (sb.mono (by omega)) I rx ry w.x w.y w.wd w.we w.zd w.ze ht
    · have ht2 : isTu d = true ∧ isTu e = true := by simpa using ht
      obtain ⟨ds, rfl⟩ : ∃ ds, d = .tup ds := by cases d <;> first | exact ⟨_, rfl⟩ | (simp [isTu] at ht2; done)
      obtain ⟨es, rfl⟩ : ∃ es, e = .tup es := by cases e <;> first | exact ⟨_, rfl⟩ | (simp [isTu] at ht2; done)
      have hx := w.x
      have hy := w.y
      have wd := w.wd
      have we := w.we
      have zd := w.zd
      have ze := w.ze
      simp only [wrd] at wd we
      simp only [sz] at zd ze
      cases hx with
      | @tup a xs _ h1 i1 =>
      cases hy with
      | @tup b ys _ h2 i2 =>
      cases rx
      cases ry
      have here : LoopS X pins σ H s := ⟨H, I, Same.refl H⟩
      by_cases hab : a = b
      · subst hab
        have ed := Is.uniq w.x w.y
        rw [← ed, eqD_refl w.wd]
        exact SeqAt.EqAt.same (A := A) (s := s) (.ref a) X.prog X.w X.xe _ ⟨rfl, here⟩
      · refine eqB_of_rc (fun z => hab (Value.ref.inj (eq_of_beq z))) ?_
        obtain ⟨its, r, eT, z⟩ := I.tuple (SqT.of h1)
        obtain ⟨its2, r2, eT2, z2⟩ := I.tuple (SqT.of h2)
        have l1 := r.length
        have l2 := r2.length
        have l3 := i1.len
        have l4 := i2.len
        obtain ⟨⟨cls, dd, data, sl⟩, ho, hc, n1, hd1⟩ := id eT
        obtain ⟨⟨cls2, dd2, data2, sl2⟩, ho2, hc2, n2, hd2⟩ := id eT2
        simp only at hc hd1 hc2 hd2
        subst hc hd1 hc2 hd2
        have hdep : depL ds ≤ N := by simp only [dep] at hd; omega
        have sb1 : Sub X (N + n + 1) A := sb.mono (by omega)
        -- the pairs
        have pair : ∀ i (k1 : i < its.toArray.size) (k2 : i < its2.toArray.size) s1, LoopS X pins σ H s1 → wpAny (model X.prog X.w) A.in1 (eqBool its.toArray[i] its2.toArray[i]) (fun r s' => r = (match ds[i]?, es[i]? with | some d, some e => eqD d e | _, _ => false) ∧ LoopS X pins σ H s') X.xe s1 := fun i k1 k2 s1 j => by
          obtain ⟨H1, I1, e1⟩ := j
          have k1' : i < its.length := by simpa using k1
          have k2' : i < its2.length := by simpa using k2
          obtain ⟨p, hp, rp⟩ := r.get (List.getElem?_eq_getElem (show i < xs.length by omega))
          obtain ⟨q, hq, rq⟩ := r2.get (List.getElem?_eq_getElem (show i < ys.length by omega))
          rw [List.getElem?_eq_getElem k1'] at hp
          rw [List.getElem?_eq_getElem k2'] at hq
          have ep : its.toArray[i] = p := by simpa using Option.some.inj hp
          have eq : its2.toArray[i] = q := by simpa using Option.some.inj hq
          obtain ⟨d', hd', ix⟩ := i1.at (List.getElem?_eq_getElem (show i < xs.length by omega))
          obtain ⟨e', he', iy⟩ := i2.at (List.getElem?_eq_getElem (show i < ys.length by omega))
          have md := List.mem_of_getElem? hd'
          have me := List.mem_of_getElem? he'
          have s1' := szL_mem md
          have s2' := szL_mem me
          rw [ep, eq, hd', he']
          refine wpAny_mono (ih (A := A.in1) sb1.in1 (Nat.le_trans (depL_mem md) hdep) I1 rp rq ⟨ix.same e1, iy.same e1, wrdL_mem wd md, wrdL_mem we me, by omega, by omega⟩) (fun r s2 q2 => ?_) fun _ _ z => z
          obtain ⟨hr, H2, I2, e2⟩ := q2
          exact ⟨hr, H2, I2, e1.trans e2⟩
        have hall : allP (fun i => match ds[i]?, es[i]? with | some d, some e => eqD d e | _, _ => false) its.toArray.size its2.toArray.size = eqL ds es := by
          rw [List.size_toArray, List.size_toArray, ← l1, ← l2, l3, l4]
          exact eqL_all _ fun i d' e' h1 h2 => by simp only [h1, h2]
        refine wpAny_richCompare_same_room (op := .Eq) ⟨_, ho, rfl⟩ ⟨_, ho2, rfl⟩ F.slot_tuple_eq (GQ.call_here F.slot_tuple_eq ⟨_, ho, rfl⟩ F.entry_tuple_eq (F.args_tuple_eq_2 _ _) ?_) sb.room.units0
        exact tup_eqB (R := wants (fun z s' => z ≠ .notImplemented ∧ ∃ r, z = .bool r ∧ r = eqD (.tup ds) (.tup es) ∧ LoopS X pins σ H s') X.xe) pair (fun s' j => ⟨(fun z => nomatch z), _, rfl, by rw [hall]; rfl, j⟩) ho ho2 here
end
section
variable {X : Cx} {n N : Nat} {C : Addr}
/-- x in l, x not in l: words -/
def rInW (C : Addr) (N : Nat) (g : Bool → Bool) : R2 := fun x y H Q => ∃ l xs ds d, y = .ref l ∧ H l = some (.lst xs) ∧ IsA C H xs ds ∧ Is C H x d ∧ wrd d = true ∧ wrdL ds = true ∧ depL ds ≤ N ∧ sz d ≤ 1000000 ∧ szL ds ≤ 1000000 ∧ ∀ H', Same H H' → Q (.bl (g (ds.any fun e => eqD e d))) H'
theorem asksW (O : OwnS X.prog X.w X.K X.mg X.base n C (spEqG C)) (o : Oth X.K C) {A : Around} {pins : List (Addr × Obj)} {σ : L2.St} {H : Hp} (sb : Sub X (N + n + 1) A) {l : Addr} {xs : List V} {ds : List D} {x : V} {v : Value} {d : D}
    (hl : H l = some (.lst xs)) (hxs : IsA C H xs ds) (hx : Is C H x d) (rx : RelV x v) (wd : wrd d = true) (ws : wrdL ds = true) (hdp : depL ds ≤ N) (zd : sz d ≤ 1000000) (zs : szL ds ≤ 1000000) : Asks X.prog X.w A X.xe l v (LoopS X pins σ H) (ds.map fun e => eqD e d) := by
  refine ⟨fun s1 j => ?_⟩
  obtain ⟨H1, I1, e1⟩ := j
  obtain ⟨z, its, k, r, e⟩ := I1.hok l _ (e1 _ _ hl)
  have hlen := r.length
  have hxl := hxs.len
  refine ⟨its.toArray, k, e, by rw [List.size_toArray, List.length_map]; omega, fun i h h2 => ?_⟩
  have h' : i < its.length := by simpa using h
  have hi : i < xs.length := by omega
  obtain ⟨u, hu, ru⟩ := r.get (List.getElem?_eq_getElem hi)
  rw [List.getElem?_eq_getElem h'] at hu
  have hu2 : its.toArray[i] = u := by simpa using Option.some.inj hu
  obtain ⟨y, hy, hyi⟩ := hxs.at (List.getElem?_eq_getElem hi)
  have my := List.mem_of_getElem? hy
  have hb : (ds.map fun e => eqD e d)[i] = eqD y d := by
    have : (ds.map fun e => eqD e d)[i]? = some (eqD y d) := by rw [List.getElem?_map, hy]; rfl
    rw [List.getElem?_eq_getElem h2] at this
    exact Option.some.inj this
  rw [hu2, hb]
  have sy := szL_mem my
  refine wpAny_mono (eqW O o N sb.in1 (Nat.le_trans (depL_mem my) hdp) I1 ru rx ⟨hyi.same e1, hx.same e1, wrdL_mem ws my, wd, by omega, zd⟩) (fun r s2 q => ?_) fun _ _ x => x
  obtain ⟨hr, H2, I2, e2⟩ := q
  exact ⟨hr, H2, I2, e1.trans e2⟩
theorem op_inW (O : OwnS X.prog X.w X.K X.mg X.base n C (spEqG C)) (o : Oth X.K C) (hr : Room (N + n + 1) X.A) : OpR X (compareOp .In) (rInW C N id) := by
  intro pins s σ H x y v u Q I rx ry h
  obtain ⟨l, xs, ds, d, rfl, hl, hxs, hx, wd, ws, hdp, zd, zs, q⟩ := h
  cases ry
  refine op_in_ (asksW O o ⟨hr, rfl⟩ hl hxs hx rx wd ws hdp zd zs) (s := s) ⟨H, I, Same.refl H⟩ (fun s' j => ?_)
  obtain ⟨H', I', e⟩ := j
  have e9 : ((ds.map fun e => eqD e d).any id) = ds.any fun e => eqD e d := by rw [List.any_map]; rfl
  rw [e9]
  exact ⟨.bl _, H', I', rfl, q H' e⟩
theorem op_notInW (O : OwnS X.prog X.w X.K X.mg X.base n C (spEqG C)) (o : Oth X.K C) (hr : Room (N + n + 1) X.A) : OpR X (compareOp .NotIn) (rInW C N not) := by
  intro pins s σ H x y v u Q I rx ry h
  obtain ⟨l, xs, ds, d, rfl, hl, hxs, hx, wd, ws, hdp, zd, zs, q⟩ := h
  cases ry
  refine op_notIn_ (asksW O o ⟨hr, rfl⟩ hl hxs hx rx wd ws hdp zd zs) (s := s) ⟨H, I, Same.refl H⟩ (fun s' j => ?_)
  obtain ⟨H', I', e⟩ := j
  have e9 : ((ds.map fun e => eqD e d).any id) = ds.any fun e => eqD e d := by rw [List.any_map]; rfl
  rw [e9]
  exact ⟨.bl _, H', I', rfl, q H' e⟩
/-- x == y as an expression, from the == inside a list -/
def rEqW (C : Addr) (N : Nat) : R2 := fun x y H Q => ∃ d e, W2 C H x y d e ∧ dep d ≤ N ∧ ∀ H', Same H H' → Q (.bl (eqD d e)) H'
end
end Hc

namespace Hc
open PySem PySem.Spec PyProof.Rows L2 Hr
/-- tuples and atoms stay -/
structure Keep (C : Addr) (H H' : Hp) : Prop where
  tup : ∀ b xs, H b = some (.tup xs) → H' b = some (.tup xs)
  ins : ∀ b dx fs, H b = some (.ins C dx fs) → H' b = some (.ins C dx fs)
theorem Keep.of {C : Addr} {H H' : Hp} (s : Same H H') : Keep C H H' := ⟨fun b _ e => s b _ e, fun b _ _ e => s b _ e⟩
theorem Keep.trans {C : Addr} {H H1 H2 : Hp} (a : Keep C H H1) (b : Keep C H1 H2) : Keep C H H2 := ⟨fun c xs e => b.tup c xs (a.tup c xs e), fun c dx fs e => b.ins c dx fs (a.ins c dx fs e)⟩
theorem Keep.lst {C : Addr} {H : Hp} {l : Addr} {xs ys : List V} (h : H l = some (.lst xs)) : Keep C H (upd H l (.lst ys)) :=
  ⟨fun b _ e => by rw [upd_ne (fun z => by rw [z, h] at e; cases e)]; exact e, fun b _ _ e => by rw [upd_ne (fun z => by rw [z, h] at e; cases e)]; exact e⟩
/-- all but the list at l stays -/
def But (l : Addr) (H H' : Hp) : Prop := ∀ b o, H b = some o → b ≠ l → H' b = some o
theorem But.keep {C l : Addr} {H H' : Hp} {xs : List V} (h : H l = some (.lst xs)) (b : But l H H') : Keep C H H' :=
  ⟨fun c _ e => b c _ e (fun z => by rw [z, h] at e; cases e), fun c _ _ e => b c _ e (fun z => by rw [z, h] at e; cases e)⟩
mutual
/-- no lists and no dicts within -/
def cln : D → Bool
  | .tup ds => clnL ds
  | .atom _ ds => clnL ds
  | .lst _ => false
  | .dct => false
  | _ => true
def clnL : List D → Bool
  | [] => true
  | d :: ds => cln d && clnL ds
end
mutual
theorem Is.keep {C : Addr} {H H' : Hp} (k : Keep C H H') : ∀ {x : V} {d : D}, cln d = true → Is C H x d → Is C H' x d
  | _, _, _, .non => .non
  | _, _, _, .bl b => .bl b
  | _, _, _, .int i => .int i
  | _, _, _, .str s => .str s
  | _, _, c, .tup h t => .tup (k.tup _ _ h) (IsA.keep k (by simpa [cln] using c) t)
  | _, _, c, .lst h t => by simp [cln] at c
  | _, _, c, .dct h => by simp [cln] at c
  | _, _, c, .atom h h2 t => .atom (k.ins _ _ _ h) (k.tup _ _ h2) (IsA.keep k (by simpa [cln] using c) t)
theorem IsA.keep {C : Addr} {H H' : Hp} (k : Keep C H H') : ∀ {xs : List V} {ds : List D}, clnL ds = true → IsA C H xs ds → IsA C H' xs ds
  | _, _, _, .nil => .nil
  | _, _, c, .cons h t => by
    simp only [clnL, Bool.and_eq_true] at c
    exact .cons (Is.keep k c.1 h) (IsA.keep k c.2 t)
end
theorem clnL_iff : ∀ {ds : List D}, clnL ds = true ↔ ∀ d ∈ ds, cln d = true
  | [] => by simp [clnL]
  | d :: ds => by simp [clnL, clnL_iff (ds := ds)]
theorem clnL_app (a b : List D) : clnL (a ++ b) = (clnL a && clnL b) := by
  induction a with
  | nil => simp [clnL]
  | cons x a ih => rw [List.cons_append]; simp only [clnL]; rw [ih, Bool.and_assoc]
/-- what is there already is passed over -/
def add1 (ds : List D) (a : D) : List D := if ds.any (fun e => eqD e a) then ds else ds ++ [a]
def addAll (ds ps : List D) : List D := ps.foldl add1 ds
theorem add1_mem {ds : List D} {a e : D} (h : e ∈ add1 ds a) : e ∈ ds ∨ e = a := by
  unfold add1 at h
  split at h
  · exact .inl h
  · simpa using h
theorem addAll_mem : ∀ {ps ds : List D} {e : D}, e ∈ addAll ds ps → e ∈ ds ∨ e ∈ ps
  | [], ds, e, h => .inl h
  | p :: ps, ds, e, h => by
    rcases addAll_mem (ps := ps) (ds := add1 ds p) h with h | h
    · rcases add1_mem h with h | h
      · exact .inl h
      · exact .inr (by rw [h]; exact List.mem_cons_self)
    · exact .inr (List.mem_cons_of_mem _ h)
theorem addAll_app (ds ps qs : List D) : addAll ds (ps ++ qs) = addAll (addAll ds ps) qs := List.foldl_append
theorem add1_len (ds : List D) (a : D) : (add1 ds a).length ≤ ds.length + 1 := by
  unfold add1
  split
  · omega
  · simp
theorem addAll_len : ∀ (ps ds : List D), (addAll ds ps).length ≤ ds.length + ps.length
  | [], ds => Nat.le_refl _
  | p :: ps, ds => by
    have := addAll_len ps (add1 ds p)
    have := add1_len ds p
    show (addAll (add1 ds p) ps).length ≤ _
    simp only [List.length_cons]; omega
mutual
theorem wrd_cln : ∀ {d : D}, wrd d = true → cln d = true
  | .tup ds, h => by simp only [wrd] at h; simp only [cln]; exact wrdL_cln h
  | .atom k ds, h => by simp only [wrd, Bool.and_eq_true] at h; simp only [cln]; exact wrdL_cln h.1
  | .non, _ => rfl
  | .int _, _ => rfl
  | .str _, _ => rfl
  | .bl _, h => by simp [wrd] at h
  | .lst _, h => by simp [wrd] at h
  | .dct, h => by simp [wrd] at h
theorem wrdL_cln : ∀ {ds : List D}, wrdL ds = true → clnL ds = true
  | [], _ => rfl
  | d :: ds, h => by
    simp only [wrdL, Bool.and_eq_true] at h
    simp only [clnL]; rw [wrd_cln h.1, wrdL_cln h.2]; rfl
end
theorem wrdL_iff : ∀ {ds : List D}, wrdL ds = true ↔ ∀ d ∈ ds, wrd d = true
  | [] => by simp [wrdL]
  | d :: ds => by simp [wrdL, wrdL_iff (ds := ds)]
mutual
theorem places_sz : ∀ d : D, szL (places d) ≤ sz d
  | .tup ds => by simp only [places, sz]; have := placesL_sz ds; omega
  | .atom k ds => by simp [places, sz, szL]
  | .non | .bl _ | .int _ | .str _ | .lst _ | .dct => by simp [places, szL]
theorem placesL_sz : ∀ ds : List D, szL (placesL ds) ≤ szL ds
  | [] => Nat.le_refl _
  | d :: ds => by simp only [placesL, szL]; rw [szL_app]; have := places_sz d; have := placesL_sz ds; omega
end
theorem add1_sz (ds : List D) (a : D) : szL (add1 ds a) ≤ szL ds + sz a := by
  unfold add1
  split
  · omega
  · rw [szL_app]; simp [szL]
theorem addAll_sz : ∀ (ps ds : List D), szL (addAll ds ps) ≤ szL ds + szL ps
  | [], ds => Nat.le_refl _
  | p :: ps, ds => by
    have h1 := addAll_sz ps (add1 ds p)
    have h2 := add1_sz ds p
    show szL (addAll (add1 ds p) ps) ≤ _
    simp only [szL]; omega
theorem szL_take (ds : List D) (i : Nat) : szL (ds.take i) ≤ szL ds := by
  have : szL ds = szL (ds.take i) + szL (ds.drop i) := by rw [← szL_app, List.take_append_drop]
  omega
theorem depL_atoms : ∀ {ds : List D}, (∀ d ∈ ds, ∃ k gs, d = .atom k gs) → depL ds = 0
  | [], _ => rfl
  | d :: ds, h => by
    obtain ⟨k, gs, rfl⟩ := h d List.mem_cons_self
    simp only [depL]
    rw [depL_atoms fun e he => h e (List.mem_cons_of_mem _ he)]; rfl
end Hc

namespace Hc
open PySem PySem.Spec PyProof.Rows L2 Hr
theorem ru {k : Nat} {A : Around} (r : Room k A) : A.units + 1 < cLine := by have := r.units; omega
def kD (c : Addr) (r m : Int) : List (Key × V) := [(.inr "cells", .ref c), (.inr "rest", .int r), (.inr "mixed", .int m)]
theorem n_rc : ¬ (("cells" : Str) = "rest") := by decide +kernel
theorem n_mc : ¬ (("cells" : Str) = "mixed") := by decide +kernel
theorem n_mr : ¬ (("rest" : Str) = "mixed") := by decide +kernel
theorem n_cr : ¬ (("rest" : Str) = "cells") := by decide +kernel
theorem n_cm : ¬ (("mixed" : Str) = "cells") := by decide +kernel
theorem n_rm : ¬ (("mixed" : Str) = "rest") := by decide +kernel
section
variable {H : Hp} {d c : Addr} {r m : Int}
theorem dg_cells (h : H d = some (.dK (kD c r m))) : DGet H d (.str "cells") (some (.ref c)) := by
  have := DGet.k (k := .inr "cells") h
  rwa [show valV (kD c r m) (.inr "cells") = some (.ref c) by simp [kD, valV]] at this
theorem dg_rest (h : H d = some (.dK (kD c r m))) : DGet H d (.str "rest") (some (.int r)) := by
  have := DGet.k (k := .inr "rest") h
  rwa [show valV (kD c r m) (.inr "rest") = some (.int r) by simp [kD, valV, n_rc]] at this
theorem dg_mixed (h : H d = some (.dK (kD c r m))) : DGet H d (.str "mixed") (some (.int m)) := by
  have := DGet.k (k := .inr "mixed") h
  rwa [show valV (kD c r m) (.inr "mixed") = some (.int m) by simp [kD, valV, n_mc, n_mr]] at this
theorem dp_rest {v : Int} (h : H d = some (.dK (kD c r m))) : DPut H d (.str "rest") (.int v) (upd H d (.dK (kD c v m))) := by
  have := DPut.k (k := .inr "rest") (v := .int v) h (Nat.lt_of_lt_of_le (show 3 < 1000001 by decide) (by decide))
  rwa [show putK (kD c r m) (.inr "rest") (.int v) = kD c v m by simp [kD, putK, n_rc, n_mr, n_rm]] at this
theorem dp_mixed {v : Int} (h : H d = some (.dK (kD c r m))) : DPut H d (.str "mixed") (.int v) (upd H d (.dK (kD c r v))) := by
  have := DPut.k (k := .inr "mixed") (v := .int v) h (Nat.lt_of_lt_of_le (show 3 < 1000001 by decide) (by decide))
  rwa [show putK (kD c r m) (.inr "mixed") (.int v) = kD c r v by simp [kD, putK, n_mc, n_mr]] at this
end
/-- the drawing dict, its cells -/
def Dr (H : Hp) (d c : Addr) : Prop := (∃ r m, H d = some (.dK (kD c r m))) ∧ ∃ ns : List Int, ns.length ≤ 1000 ∧ H c = some (.lst (ns.map V.int))
/-- all but those two stay -/
def Bu2 (d c : Addr) (H H' : Hp) : Prop := ∀ b o, H b = some o → b ≠ d → b ≠ c → H' b = some o
theorem Bu2.refl {d c : Addr} {H : Hp} : Bu2 d c H H := fun _ _ e _ _ => e
theorem Bu2.of {d c : Addr} {H H' : Hp} (s : Same H H') : Bu2 d c H H' := fun b o e _ _ => s b o e
theorem Bu2.trans {d c : Addr} {H H1 H2 : Hp} (a : Bu2 d c H H1) (b : Bu2 d c H1 H2) : Bu2 d c H H2 := fun x o e n1 n2 => b x o (a x o e n1 n2) n1 n2
theorem Bu2.d {d c : Addr} {H : Hp} {o : HO} : Bu2 d c H (upd H d o) := fun x _ e n _ => by rw [upd_ne n]; exact e
theorem Bu2.c {d c : Addr} {H : Hp} {o : HO} : Bu2 d c H (upd H c o) := fun x _ e _ n => by rw [upd_ne n]; exact e
theorem Dr.ne {H : Hp} {d c : Addr} (h : Dr H d c) : d ≠ c := fun z => by
  obtain ⟨⟨r, m, h1⟩, ns, _, h2⟩ := h
  rw [z, h2] at h1; cases h1
theorem Dr.keep {C : Addr} {H H' : Hp} {d c : Addr} (h : Dr H d c) (b : Bu2 d c H H') : Keep C H H' := by
  obtain ⟨⟨r, m, h1⟩, ns, _, h2⟩ := h
  exact ⟨fun x _ e => b x _ e (fun z => by rw [z, h1] at e; cases e) (fun z => by rw [z, h2] at e; cases e), fun x _ _ e => b x _ e (fun z => by rw [z, h1] at e; cases e) (fun z => by rw [z, h2] at e; cases e)⟩
theorem Dr.same {H H' : Hp} {d c : Addr} (s : Same H H') (h : Dr H d c) : Dr H' d c := by
  obtain ⟨⟨r, m, h1⟩, ns, hn, h2⟩ := h
  exact ⟨⟨r, m, s _ _ h1⟩, ns, hn, s _ _ h2⟩
/-- what is none of the two stays none -/
theorem Dr.off {H : Hp} {d c : Addr} (h : Dr H d c) {p : Addr} (hp : H p = none) : p ≠ d ∧ p ≠ c := by
  obtain ⟨⟨r, m, h1⟩, ns, hn, h2⟩ := h
  exact ⟨fun z => (by rw [z, h1] at hp; cases hp), fun z => (by rw [z, h2] at hp; cases hp)⟩
def spDraw : Sp := fun vs H Q _ => ∃ d c many, vs = [.ref d, .int many] ∧ Dr H d c ∧ 0 < many ∧ many < 1073741824 ∧ ∀ H' r, Dr H' d c → Bu2 d c H H' → 0 ≤ r → r < many → Q (.int r) H'
def spPick : Sp := fun vs H Q _ => ∃ (d c l : Addr) (xs : List V), vs = [.ref d, .ref l] ∧ Dr H d c ∧ H l = some (.lst xs) ∧ l ≠ c ∧ 0 < xs.length ∧ xs.length < 1000000 ∧ ∀ (H' : Hp) (i : Nat) (x : V), Dr H' d c → Bu2 d c H H' → xs[i]? = some x → Q x H'
section
variable {P : Program} {w : World} {K : PySem.W.Frag} {mg : Str → Option Value} {base : Heap} {f : Addr} {fd : FuncData} {C : Addr}
abbrev s__law_begin : Stmt := top 29
theorem sc__law_begin : FnScope ["script"] ["script"] (C8.fnScope s__law_begin) := C8.fnScope_by (by decide +kernel)
theorem ok__law_begin (F : C8.Def K mg "_law_begin" s__law_begin f fd) (b : Binds K fd ["script"] []) (T : Txt K mg w C) : C8.Cal P w K mg base 1 "_law_begin" (fun vs H Q _ => ∃ (a : Addr) (ns : List Int), vs = [.ref a] ∧ SqL K H a (ns.map V.int) ∧ ns.length ≤ 1000 ∧ ∀ H' d c, Same H H' → H d = none → H c = none → Dr H' d c → Q (.ref d) H') [] := by
  refine C8.cal0 F b .nil sc__law_begin (fun vs H Q E h => ?_) (fun cdv A outer s H vs Q E hr h => ?_)
  · obtain ⟨a, ns, rfl, _⟩ := h; rfl
  obtain ⟨a, ns, rfl, hl, hn, q⟩ := h
  refine ⟨_, (pss_one (ps_ret (pe_disp (pps_cons pe_str (pe_callTy call_list_of rfl T.z_list bt_list (pa_cons (pv 0) pa_nil)) (pps_cons pe_str pe_int (pps_cons pe_str pe_int pps_nil))) rfl rfl (List.cons_ne_nil _ _) (by decide)))), ?_⟩
  intro d hd
  have s1 := same_new (o := .dK []) hd
  refine ⟨_, rfl, a, ns.map V.int, rfl, .inl (hl.ext s1), fun c hc => ?_⟩
  have ndc : d ≠ c := fun z => by rw [← z, upd_same] at hc; cases hc
  refine ⟨by rw [upd_ne ndc]; exact upd_same, kD c 0 1, rfl, by show 3 ≤ 15; decide, ?_⟩
  refine q _ d c (same_put (same_put s1 (s1.free hc)) hd) hd (s1.free hc) ⟨⟨0, 1, ?_⟩, ns, hn, by rw [upd_ne ndc.symm]; exact upd_same⟩
  rw [upd_same]
  refine congrArg (fun l => some (HO.dK l)) ?_
  simp [kD, mergeK, putK, n_rc, n_mc, n_mr]
abbrev s__law_draw : Stmt := top 30
theorem sc__law_draw : FnScope ["draws", "many", "cells", "cell", "value"] ["draws", "many"] (C8.fnScope s__law_draw) := C8.fnScope_by (by decide +kernel)
theorem ok__law_draw (F : C8.Def K mg "_law_draw" s__law_draw f fd) (b : Binds K fd ["draws", "many"] []) (T : Txt K mg w C) : C8.Cal P w K mg base 1 "_law_draw" spDraw [] := by
  refine C8.cal0 F b .nil sc__law_draw (fun vs H Q E h => ?_) (fun cdv A outer s H vs Q E hr h => ?_)
  · obtain ⟨d, c, many, rfl, _⟩ := h; rfl
  obtain ⟨d, c, many, rfl, hD, hm0, hm1, q⟩ := h
  refine ⟨_, (C8.pss_cut (ps_if (PW.pt (pw_and (pt_cmpR op_eq (pe_dget (ru hr) (pv 0) pe_str (fun _ _ => rfl)) pe_int (nomark _)) (pw_and1 (pt_cmpR op_gt (pe_callB call_lenS rfl T.z_len bt_len (pa_cons (pe_dget (ru hr) (pv 0) pe_str (fun _ _ => rfl)) pa_nil)) pe_int (nomark _))))) (pss_cons (ps_set (i := 2) sc__law_draw.nd rfl (Or.inl rfl) (pe_dget (ru hr) (pv 0) pe_str (fun _ _ => rfl)))
      (pss_cons (ps_set (i := 3) sc__law_draw.nd rfl (Or.inl rfl) (pe_callB call_abs rfl T.z_abs bt_abs (pa_cons (pe_bm PySem.F.plainAttrs_list PySem.F.slot_list_pop PySem.F.type_list_pop mt_popAt (pv 2) (pa_cons pe_int pa_nil)) pa_nil)))
      (pss_cons (ps_if (pt_cmpR op_ge (pv 3) (pe_op op_pow pe_int pe_int) (nomark _)) (pss_one (ps_dput (ru hr) (pv 0) pe_str (pv 3) rfl)) pss_nil)
      (pss_one (ps_dput (ru hr) (pv 0) pe_str (pe_op op_mod (pe_callTy call_int1 rfl T.z_int bt_int (pa_cons (pe_op op_add (pe_op op_add (pe_op op_mul (pe_dget (ru hr) (pv 0) pe_str (fun _ _ => rfl)) pe_int) (pv 3)) pe_int) pa_nil)) pe_int) rfl))))) pss_nil)
      (pss_cons (ps_if (pt_cmpR op_gt (pe_dget (ru hr) (pv 0) pe_str (fun _ _ => rfl)) pe_int (nomark _)) (pss_cons (ps_set (i := 4) sc__law_draw.nd rfl (Or.inl rfl) (pe_op op_mod (pe_callTy call_int1 rfl T.z_int bt_int (pa_cons (pe_dget (ru hr) (pv 0) pe_str (fun _ _ => rfl)) pa_nil)) (pv 1)))
      (pss_cons (ps_dput (ru hr) (pv 0) pe_str (pe_op op_fdiv (pe_dget (ru hr) (pv 0) pe_str (fun _ _ => rfl)) (pv 1)) rfl)
      (pss_one (ps_ret (pv 4))))) pss_nil)
      (pss_cons (ps_dput (ru hr) (pv 0) pe_str (pe_op op_mod (pe_callTy call_int1 rfl T.z_int bt_int (pa_cons (pe_op op_add (pe_op op_mul (pe_dget (ru hr) (pv 0) pe_str (fun _ _ => rfl)) pe_int) pe_int) pa_nil)) pe_int) rfl)
      (pss_one (ps_ret (pe_op op_mod (pe_callTy call_int1 rfl T.z_int bt_int (pa_cons (pe_op op_fdiv (pe_dget (ru hr) (pv 0) pe_str (fun _ _ => rfl)) pe_int) pa_nil)) (pv 1))))))), ?_⟩
  obtain ⟨⟨r0, m0, hd⟩, ns, hn, hc⟩ := id hD
  have ndc := hD.ne
  refine ⟨fun σ H1 => ∃ v2 v3, σ = [some (.ref d), some (.int many), v2, v3, none] ∧ Dr H1 d c ∧ Bu2 d c H H1, ?_, ?_⟩
  · have fin : ∃ v2 v3, (L2.start ["draws", "many", "cells", "cell", "value"] [.ref d, .int many] : L2.St) = [some (.ref d), some (.int many), v2, v3, none] ∧ Dr H d c ∧ Bu2 d c H H := ⟨none, none, rfl, hD, Bu2.refl⟩
    refine ⟨_, rfl, d, _, rfl, dg_rest hd, rfl, _, rfl, ?_⟩
    by_cases c1 : r0 = 0
    · refine ifT (by rw [c1]) ⟨_, rfl, d, _, rfl, dg_cells hd, c, _, rfl, .inl (SqL.of hc), _, _, rfl, rfl, _, rfl, ?_⟩
      cases ns with
      | nil => exact ifF (by simp) fin
      | cons n ns =>
        refine ifT (by simp) ?_
        refine ⟨_, rfl, d, _, rfl, dg_cells hd, ?_⟩
        refine ⟨_, rfl, .inl ⟨rfl, _, SqL.of hc⟩, c, _, 0, 0, .int n, rfl, rfl, hc, by decide, by decide, PySem.StrLaws.seqIndex_nonneg (by omega) (by simp), rfl, n, rfl, ?_⟩
        have hd1 : (upd H c (.lst (ns.map V.int))) d = some (.dK (kD c r0 m0)) := by rw [upd_ne ndc]; exact hd
        have hc1 : (upd H c (.lst (ns.map V.int))) c = some (.lst (ns.map V.int)) := upd_same
        have b1 : Bu2 d c H (upd H c (.lst (ns.map V.int))) := Bu2.c
        have hn1 : ns.length ≤ 1000 := by simp at hn; omega
        show _
        have hEr : (List.map V.int (n :: ns)).eraseIdx 0 = ns.map V.int := rfl
        rw [hEr]
        generalize (upd H c (.lst (ns.map V.int))) = H1 at hd1 hc1 b1
        -- behind the test of the cell
        have go : ∀ (H2 : Hp) (r m : Int) (v2 : Option V) (cell : Int), H2 d = some (.dK (kD c r m)) → H2 c = some (.lst (ns.map V.int)) → Bu2 d c H H2 → ∀ x, ∃ (v2 v3 : Option V), ([some (.ref d), some (.int many), some (.ref c), some (.int cell), none] : L2.St) = [some (.ref d), some (.int many), v2, v3, none] ∧ Dr (upd H2 d (.dK (kD c r x))) d c ∧ Bu2 d c H (upd H2 d (.dK (kD c r x))) := fun H2 r m v2 cell e1 e2 b2 x =>
          ⟨_, _, rfl, ⟨⟨r, x, upd_same⟩, ns, hn1, by rw [upd_ne ndc.symm]; exact e2⟩, b2.trans Bu2.d⟩
        refine ⟨_, rfl, _, _, rfl, rfl, ⟨by decide, by decide, by decide⟩, _, _, rfl, rfl, _, rfl, ite2 (fun _ => ?_) (fun _ => ?_)⟩
        · refine ⟨_, rfl, _, rfl, d, _, rfl, dp_rest hd1, ?_⟩
          exact ⟨_, rfl, d, _, rfl, dg_mixed upd_same, _, _, rfl, rfl, .inr ⟨by decide, by decide⟩, _, rfl, _, _, rfl, rfl, _, _, rfl, rfl, .inl ⟨_, rfl, _, _, rfl, rfl, (show (0 : Int) < 2147483647 by decide), _, rfl, d, _, rfl, dp_mixed upd_same, go _ _ _ none _ upd_same (by rw [upd_ne ndc.symm]; exact hc1) (b1.trans Bu2.d) _⟩⟩
        · exact ⟨_, rfl, d, _, rfl, dg_mixed hd1, _, _, rfl, rfl, .inr ⟨by decide, by decide⟩, _, rfl, _, _, rfl, rfl, _, _, rfl, rfl, .inl ⟨_, rfl, _, _, rfl, rfl, (show (0 : Int) < 2147483647 by decide), _, rfl, d, _, rfl, dp_mixed hd1, go _ _ _ none _ hd1 hc1 b1 _⟩⟩
    · exact ifF (by simpa using c1) fin
  · rintro σ H1 ⟨v2, v3, rfl, hD1, b1⟩
    obtain ⟨⟨r, m, e1⟩, ns1, hn1, e2⟩ := id hD1
    refine ⟨_, rfl, d, _, rfl, dg_rest e1, _, _, rfl, rfl, _, rfl, ite2 (fun _ => ?_) (fun _ => ?_)⟩
    · refine ⟨_, rfl, d, _, rfl, dg_rest e1, .inl ⟨_, rfl, _, rfl, _, _, rfl, rfl, hm0, ?_⟩⟩
      refine ⟨_, rfl, d, _, rfl, dg_rest e1, _, rfl, _, _, rfl, rfl, ⟨hm0, hm1⟩, _, rfl, d, _, rfl, dp_rest e1, _, rfl, ?_⟩
      exact q _ _ ⟨⟨_, m, upd_same⟩, ns1, hn1, by rw [upd_ne ndc.symm]; exact e2⟩ (b1.trans Bu2.d) (Int.emod_nonneg _ (by omega)) (Int.emod_lt_of_pos _ hm0)
    · refine ⟨_, rfl, d, _, rfl, dg_mixed e1, _, _, rfl, rfl, .inr ⟨by decide, by decide⟩, _, _, rfl, rfl, .inl ⟨_, rfl, _, _, rfl, rfl, (show (0 : Int) < 2147483629 by decide), ?_⟩⟩
      refine ⟨_, rfl, d, _, rfl, dp_mixed e1, ?_⟩
      refine ⟨_, rfl, d, _, rfl, dg_mixed upd_same, _, _, rfl, rfl, ⟨by decide, by decide⟩, .inl ⟨_, rfl, _, rfl, _, _, rfl, rfl, hm0, ?_⟩⟩
      exact q _ _ ⟨⟨r, _, upd_same⟩, ns1, hn1, by rw [upd_ne ndc.symm]; exact e2⟩ (b1.trans Bu2.d) (Int.emod_nonneg _ (by omega)) (Int.emod_lt_of_pos _ hm0)
abbrev s__law_pick : Stmt := top 31
theorem sc__law_pick : FnScope ["draws", "row"] ["draws", "row"] (C8.fnScope s__law_pick) := C8.fnScope_by (by decide +kernel)
theorem ok__law_pick (F : C8.Def K mg "_law_pick" s__law_pick f fd) (b : Binds K fd ["draws", "row"] []) (T : Txt K mg w C) (c__law_draw : C8.Cal P w K mg base 1 "_law_draw" spDraw []) : C8.Cal P w K mg base 2 "_law_pick" spPick [] := by
  refine C8.cal0 F b .nil sc__law_pick (fun vs H Q E h => ?_) (fun cdv A outer s H vs Q E hr h => ?_)
  · obtain ⟨d, c, l, xs, rfl, _⟩ := h; rfl
  obtain ⟨d, c, l, xs, rfl, hD, hl, hlc, h0, h1, q⟩ := h
  have hld : l ≠ d := fun z => by
    obtain ⟨⟨r, m, hd⟩, _⟩ := hD
    rw [z, hd] at hl; cases hl
  refine ⟨_, (pss_one (ps_ret (pe_ix ix_list (pv 1) (C8.pe_c c__law_draw hr (by first | decide | omega) rfl (pa_cons (pv 0) (pa_cons (pe_callB call_lenS rfl T.z_len bt_len (pa_cons (pv 1) pa_nil)) pa_nil))) (fun _ _ => rfl)))), ?_⟩
  refine ⟨_, rfl, _, rfl, _, rfl, l, xs, rfl, .inl (SqL.of hl), d, c, _, rfl, hD, by omega, by omega, fun H1 r hD1 b1 g0 g1 => ?_⟩
  have hlt : r.toNat < xs.length := by omega
  have hx : xs[r.toNat]? = some xs[r.toNat] := List.getElem?_eq_getElem hlt
  have hr2 : ((r.toNat : Nat) : Int) = r := by omega
  refine ⟨l, xs, r, _, rfl, rfl, SqL.of (b1 _ _ hl hld hlc), (show atI xs r = some xs[r.toNat] by have := atI_nat hx; rwa [hr2] at this), q H1 _ _ hD1 b1 hx⟩
end
end Hc

namespace Hc
open PySem PySem.Spec PyProof.Rows L2 Hr
theorem pmk_own0 {X : Cx} {C : Addr} {bmB : List Value} {B newId initId : String} {x : Str} {p pos : Pos} (F : ExcBaseFacts B newId initId bmB) (q : PySem.W.excIn X.K C bmB newId = true) (gC : X.mg x = some (.ref C))
    (kC : PySem.W.keepIn X.K (.ref C) = true) (r : Raises X (.ref C)) (hg : Gl X x) (hdb : (x == ("__debug__" : Str)) = false := by decide) :
    PMk X (.Call (.Name x p) [] [] pos) (fun _ H Q => Q (.ref C) none H) := by
  intro pins s σ H Q I h
  refine wpAny_Call_Name_kw (ld_glob I hg gC ?_ hdb)
  refine PySem.W.callWith_K0 I.kIn kC ?_
  obtain ⟨bm, N, nm, qn, bs, hdct, sn, sub, ab, col, dd, k0, k1, k2, k3, k5, mN, hC, hN, hni, T⟩ := exc_obj I.kIn q
  refine wpAny_call_exc_subT F T hC hN hni (fun h' e hm => ?_) (by decide)
  exact mk_of I hm r h (I.hok.gone hm.new)
/-- the class NotValid at V -/
structure NvOk (K : PySem.W.Frag) (mg : Str → Option Value) (V : Addr) (bmB : List Value) (newId : String) : Prop where
  q : PySem.W.excIn K V bmB newId = true
  g : mg "NotValid" = some (.ref V)
  k : PySem.W.keepIn K (.ref V) = true
  e : PySem.W.subIn K (.ref V) (.type "BaseException") = some true
  t : PySem.W.typeIn K (.ref V) = some (.type "type")
/-- a def that may raise -/
theorem fnX {P : Program} {w : World} {K : PySem.W.Frag} {mg : Str → Option Value} {base : Heap} {x qual : Str} {st : Stmt} {f : Addr} {fd : FuncData} {N ps : List Str} {k : Nat} {sp : Sp} (F : C8.Fun K x qual st f fd) (S : FnScope N ps (C8.fnScope st)) (len : ∀ vs H Q E, sp vs H Q E → vs.length = ps.length)
    (hbody : ∀ (cdv : Value) (A : Around) (outer : List Env) (s : Shared) (H : Hp) (vs : List V) (Q : VK) (E : XK), Room k (A.deeper (envOfC qual (C8.fnScope st) s.heap.objs.size f cdv)) → sp vs H Q E →
      ∃ t, PSs (cxOf (L2.CX P w) P w K mg base N qual (C8.fnScope st) f cdv A outer s H E) (C8.fnBody st) t ∧ t { nx := fun _ H' => Q .non H', rt := Q } (L2.start N vs) H) : FnOk P w K mg base (L2.CX P w) (k + 1) f fd ps sp := by
  obtain ⟨oc, od, dV, kV, doc, pm, an, cdv, ct, osl, rfl, lk, hcd⟩ := F.ex
  exact fn_of lk hcd S len fun A outer s H vs Q E hr hsp => hbody cdv A outer s H vs Q E hr hsp
def spInitR (C N : Addr) : Sp := fun vs H _ E => ∃ p dx xk xt dk dt, vs = [.ref p, xk, xt] ∧ H p = some (.ins C dx []) ∧ Is C H xk dk ∧ Is C H xt dt ∧ KindOk dk ∧ Fit dt ∧ (isTermD dk dt = false ∨ ∃ k ds, dk = .str k ∧ dt = .tup ds ∧ isTermK k ds = true ∧ mostR k < rank (.atom k ds)) ∧ ∀ H', Same H H' → E (.ref N) none H'
section
variable {P : Program} {w : World} {K : PySem.W.Frag} {mg : Str → Option Value} {base : Heap} {f : Addr} {fd : FuncData} {C N : Addr} {bmB : List Value} {newId : String}
theorem ok_initX {fI : Addr} {fdI : FuncData} {initId : String} (FB : ExcBaseFacts "ValueError" newId initId bmB) (nv : NvOk K mg N bmB newId) (F : C8.Fun K "__init__" "Atom.__init__" s_Atom___init__ fI fdI) (T : Txt K mg w C)
    (c__is_term : C8.Cal P w K mg base 4 "_is_term" (spTerm C) []) (c__rank_of_atom : C8.Cal P w K mg base 3 "_rank_of_atom" (spRk C) []) (c__most_rank : C8.Cal P w K mg base 1 "_most_rank" spMost []) : FnOk P w K mg base (L2.CX P w) 5 fI fdI ["self", "kind", "term"] (spInitR C N) := by
  refine fnX F sc_Atom___init__ (fun vs H Q E h => ?_) (fun cdv A outer s H vs Q E hr h => ?_)
  · obtain ⟨p, dx, xk, xt, dk, dt, rfl, _⟩ := h; rfl
  obtain ⟨p, dx, xk, xt, dk, dt, rfl, hp, hk, ht, hok, hz, hbad, q⟩ := h
  refine ⟨_, (pss_cons (ps_if (pt_not (pt_val (C8.pe_c c__is_term hr (by first | decide | omega) rfl (pa_cons (pv 1) (pa_cons (pv 2) pa_nil))))) (pss_one (ps_raise rfl (takes_of rfl rfl rfl rfl) (pmk_own0 FB nv.q nv.g nv.k (raises_own nv.e nv.t) rfl))) pss_nil)
      (pss_cons (ps_set (i := 3) sc_Atom___init__.nd rfl (Or.inl rfl) (C8.pe_c c__rank_of_atom hr (by first | decide | omega) rfl (pa_cons (pv 1) (pa_cons (pv 2) pa_nil))))
      (pss_cons (ps_if (pt_cmpR op_gt (pv 3) (C8.pe_c c__most_rank hr (by first | decide | omega) rfl (pa_cons (pv 1) pa_nil)) (nomark _)) (pss_one (ps_raise rfl (takes_of rfl rfl rfl rfl) (pmk_own0 FB nv.q nv.g nv.k (raises_own nv.e nv.t) rfl))) pss_nil)
      (pss_cons (ps_fld (pv 0) (pv 1) rfl)
      (pss_cons (ps_fld (pv 0) (pv 2) rfl)
      (pss_cons (ps_fld (pv 0) (pv 3) rfl)
      (pss_one (ps_fld (pv 0) pe_non rfl)))))))), ?_⟩
  refine ⟨_, rfl, _, rfl, _, _, dk, dt, rfl, hk, ht, hok, hz, fun H1 s1 => ⟨_, rfl, ?_⟩⟩
  rcases hbad with hb | ⟨k, ds, rfl, rfl, hterm, hrk⟩
  · refine bT (by rw [hb]; rfl) ?_
    exact q H1 s1
  · cases hk
    refine bF (by simp only [isTermD, hterm]; rfl) ?_
    have htx := ht.same s1
    obtain ⟨t, rfl⟩ : ∃ t, xt = .ref t := by cases ht; exact ⟨_, rfl⟩
    refine ⟨_, rfl, _, rfl, k, t, ds, rfl, htx, hz, fun H2 s2 => ?_⟩
    refine ⟨_, rfl, _, rfl, k, rfl, _, _, rfl, rfl, _, rfl, ?_⟩
    refine ifT (by omega) ?_
    exact q H2 (s1.trans s2)
end
end Hc

namespace Hc
open PySem PySem.Spec PyProof.Rows L2 Hr
/-! ### slices and sums of tuples, whatever they are -/
theorem cut_to (xs : List V) (k : Nat) : cutV xs none (some (k : Int)) = xs.take k := by
  unfold cutV
  rw [HT.sIx_none, HT.sIx_nat, List.drop_zero, Nat.sub_zero]
  by_cases h : k ≤ xs.length
  · rw [Nat.min_eq_left h]
  · rw [Nat.min_eq_right (by omega), List.take_of_length_le (Nat.le_refl _), List.take_of_length_le (by omega)]
theorem cut_from (xs : List V) (k : Nat) : cutV xs (some (k : Int)) none = xs.drop k := by
  unfold cutV
  rw [HT.sIx_none, HT.sIx_nat]
  by_cases h : k ≤ xs.length
  · rw [Nat.min_eq_left h]
    exact List.take_of_length_le (by rw [List.length_drop]; exact Nat.le_refl _)
  · rw [Nat.min_eq_right (by omega), List.drop_of_length_le (Nat.le_refl _), List.drop_of_length_le (by omega), List.take_nil]
theorem sl_go {K : PySem.W.Frag} {H : Hp} {a : Addr} {xs : List V} {lo hi : Option Int} {Q : VK} (h : H a = some (.tup xs)) (q : ∀ H' p, Same H H' → H' p = some (.tup (cutV xs lo hi)) → Q (.ref p) H') : rSlA K (.ref a) lo hi H Q := by
  refine ⟨a, xs, rfl, SqT.of h, fun z => q H a (Same.refl H) ?_, fun _ p hp => q _ p (same_new hp) upd_same⟩
  have e : cutV xs lo hi = xs := by
    unfold cutV
    rw [z.1, z.2, List.drop_zero, Nat.sub_zero]
    exact List.take_of_length_le (Nat.le_refl _)
  rw [e]; exact h
theorem sl_goL {K : PySem.W.Frag} {σ : L2.St} {H : Hp} {a : Addr} {xs : List V} {lo : Int} {Q : VK} (h : H a = some (.tup xs)) (q : ∀ H' p, Same H H' → H' p = some (.tup (cutV xs (some lo) none)) → Q (.ref p) H') : tNoPart σ H (fun u H3 => rSlA K (.ref a) (some lo) u H3 Q) := sl_go h q
theorem cat_go {K : PySem.W.Frag} {H : Hp} {a b : Addr} {xs ys : List V} {Q : VK} (ha : H a = some (.tup xs)) (hb : H b = some (.tup ys)) (hl : xs.length + ys.length ≤ sizeLine) (q : ∀ H' p, Same H H' → H' p = some (.tup (xs ++ ys)) → Q (.ref p) H') : rCatA K (.ref a) (.ref b) H Q := by
  refine ⟨a, b, xs, ys, rfl, rfl, SqT.of ha, SqT.of hb, hl, fun z => q H b (Same.refl H) (by rw [z]; exact hb), fun _ z => q H a (Same.refl H) (by rw [z, List.append_nil]; exact ha), fun _ _ p hp => q _ p (same_new hp) upd_same⟩
theorem isA_take {C : Addr} {H : Hp} : ∀ {xs : List V} {ds : List D} (n : Nat), IsA C H xs ds → IsA C H (xs.take n) (ds.take n)
  | _, _, 0, _ => by simp only [List.take_zero]; exact .nil
  | _, _, n + 1, .nil => by simp only [List.take_nil]; exact .nil
  | _, _, n + 1, .cons h t => by simp only [List.take_succ_cons]; exact .cons h (isA_take n t)
theorem isA_drop {C : Addr} {H : Hp} : ∀ {xs : List V} {ds : List D} (n : Nat), IsA C H xs ds → IsA C H (xs.drop n) (ds.drop n)
  | _, _, 0, h => by simp only [List.drop_zero]; exact h
  | _, _, n + 1, .nil => by simp only [List.drop_nil]; exact .nil
  | _, _, n + 1, .cons h t => by simp only [List.drop_succ_cons]; exact isA_drop n t
theorem szLtk : ∀ (ds : List D) (n : Nat), szL (ds.take n) ≤ szL ds
  | _, 0 => by simp only [List.take_zero, szL]; omega
  | [], n + 1 => by simp only [List.take_nil, szL]; omega
  | d :: ds, n + 1 => by simp only [List.take_succ_cons, szL]; have := szLtk ds n; omega
theorem szLdr : ∀ (ds : List D) (n : Nat), szL (ds.drop n) ≤ szL ds
  | _, 0 => by simp only [List.drop_zero]; omega
  | [], n + 1 => by simp only [List.drop_nil, szL]; omega
  | d :: ds, n + 1 => by simp only [List.drop_succ_cons, szL]; have := szLdr ds n; omega
theorem txlL_app : ∀ (a b : List D), txlL (a ++ b) ↔ txlL a ∧ txlL b
  | [], b => by simp [txlL]
  | x :: a, b => by rw [List.cons_append]; simp only [txlL]; rw [txlL_app a b, and_assoc]
theorem txlLtk : ∀ (ds : List D) (n : Nat), txlL ds → txlL (ds.take n)
  | _, 0, _ => by simp only [List.take_zero, txlL]
  | [], n + 1, _ => by simp only [List.take_nil, txlL]
  | d :: ds, n + 1, h => by simp only [txlL] at h; simp only [List.take_succ_cons, txlL]; exact ⟨h.1, txlLtk ds n h.2⟩
theorem txlLdr : ∀ (ds : List D) (n : Nat), txlL ds → txlL (ds.drop n)
  | _, 0, h => by simp only [List.drop_zero]; exact h
  | [], n + 1, _ => by simp only [List.drop_nil, txlL]
  | d :: ds, n + 1, h => by simp only [txlL] at h; simp only [List.drop_succ_cons]; exact txlLdr ds n h.2
/-! ### terms that are none -/
theorem bad_len {k : Str} {fs : List Str} {ds : List D} (h : formsOf k = some fs) (hl : ds.length ≠ fs.length) : isTermK k ds = false := by
  unfold isTermK; rw [h]; simp [hl]
theorem bad_at {k : Str} {fs : List Str} {ds : List D} (h : formsOf k = some fs) {i : Nat} {d : D} {z : Str} (h1 : ds[i]? = some d) (h2 : fs[i]? = some z) (hb : partOk d z = false) : isTermK k ds = false := by
  unfold isTermK; rw [h]
  have h3 : (ds.zip fs)[i]? = some (d, z) := List.getElem?_zip_eq_some.mpr ⟨h1, h2⟩
  have h4 : ((ds.zip fs).all fun p => partOk p.1 p.2) = false := by
    rw [List.all_eq_false]
    exact ⟨(d, z), List.mem_of_getElem? h3, by simp [hb]⟩
  simp only [h4, Bool.and_false]
theorem set_at {ds : List D} {i : Nat} {e : D} {r : List D} (h : i ≤ ds.length) : (ds.take i ++ [e] ++ r)[i]? = some e := by
  have h1 : (ds.take i).length = i := by rw [List.length_take]; omega
  rw [List.append_assoc, List.getElem?_append_right (by omega), h1, Nat.sub_self]; rfl
/-- a pair of a kind and a term that is none -/
def BadP (dk dt : D) : Prop := KindOk dk ∧ Fit dt ∧ isTermD dk dt = false
def RowB (C : Addr) (H : Hp) (x : V) : Prop := ∃ a xk xt dk dt, x = .ref a ∧ H a = some (.tup [xk, xt]) ∧ Is C H xk dk ∧ Is C H xt dt ∧ BadP dk dt
theorem RowB.same {C : Addr} {H H' : Hp} {x : V} (s : Same H H') (h : RowB C H x) : RowB C H' x := by
  obtain ⟨a, xk, xt, dk, dt, rfl, h1, h2, h3, h4⟩ := h
  exact ⟨a, xk, xt, dk, dt, rfl, s _ _ h1, h2.same s, h3.same s, h4⟩
/-! ### a heap without some cells -/
def nx (ps : List Addr) (H : Hp) : Hp := fun b => if b ∈ ps then none else H b
theorem nx_le {ps : List Addr} {H : Hp} : Same (nx ps H) H := fun b o e => by
  unfold nx at e
  by_cases h : b ∈ ps
  · rw [if_pos h] at e; cases e
  · rwa [if_neg h] at e
theorem nx_off {ps : List Addr} {H : Hp} {b : Addr} (h : b ∉ ps) : nx ps H b = H b := if_neg h
theorem nx_in {ps : List Addr} {H : Hp} {b : Addr} {o : HO} (e : nx ps H b = some o) : b ∉ ps := fun h => by
  unfold nx at e; rw [if_pos h] at e; cases e
theorem nx_bu {d c : Addr} {ps : List Addr} {H H' : Hp} (b : Bu2 d c H H') (hd : d ∈ ps) (hc : c ∈ ps) : Same (nx ps H) (nx ps H') := fun x o e => by
  have h := nx_in e
  rw [nx_off h] at e ⊢
  exact b _ _ e (fun z => h (z ▸ hd)) (fun z => h (z ▸ hc))
theorem nx_same {ps : List Addr} {H H' : Hp} (s : Same H H') : Same (nx ps H) (nx ps H') := fun x o e => by
  have h := nx_in e
  rw [nx_off h] at e ⊢
  exact s _ _ e
theorem nx_upd {ps : List Addr} {H : Hp} {l : Addr} {o : HO} (h : l ∈ ps) : Same (nx ps H) (nx ps (upd H l o)) := fun x u e => by
  have n := nx_in e
  rw [nx_off n] at e ⊢
  rw [upd_ne (fun z => n (by rw [z]; exact h))]; exact e
/-- a fresh cell is left out, too -/
theorem nx_add {ps : List Addr} {H : Hp} {l : Addr} {o : HO} (h : H l = none) : Same (nx ps H) (nx (ps ++ [l]) (upd H l o)) := fun x u e => by
  have n := nx_in e
  rw [nx_off n] at e
  have nl : x ≠ l := fun z => by rw [z, h] at e; cases e
  rw [nx_off (by simp [n, nl]), upd_ne nl]; exact e
end Hc

set_option maxHeartbeats 8000000
namespace Hr
open PySem PySem.Spec PyProof.Rows PySem.SeqAt
open AutoSeq1 (wpAny_loadPart')
open MeetsSeq MeetsSeq2 MeetsSeq3 SeqRoads2
section
variable {prog : Program} {w : World} {A : Around} {R : Result → Shared → Prop}
theorem tup_neB {l b : Addr} {items items2 : Array Value} {n n2 : Nat} {dd dd2 : Option Addr} {sl sl2 : Array (Option Value)} {bs : Nat → Bool} {J : Shared → Prop}
    (turn : ∀ i (h1 : i < items.size) (h2 : i < items2.size) s, J s → wpAny (model prog w) A.in1 (eqBool items[i] items2[i]) (fun r s' => r = bs i ∧ J s') (fun e s' => R (.error e) s') s)
    (fin : ∀ s, J s → R (.ok (.ret (.bool (!allP bs items.size items2.size)))) s) {s : Shared} (hl1 : s.heap.get? l = some { cls := .type "tuple", dict := dd, data := .seq items n, slots := sl }) (hb1 : s.heap.get? b = some { cls := .type "tuple", dict := dd2, data := .seq items2 n2, slots := sl2 }) (h : J s) :
    wpAny (model prog w) A.in1 (Builtin.«tuple.__ne__» ⟨[.ref l, .ref b], []⟩) (GQ.FinOf prog w A R) (fun e s' => R (.error e) s') s := by
  have f2 := AutoSeq1.sub_tuple_tuple
  have hZ : (items.toList.zip items2.toList).length = min items.size items2.size := by simp
  have h0 := h
  obtain ⟨hp, g, d, tk, os⟩ := s
  wp_walk using wpAny_loadPart' hl1, wpAny_loadPart' hb1, wpAny_forIn_list _ (fun rest b s' => b.1 = none ∧ ∃ i, rest = (items.toList.zip items2.toList).drop i ∧ i ≤ min items.size items2.size ∧ (∀ j, j < i → bs j = true) ∧ J s') _
  case turn =>
    rintro ⟨y, x⟩ rest b s' ⟨hb', i, hz, hi, hbs, hI⟩
    have hlt : i < (items.toList.zip items2.toList).length := by
      rcases Nat.lt_or_ge i (items.toList.zip items2.toList).length with h' | h'
      · exact h'
      · rw [List.drop_of_length_le h'] at hz; cases hz
    have hm : i < min items.size items2.size := hZ ▸ hlt
    have h1 : i < items.size := Nat.lt_of_lt_of_le hm (Nat.min_le_left _ _)
    have h2 : i < items2.size := Nat.lt_of_lt_of_le hm (Nat.min_le_right _ _)
    rw [List.drop_eq_getElem_cons hlt] at hz
    injection hz with hyx hrest
    have hy : y = items[i] := by have := congrArg Prod.fst hyx; simpa using this
    have hx : x = items2[i] := by have := congrArg Prod.snd hyx; simpa using this
    subst hy hx
    refine wpAny_bind (wpAny_mono (turn i h1 h2 s' hI) (fun r s2 q2 => ?_) fun _ _ x => x)
    obtain ⟨hr, q2⟩ := q2
    subst hr
    cases hbi : bs i with
    | true =>
      wp_walk
      exact ⟨rfl, i + 1, hrest, hm, fun j hj => by
        rcases Nat.lt_succ_iff_lt_or_eq.mp hj with h | rfl
        · exact hbs j h
        · exact hbi, q2⟩
    | false =>
      have hR := fin s2 q2
      rw [allP_no hm hbi] at hR
      wp_walk
      exact hR
  case fin =>
    rintro ⟨b1, b2⟩ s' ⟨hb', i, hz, hi, hbs, hI⟩
    simp only at hb'
    subst hb'
    have hge : min items.size items2.size ≤ i := by
      rcases Nat.lt_or_ge i (items.toList.zip items2.toList).length with h' | h'
      · rw [List.drop_eq_getElem_cons h'] at hz; cases hz
      · exact hZ ▸ h'
    have hR := fin s' hI
    rw [allP_yes fun j hj => hbs j (by omega)] at hR
    wp_walk
    simpa [Builtin.Tuple.tupleCompareSizes, bne] using hR
  case h =>
    exact ⟨rfl, 0, rfl, Nat.zero_le _, fun j hj => absurd hj (Nat.not_lt_zero _), h0⟩
end
end Hr
namespace Hc
open PySem PySem.Spec PyProof.Rows L2 Hr PySem.SeqAt
section
variable {X : Cx} {n N : Nat} {C : Addr}
def rNeW (C : Addr) (N : Nat) : R2 := fun x y H Q => ∃ d e, W2 C H x y d e ∧ dep d ≤ N ∧ ∀ H', Same H H' → Q (.bl (!eqD d e)) H'

theorem op_eqW (O : OwnS X.prog X.w X.K X.mg X.base n C (spEqG C)) (o : Oth X.K C) (hr : Room (N + n + 1) X.A) : OpR X (compareOp .Eq) (rEqW C N) := by
  intro pins s σ H x y v u Q I rx ry h
  obtain ⟨d, e, w2, hdp, q⟩ := h
  have hx := w2.x
  have hy := w2.y
  have wd := w2.wd
  have we := w2.we
  have zd := w2.zd
  have ze := w2.ze
  have sb0 : Sub X (N + n + 1) X.A := ⟨hr, rfl⟩
  have sb1 : Sub X n X.A.in1 := (sb0.mono (by omega : n + 1 ≤ N + n + 1)).in1
  have sb : Sub X n X.A := sb0.mono (by omega)
  have hu := hr.units0
  have hu1 := sb1.room.units0
  show wpAny (model X.prog X.w) X.A (richCompare .Eq v u) (EP X pins σ Q) X.xe s
  have fin : ∀ (b : Bool), b = (eqD d e) → ∀ s', LoopS X pins σ H s' → EP X pins σ Q (.bool b) s' := fun b hb s' j => by
    obtain ⟨H', I', e'⟩ := j
    rw [hb]
    exact ⟨.bl _, H', I', rfl, q H' e'⟩
  have here : LoopS X pins σ H s := ⟨H, I, Same.refl H⟩
  have own : ∀ {a dx : Addr} {fs : List (Str × V)} {y : V} {v : Value} {d e : D}, H a = some (.ins C dx fs) → Is C H (.ref a) d → Is C H y e → RelV y v → isAt d = true → wrd d = true → wrd e = true → sz d ≤ 1000000 → sz e ≤ 1000000 → Own X.prog X.w X.A X.xe a v (eqD d e) (LoopS X pins σ H) s :=
    fun u1 h1 h2 rv d1 wd we zd ze => own_run O sb I u1 rv ⟨_, _, _, _, rfl, h1, h2, d1, wd, we, zd, ze, fun H' s' => ⟨rfl, s'⟩⟩
  have inst : ∀ {a dx : Addr} {fs : List (Str × V)}, H a = some (.ins C dx fs) → ∃ od, PySem.W.InstAt s.heap a (PySem.W.instObj C dx) C (some od) := fun u1 => by
    obtain ⟨mA, J, _⟩ := ins_get I.hok u1
    obtain ⟨od, J, _⟩ := J.look
    exact ⟨od, J⟩
  have tups : ∀ {a : Addr} {xs : List V}, H a = some (.tup xs) → ∃ its : Array Value, s.heap.IsTuple a its := fun h => by
    obtain ⟨its, r, e, z⟩ := I.tuple (SqT.of h)
    exact ⟨_, e⟩
  have comm : isAt d = false → isAt e = true → eqD e d = eqD d e := fun h1 h2 => by
    cases d <;> cases e <;> first | rfl | (simp [isAt] at h1; done) | (simp [isAt] at h2; done)
  have left : ∀ {a dx : Addr} {fs : List (Str × V)} {T : String}, H a = some (.ins C dx fs) → x = .ref a → s.TypeIs u T → (T = "NoneType" ∨ T = "int" ∨ T = "str" ∨ T = "tuple") → isAt d = true → wpAny (model X.prog X.w) X.A (richCompare .Eq v u) (EP X pins σ Q) X.xe s := fun {a dx fs T} u1 hxa ht1 hT d1 => by
    subst hxa
    cases rx
    obtain ⟨od, J⟩ := inst u1
    exact rc_left (op := .Eq) hu I.kIn J ht1 hT (try_eq (own u1 hx hy ry d1 wd we zd ze)) (fun s' j => fin _ rfl s' j)
  have right : ∀ {c dy : Addr} {gs : List (Str × V)} {T id : String}, H c = some (.ins C dy gs) → y = .ref c → s.TypeIs v T → PySem.W.subIn X.K (.ref C) (.type T) = some false → oneThing? .Eq v (.ref c) = none → Slot T (cmpInfo .Eq).2.1 id →
      wpAny (model X.prog X.w) X.A (call (.builtin id) [v, .ref c]) (fun z s' => z = .notImplemented ∧ s' = s) X.xe s → isAt e = true → isAt d = false → wpAny (model X.prog X.w) X.A (richCompare .Eq v u) (EP X pins σ Q) X.xe s := fun {c dy gs T id} u1 hyc ht1 hT hone sl dec e1 d1 => by
    subst hyc
    cases ry
    obtain ⟨od, J⟩ := inst u1
    exact rc_right (op := .Eq) hu I.kIn J ht1 hT hone sl dec (try_eq (own u1 hy hx rx e1 we wd ze zd)) (fun s' j => fin _ (by rw [comm d1 e1]) s' j)
  have flat : scal x y = true → (decide (x = y)) = ((eqD d e)) → wpAny (model X.prog X.w) X.A (richCompare .Eq v u) (EP X pins σ Q) X.xe s := fun hs he => op_eq pins s σ H x y v u Q I rx ry ⟨hs, by rw [he]; exact q H (Same.refl H)⟩
  cases hx with
  | bl b => cases wd
  | lst _ _ => cases wd
  | dct _ => cases wd
  | @atom a1 dx1 t1 k1 xs1 ds1 u1 v1 i1 =>
    cases hy with
    | bl b => cases we
    | lst _ _ => cases we
    | dct _ => cases we
    | @atom a2 dx2 t2 k2 xs2 ds2 u2 v2 i2 =>
      cases rx
      cases ry
      obtain ⟨od, J⟩ := inst u1
      obtain ⟨od2, J2⟩ := inst u2
      have ow := try_eq (own u1 (.atom u1 v1 i1) (.atom u2 v2 i2) (rfl : RelV (.ref a2) (.ref a2)) rfl wd we zd ze)
      unfold richCompare
      simp only [oneThing_ref]
      refine wpAny_holding (wpAny_bind (wpAny_cRoomFor hu ?_))
      refine wpAny_bind (J.type.here (wpAny_bind (J2.type.here ?_)))
      split
      · rename_i z
        exact absurd z (by simp)
      · refine wpAny_bind (wpAny_pure ?_)
        simp only [Bool.false_eq_true, if_false]
        refine wpAny_bind (wpAny_mono ow (fun r s' z => ?_) fun _ _ z => z)
        obtain ⟨rfl, j⟩ := z
        exact wpAny_pure (fin _ rfl s' j)
    | non => cases ry; exact left u1 rfl rfl (.inl rfl) rfl
    | int j => obtain ⟨t, rfl⟩ := ry; exact left u1 rfl rfl (.inr (.inl rfl)) rfl
    | str z => obtain ⟨t, rfl⟩ := ry; exact left u1 rfl rfl (.inr (.inr (.inl rfl))) rfl
    | tup h2 i2 =>
      cases ry
      obtain ⟨its, oo, ho, hc, _⟩ := tups h2
      exact left u1 rfl ⟨oo, ho, hc⟩ (.inr (.inr (.inr rfl))) rfl
  | non =>
    cases rx
    cases hy with
    | bl b => cases we
    | lst _ _ => cases we
    | dct _ => cases we
    | non => exact flat rfl (by simp [eqD])
    | int j => exact flat rfl (by simp [eqD])
    | str z => exact flat rfl (by simp [eqD])
    | tup h2 i2 =>
      cases ry
      obtain ⟨its, hi⟩ := tups h2
      exact RcAt.none_tuple hi hu _ _ _ _ (fin _ rfl s here)
    | @atom c dy _ _ _ _ u2 _ _ => exact right u2 rfl rfl o.sN rfl F.slot_NoneType_eq (call_gives F.slot_NoneType_eq rfl F.entry_NoneType_eq (F.args_NoneType_eq_2 _ _) (NoneType___eq___none_ref_0 c) ⟨rfl, rfl⟩) rfl rfl
  | int i =>
    obtain ⟨t, rfl⟩ := rx
    cases hy with
    | bl b => cases we
    | lst _ _ => cases we
    | dct _ => cases we
    | non => exact flat rfl (by simp [eqD])
    | int j => exact flat rfl (by simp [eqD])
    | str z => exact flat rfl (by simp [eqD])
    | tup h2 i2 =>
      cases ry
      obtain ⟨its, hi⟩ := tups h2
      exact RcAt.int_tuple i t hi hu _ _ _ _ (fin _ rfl s here)
    | @atom c dy _ _ _ _ u2 _ _ =>
      obtain ⟨od, J⟩ := inst u2
      exact right u2 rfl rfl o.sI rfl F.slot_int_eq (call_meets F.slot_int_eq rfl F.entry_int_eq (F.args_int_eq_2 _ _) (int_eq_inst i t c C dy) ⟨J.at_, rfl, rfl⟩) rfl rfl
  | str z0 =>
    obtain ⟨t, rfl⟩ := rx
    cases hy with
    | bl b => cases we
    | lst _ _ => cases we
    | dct _ => cases we
    | non => exact flat rfl (by simp [eqD])
    | int j => exact flat rfl (by simp [eqD])
    | str z => exact flat rfl (by simp [eqD])
    | tup h2 i2 =>
      cases ry
      obtain ⟨its, hi⟩ := tups h2
      exact RcAt.str_tuple z0 t hi hu _ _ _ _ (fin _ rfl s here)
    | @atom c dy _ _ _ _ u2 _ _ =>
      obtain ⟨od, J⟩ := inst u2
      exact right u2 rfl rfl o.sS rfl F.slot_str_eq (call_meets F.slot_str_eq rfl F.entry_str_eq (F.args_str_eq_2 _ _) (str_eq_inst z0 t c C dy) ⟨J.at_, rfl, rfl⟩) rfl rfl
  | @tup a1 xs1 ds1 h1 i1 =>
    cases rx
    obtain ⟨its, hi⟩ := tups h1
    cases hy with
    | bl b => cases we
    | lst _ _ => cases we
    | dct _ => cases we
    | non => cases ry; exact RcAt.tuple_none hi hu _ _ _ _ (fin _ rfl s here)
    | int j => obtain ⟨t, rfl⟩ := ry; exact RcAt.tuple_int j t hi hu _ _ _ _ (fin _ rfl s here)
    | str z => obtain ⟨t, rfl⟩ := ry; exact RcAt.tuple_str z t hi hu _ _ _ _ (fin _ rfl s here)
    | @atom c dy _ _ _ _ u2 _ _ =>
      obtain ⟨od, J⟩ := inst u2
      obtain ⟨⟨cls, dd, data, sl⟩, ho, hc, k, hd⟩ := id hi
      simp only at hc hd
      subst hc hd
      exact right u2 rfl ⟨_, ho, rfl⟩ o.sT (oneThing_ref _ _ _) F.slot_tuple_eq (GQ.call_here F.slot_tuple_eq ⟨_, ho, rfl⟩ F.entry_tuple_eq (F.args_tuple_eq_2 _ _) (tup_eq_inst (PySem.W.looks_subIn I.kIn o.sT) J.at_ ho ⟨rfl, rfl⟩)) rfl rfl
    | @tup a2 ys1 es1 h2 i2 =>
      cases ry
      obtain ⟨its, r, eT, z⟩ := I.tuple (SqT.of h1)
      obtain ⟨its2, r2, eT2, z2⟩ := I.tuple (SqT.of h2)
      simp only [wrd] at wd we
      simp only [sz] at zd ze
      have l1 := r.length
      have l2 := r2.length
      have l3 := i1.len
      have l4 := i2.len
      obtain ⟨⟨cls, dd, data, sl⟩, ho, hc, n1, hd1⟩ := id eT
      obtain ⟨⟨cls2, dd2, data2, sl2⟩, ho2, hc2, n2, hd2⟩ := id eT2
      simp only at hc hd1 hc2 hd2
      subst hc hd1 hc2 hd2
      have hdep : depL ds1 ≤ N := by simp only [dep] at hdp; omega
      have pair : ∀ i (k1 : i < its.toArray.size) (k2 : i < its2.toArray.size) s1, LoopS X pins σ H s1 → wpAny (model X.prog X.w) X.A.in1 (eqBool its.toArray[i] its2.toArray[i]) (fun r s' => r = (match ds1[i]?, es1[i]? with | some d, some e => eqD d e | _, _ => false) ∧ LoopS X pins σ H s') X.xe s1 := fun i k1 k2 s1 j => by
        obtain ⟨H1, I1, e1⟩ := j
        have k1' : i < its.length := by simpa using k1
        have k2' : i < its2.length := by simpa using k2
        obtain ⟨p, hp, rp⟩ := r.get (List.getElem?_eq_getElem (show i < xs1.length by omega))
        obtain ⟨q, hq, rq⟩ := r2.get (List.getElem?_eq_getElem (show i < ys1.length by omega))
        rw [List.getElem?_eq_getElem k1'] at hp
        rw [List.getElem?_eq_getElem k2'] at hq
        have ep : its.toArray[i] = p := by simpa using Option.some.inj hp
        have eq : its2.toArray[i] = q := by simpa using Option.some.inj hq
        obtain ⟨d', hd', ix⟩ := i1.at (List.getElem?_eq_getElem (show i < xs1.length by omega))
        obtain ⟨e', he', iy⟩ := i2.at (List.getElem?_eq_getElem (show i < ys1.length by omega))
        have md := List.mem_of_getElem? hd'
        have me := List.mem_of_getElem? he'
        have s1' := szL_mem md
        have s2' := szL_mem me
        rw [ep, eq, hd', he']
        refine wpAny_mono (eqW O o N (A := X.A.in1) sb0.in1 (Nat.le_trans (depL_mem md) hdep) I1 rp rq ⟨ix.same e1, iy.same e1, wrdL_mem wd md, wrdL_mem we me, by omega, by omega⟩) (fun r s2 q2 => ?_) fun _ _ z => z
        obtain ⟨hr, H2, I2, e2⟩ := q2
        exact ⟨hr, H2, I2, e1.trans e2⟩
      have hall : allP (fun i => match ds1[i]?, es1[i]? with | some d, some e => eqD d e | _, _ => false) its.toArray.size its2.toArray.size = eqL ds1 es1 := by
        rw [List.size_toArray, List.size_toArray, ← l1, ← l2, l3, l4]
        exact eqL_all _ fun i d' e' h1 h2 => by simp only [h1, h2]
      refine wpAny_richCompare_same_room (op := .Eq) ⟨_, ho, rfl⟩ ⟨_, ho2, rfl⟩ F.slot_tuple_eq (GQ.call_here F.slot_tuple_eq ⟨_, ho, rfl⟩ F.entry_tuple_eq (F.args_tuple_eq_2 _ _) ?_) hu
      exact tup_eqB (R := wants (fun z s' => z ≠ .notImplemented ∧ EP X pins σ Q z s') X.xe) pair (fun s' j => ⟨(fun z => nomatch z), fin _ (by rw [hall]; rfl) s' j⟩) ho ho2 here

theorem op_neW (O : OwnS X.prog X.w X.K X.mg X.base n C (spEqG C)) (o : Oth X.K C) (hr : Room (N + n + 1) X.A) : OpR X (compareOp .NotEq) (rNeW C N) := by
  intro pins s σ H x y v u Q I rx ry h
  obtain ⟨d, e, w2, hdp, q⟩ := h
  have hx := w2.x
  have hy := w2.y
  have wd := w2.wd
  have we := w2.we
  have zd := w2.zd
  have ze := w2.ze
  have sb0 : Sub X (N + n + 1) X.A := ⟨hr, rfl⟩
  have sb1 : Sub X n X.A.in1 := (sb0.mono (by omega : n + 1 ≤ N + n + 1)).in1
  have sb : Sub X n X.A := sb0.mono (by omega)
  have hu := hr.units0
  have hu1 := sb1.room.units0
  show wpAny (model X.prog X.w) X.A (richCompare .NotEq v u) (EP X pins σ Q) X.xe s
  have fin : ∀ (b : Bool), b = !(eqD d e) → ∀ s', LoopS X pins σ H s' → EP X pins σ Q (.bool b) s' := fun b hb s' j => by
    obtain ⟨H', I', e'⟩ := j
    rw [hb]
    exact ⟨.bl _, H', I', rfl, q H' e'⟩
  have here : LoopS X pins σ H s := ⟨H, I, Same.refl H⟩
  have own : ∀ {a dx : Addr} {fs : List (Str × V)} {y : V} {v : Value} {d e : D}, H a = some (.ins C dx fs) → Is C H (.ref a) d → Is C H y e → RelV y v → isAt d = true → wrd d = true → wrd e = true → sz d ≤ 1000000 → sz e ≤ 1000000 → Own X.prog X.w X.A.in1 X.xe a v (eqD d e) (LoopS X pins σ H) s :=
    fun u1 h1 h2 rv d1 wd we zd ze => own_run O sb1 I u1 rv ⟨_, _, _, _, rfl, h1, h2, d1, wd, we, zd, ze, fun H' s' => ⟨rfl, s'⟩⟩
  have inst : ∀ {a dx : Addr} {fs : List (Str × V)}, H a = some (.ins C dx fs) → ∃ od, PySem.W.InstAt s.heap a (PySem.W.instObj C dx) C (some od) := fun u1 => by
    obtain ⟨mA, J, _⟩ := ins_get I.hok u1
    obtain ⟨od, J, _⟩ := J.look
    exact ⟨od, J⟩
  have tups : ∀ {a : Addr} {xs : List V}, H a = some (.tup xs) → ∃ its : Array Value, s.heap.IsTuple a its := fun h => by
    obtain ⟨its, r, e, z⟩ := I.tuple (SqT.of h)
    exact ⟨_, e⟩
  have comm : isAt d = false → isAt e = true → eqD e d = eqD d e := fun h1 h2 => by
    cases d <;> cases e <;> first | rfl | (simp [isAt] at h1; done) | (simp [isAt] at h2; done)
  have left : ∀ {a dx : Addr} {fs : List (Str × V)} {T : String}, H a = some (.ins C dx fs) → x = .ref a → s.TypeIs u T → (T = "NoneType" ∨ T = "int" ∨ T = "str" ∨ T = "tuple") → isAt d = true → wpAny (model X.prog X.w) X.A (richCompare .NotEq v u) (EP X pins σ Q) X.xe s := fun {a dx fs T} u1 hxa ht1 hT d1 => by
    subst hxa
    cases rx
    obtain ⟨od, J⟩ := inst u1
    exact rc_left (op := .NotEq) hu I.kIn J ht1 hT (try_ne hu hu1 I.kIn J o (own u1 hx hy ry d1 wd we zd ze)) (fun s' j => fin _ rfl s' j)
  have right : ∀ {c dy : Addr} {gs : List (Str × V)} {T id : String}, H c = some (.ins C dy gs) → y = .ref c → s.TypeIs v T → PySem.W.subIn X.K (.ref C) (.type T) = some false → oneThing? .NotEq v (.ref c) = none → Slot T (cmpInfo .NotEq).2.1 id →
      wpAny (model X.prog X.w) X.A (call (.builtin id) [v, .ref c]) (fun z s' => z = .notImplemented ∧ s' = s) X.xe s → isAt e = true → isAt d = false → wpAny (model X.prog X.w) X.A (richCompare .NotEq v u) (EP X pins σ Q) X.xe s := fun {c dy gs T id} u1 hyc ht1 hT hone sl dec e1 d1 => by
    subst hyc
    cases ry
    obtain ⟨od, J⟩ := inst u1
    exact rc_right (op := .NotEq) hu I.kIn J ht1 hT hone sl dec (try_ne hu hu1 I.kIn J o (own u1 hy hx rx e1 we wd ze zd)) (fun s' j => fin _ (by rw [comm d1 e1]) s' j)
  have flat : scal x y = true → (!decide (x = y)) = (!(eqD d e)) → wpAny (model X.prog X.w) X.A (richCompare .NotEq v u) (EP X pins σ Q) X.xe s := fun hs he => op_ne pins s σ H x y v u Q I rx ry ⟨hs, by rw [he]; exact q H (Same.refl H)⟩
  cases hx with
  | bl b => cases wd
  | lst _ _ => cases wd
  | dct _ => cases wd
  | @atom a1 dx1 t1 k1 xs1 ds1 u1 v1 i1 =>
    cases hy with
    | bl b => cases we
    | lst _ _ => cases we
    | dct _ => cases we
    | @atom a2 dx2 t2 k2 xs2 ds2 u2 v2 i2 =>
      cases rx
      cases ry
      obtain ⟨od, J⟩ := inst u1
      obtain ⟨od2, J2⟩ := inst u2
      have ow := try_ne hu hu1 I.kIn J o (own u1 (.atom u1 v1 i1) (.atom u2 v2 i2) (rfl : RelV (.ref a2) (.ref a2)) rfl wd we zd ze)
      unfold richCompare
      simp only [oneThing_ref]
      refine wpAny_holding (wpAny_bind (wpAny_cRoomFor hu ?_))
      refine wpAny_bind (J.type.here (wpAny_bind (J2.type.here ?_)))
      split
      · rename_i z
        exact absurd z (by simp)
      · refine wpAny_bind (wpAny_pure ?_)
        simp only [Bool.false_eq_true, if_false]
        refine wpAny_bind (wpAny_mono ow (fun r s' z => ?_) fun _ _ z => z)
        obtain ⟨rfl, j⟩ := z
        exact wpAny_pure (fin _ rfl s' j)
    | non => cases ry; exact left u1 rfl rfl (.inl rfl) rfl
    | int j => obtain ⟨t, rfl⟩ := ry; exact left u1 rfl rfl (.inr (.inl rfl)) rfl
    | str z => obtain ⟨t, rfl⟩ := ry; exact left u1 rfl rfl (.inr (.inr (.inl rfl))) rfl
    | tup h2 i2 =>
      cases ry
      obtain ⟨its, oo, ho, hc, _⟩ := tups h2
      exact left u1 rfl ⟨oo, ho, hc⟩ (.inr (.inr (.inr rfl))) rfl
  | non =>
    cases rx
    cases hy with
    | bl b => cases we
    | lst _ _ => cases we
    | dct _ => cases we
    | non => exact flat rfl (by simp [eqD])
    | int j => exact flat rfl (by simp [eqD])
    | str z => exact flat rfl (by simp [eqD])
    | tup h2 i2 =>
      cases ry
      obtain ⟨its, hi⟩ := tups h2
      exact RcNeAt.none_tuple hi hu _ _ _ _ (fin _ rfl s here)
    | @atom c dy _ _ _ _ u2 _ _ => exact right u2 rfl rfl o.sN rfl F.slot_NoneType_ne (call_gives F.slot_NoneType_ne rfl F.entry_NoneType_ne (F.args_NoneType_ne_2 _ _) (NoneType___ne___none_ref_0 c) ⟨rfl, rfl⟩) rfl rfl
  | int i =>
    obtain ⟨t, rfl⟩ := rx
    cases hy with
    | bl b => cases we
    | lst _ _ => cases we
    | dct _ => cases we
    | non => exact flat rfl (by simp [eqD])
    | int j => exact flat rfl (by simp [eqD])
    | str z => exact flat rfl (by simp [eqD])
    | tup h2 i2 =>
      cases ry
      obtain ⟨its, hi⟩ := tups h2
      exact RcNeAt.int_tuple i t hi hu _ _ _ _ (fin _ rfl s here)
    | @atom c dy _ _ _ _ u2 _ _ =>
      obtain ⟨od, J⟩ := inst u2
      exact right u2 rfl rfl o.sI rfl F.slot_int_ne (call_meets F.slot_int_ne rfl F.entry_int_ne (F.args_int_ne_2 _ _) (int_ne_inst i t c C dy) ⟨J.at_, rfl, rfl⟩) rfl rfl
  | str z0 =>
    obtain ⟨t, rfl⟩ := rx
    cases hy with
    | bl b => cases we
    | lst _ _ => cases we
    | dct _ => cases we
    | non => exact flat rfl (by simp [eqD])
    | int j => exact flat rfl (by simp [eqD])
    | str z => exact flat rfl (by simp [eqD])
    | tup h2 i2 =>
      cases ry
      obtain ⟨its, hi⟩ := tups h2
      exact RcNeAt.str_tuple z0 t hi hu _ _ _ _ (fin _ rfl s here)
    | @atom c dy _ _ _ _ u2 _ _ =>
      obtain ⟨od, J⟩ := inst u2
      exact right u2 rfl rfl o.sS rfl F.slot_str_ne (call_meets F.slot_str_ne rfl F.entry_str_ne (F.args_str_ne_2 _ _) (str_ne_inst z0 t c C dy) ⟨J.at_, rfl, rfl⟩) rfl rfl
  | @tup a1 xs1 ds1 h1 i1 =>
    cases rx
    obtain ⟨its, hi⟩ := tups h1
    cases hy with
    | bl b => cases we
    | lst _ _ => cases we
    | dct _ => cases we
    | non => cases ry; exact RcNeAt.tuple_none hi hu _ _ _ _ (fin _ rfl s here)
    | int j => obtain ⟨t, rfl⟩ := ry; exact RcNeAt.tuple_int j t hi hu _ _ _ _ (fin _ rfl s here)
    | str z => obtain ⟨t, rfl⟩ := ry; exact RcNeAt.tuple_str z t hi hu _ _ _ _ (fin _ rfl s here)
    | @atom c dy _ _ _ _ u2 _ _ =>
      obtain ⟨od, J⟩ := inst u2
      obtain ⟨⟨cls, dd, data, sl⟩, ho, hc, k, hd⟩ := id hi
      simp only at hc hd
      subst hc hd
      exact right u2 rfl ⟨_, ho, rfl⟩ o.sT (oneThing_ref _ _ _) F.slot_tuple_ne (GQ.call_here F.slot_tuple_ne ⟨_, ho, rfl⟩ F.entry_tuple_ne (F.args_tuple_ne_2 _ _) (tup_ne_inst (PySem.W.looks_subIn I.kIn o.sT) J.at_ ho ⟨rfl, rfl⟩)) rfl rfl
    | @tup a2 ys1 es1 h2 i2 =>
      cases ry
      obtain ⟨its, r, eT, z⟩ := I.tuple (SqT.of h1)
      obtain ⟨its2, r2, eT2, z2⟩ := I.tuple (SqT.of h2)
      simp only [wrd] at wd we
      simp only [sz] at zd ze
      have l1 := r.length
      have l2 := r2.length
      have l3 := i1.len
      have l4 := i2.len
      obtain ⟨⟨cls, dd, data, sl⟩, ho, hc, n1, hd1⟩ := id eT
      obtain ⟨⟨cls2, dd2, data2, sl2⟩, ho2, hc2, n2, hd2⟩ := id eT2
      simp only at hc hd1 hc2 hd2
      subst hc hd1 hc2 hd2
      have hdep : depL ds1 ≤ N := by simp only [dep] at hdp; omega
      have pair : ∀ i (k1 : i < its.toArray.size) (k2 : i < its2.toArray.size) s1, LoopS X pins σ H s1 → wpAny (model X.prog X.w) X.A.in1 (eqBool its.toArray[i] its2.toArray[i]) (fun r s' => r = (match ds1[i]?, es1[i]? with | some d, some e => eqD d e | _, _ => false) ∧ LoopS X pins σ H s') X.xe s1 := fun i k1 k2 s1 j => by
        obtain ⟨H1, I1, e1⟩ := j
        have k1' : i < its.length := by simpa using k1
        have k2' : i < its2.length := by simpa using k2
        obtain ⟨p, hp, rp⟩ := r.get (List.getElem?_eq_getElem (show i < xs1.length by omega))
        obtain ⟨q, hq, rq⟩ := r2.get (List.getElem?_eq_getElem (show i < ys1.length by omega))
        rw [List.getElem?_eq_getElem k1'] at hp
        rw [List.getElem?_eq_getElem k2'] at hq
        have ep : its.toArray[i] = p := by simpa using Option.some.inj hp
        have eq : its2.toArray[i] = q := by simpa using Option.some.inj hq
        obtain ⟨d', hd', ix⟩ := i1.at (List.getElem?_eq_getElem (show i < xs1.length by omega))
        obtain ⟨e', he', iy⟩ := i2.at (List.getElem?_eq_getElem (show i < ys1.length by omega))
        have md := List.mem_of_getElem? hd'
        have me := List.mem_of_getElem? he'
        have s1' := szL_mem md
        have s2' := szL_mem me
        rw [ep, eq, hd', he']
        refine wpAny_mono (eqW O o N (A := X.A.in1) sb0.in1 (Nat.le_trans (depL_mem md) hdep) I1 rp rq ⟨ix.same e1, iy.same e1, wrdL_mem wd md, wrdL_mem we me, by omega, by omega⟩) (fun r s2 q2 => ?_) fun _ _ z => z
        obtain ⟨hr, H2, I2, e2⟩ := q2
        exact ⟨hr, H2, I2, e1.trans e2⟩
      have hall : allP (fun i => match ds1[i]?, es1[i]? with | some d, some e => eqD d e | _, _ => false) its.toArray.size its2.toArray.size = eqL ds1 es1 := by
        rw [List.size_toArray, List.size_toArray, ← l1, ← l2, l3, l4]
        exact eqL_all _ fun i d' e' h1 h2 => by simp only [h1, h2]
      refine wpAny_richCompare_same_room (op := .NotEq) ⟨_, ho, rfl⟩ ⟨_, ho2, rfl⟩ F.slot_tuple_ne (GQ.call_here F.slot_tuple_ne ⟨_, ho, rfl⟩ F.entry_tuple_ne (F.args_tuple_ne_2 _ _) ?_) hu
      exact tup_neB (R := wants (fun z s' => z ≠ .notImplemented ∧ EP X pins σ Q z s') X.xe) pair (fun s' j => ⟨(fun z => nomatch z), fin _ (by rw [hall]; rfl) s' j⟩) ho ho2 here
end
end Hc

namespace Hc
open PySem PySem.Spec PyProof.Rows L2 Hr
theorem room64 {k : Nat} {A : Around} (hr : Room k A) : A.units + 64 < cLine := by
  have := hr.un
  omega
mutual
/-- the datum in the words of the library -/
def pyd : D → PyData
  | .non => .none | .bl b => .bool b | .int i => .int i | .str s => .str s
  | .tup ds => .tuple (pydL ds)
  | .lst ds => .list (pydL ds)
  | _ => .none
def pydL : List D → List PyData
  | [] => []
  | d :: ds => pyd d :: pydL ds
end
mutual
def pln : D → Bool
  | .tup ds => plnL ds
  | .lst ds => plnL ds
  | .str s => PyData.strOk s
  | .dct => false
  | .atom _ _ => false
  | _ => true
def plnL : List D → Bool
  | [] => true
  | d :: ds => pln d && plnL ds
end
mutual
theorem is_dp {K : PySem.W.Frag} {C : Addr} {H : Hp} : ∀ {x : V} {d : D}, pln d = true → Is C H x d → Dp K H x (pyd d)
  | _, _, _, .non => .non
  | _, _, _, .bl b => .bl b
  | _, _, _, .int i => .int i
  | _, _, _, .str s => .str s
  | _, _, c, .tup h t => .tup (SqT.of h) (isA_dp (by simpa [pln] using c) t)
  | _, _, c, .lst h t => .lst (SqL.of h) (isA_dp (by simpa [pln] using c) t)
  | _, _, c, .dct _ => by simp [pln] at c
  | _, _, c, .atom _ _ _ => by simp [pln] at c
theorem isA_dp {K : PySem.W.Frag} {C : Addr} {H : Hp} : ∀ {xs : List V} {ds : List D}, plnL ds = true → IsA C H xs ds → DpAll K H xs (pydL ds)
  | _, _, _, .nil => .nil
  | _, _, c, .cons h t => by
    simp only [plnL, Bool.and_eq_true] at c
    exact .cons (is_dp c.1 h) (isA_dp c.2 t)
end
mutual
def dpt : D → Nat
  | .tup ds => dptL ds + 1
  | .lst ds => dptL ds + 1
  | _ => 0
def dptL : List D → Nat
  | [] => 0
  | d :: ds => max (dpt d) (dptL ds)
end
mutual
theorem pyd_lay : ∀ d : D, pln d = true → PyData.canLay0 (pyd d) = true ∧ PyData.depth (pyd d) ≤ dpt d
  | .tup ds, h => by
    have := pydL_lay ds (by simpa [pln] using h)
    simp only [pyd, PyData.canLay0, PyData.depth, dpt]; exact ⟨this.1, by omega⟩
  | .lst ds, h => by
    have := pydL_lay ds (by simpa [pln] using h)
    simp only [pyd, PyData.canLay0, PyData.depth, dpt]; exact ⟨this.1, by omega⟩
  | .non, _ => by simp [pyd, PyData.canLay0, PyData.depth]
  | .bl _, _ => by simp [pyd, PyData.canLay0, PyData.depth]
  | .int _, _ => by simp [pyd, PyData.canLay0, PyData.depth]
  | .str s, h => by simp only [pyd, PyData.canLay0, PyData.depth]; exact ⟨by simpa [pln] using h, Nat.zero_le _⟩
  | .dct, h => by simp [pln] at h
  | .atom _ _, h => by simp [pln] at h
theorem pydL_lay : ∀ ds : List D, plnL ds = true → PyData.canLayAll0 (pydL ds) = true ∧ PyData.depthAll (pydL ds) ≤ dptL ds
  | [], _ => by simp [pydL, PyData.canLayAll0, PyData.depthAll]
  | d :: ds, h => by
    simp only [plnL, Bool.and_eq_true] at h
    have h1 := pyd_lay d h.1
    have h2 := pydL_lay ds h.2
    simp only [pydL, PyData.canLayAll0, PyData.depthAll, dptL, Bool.and_eq_true]
    exact ⟨⟨h1.1, h2.1⟩, by omega⟩
end
theorem pyd_shaped {d : D} (h : pln d = true) (k : dpt d ≤ 64) : SeqAt.shaped (pyd d) = true := by
  have := pyd_lay d h
  unfold SeqAt.shaped
  rw [this.1, decide_eq_true (Nat.le_trans this.2 k)]; rfl
theorem eqv_nil (ds : List D) : PyData.eqv (.list (pydL ds)) (.list []) = ds.isEmpty := by
  cases ds <;> simp [pydL, PyData.eqv, PyData.eqvAll]
theorem room65 {k : Nat} {A : Around} (hr : Room k A) : A.units + 65 < cLine := by
  have := hr.un
  omega
/-- x in t, x not in t, a tuple of data -/
def rInTD (K : PySem.W.Frag) (g : Bool → Bool) : R2 := fun x y H Q => ∃ d ds, Dp K H x d ∧ Dp K H y (.tuple ds) ∧ SeqAt.shaped d = true ∧ SeqAt.shaped (.tuple ds) = true ∧ Q (.bl (g (ds.any fun z => PyData.eqv z d))) H
theorem op_inTD {X : Cx} (hu : X.A.units + 65 < cLine) : OpR X (compareOp .In) (rInTD X.K id) := by
  intro pins s σ H x y v u Q I rx ry h
  obtain ⟨d, ds, hd, he, sd, se, q⟩ := h
  obtain ⟨as, r1⟩ := Dp.reads I d x v hd rx
  obtain ⟨bs, r2⟩ := Dp.reads I (.tuple ds) y u he ry
  exact SeqAt.in_tuple_reads r2 r1 (SeqAt.canLay_of_shaped se) (SeqAt.canLay_of_shaped sd) (room_in_shaped sd hu) ⟨.bl _, H, I, rfl, q⟩
theorem op_notInTD {X : Cx} (hu : X.A.units + 65 < cLine) : OpR X (compareOp .NotIn) (rInTD X.K not) := by
  intro pins s σ H x y v u Q I rx ry h
  obtain ⟨d, ds, hd, he, sd, se, q⟩ := h
  obtain ⟨as, r1⟩ := Dp.reads I d x v hd rx
  obtain ⟨bs, r2⟩ := Dp.reads I (.tuple ds) y u he ry
  exact SeqAt.notIn_tuple_reads r2 r1 (SeqAt.canLay_of_shaped se) (SeqAt.canLay_of_shaped sd) (room_in_shaped sd hu) ⟨.bl _, H, I, rfl, q⟩
/-- the class Verifier at N -/
structure VrC (K : PySem.W.Frag) (mg : Str → Option Value) (N : Addr) : Prop where
  cl : Cls K N
  g_Verifier : mg "Verifier" = some (.ref N)
  n1 : NoAttr K N "_name"
  n2 : NoAttr K N "_monitors"
  n3 : NoAttr K N "_measures"
  n4 : NoAttr K N "_given"
  n5 : NoAttr K N "_waiting"
def vrF (nm : Str) (mo me : Addr) (g : Int) (l : Addr) : List (Str × V) := [("_name", .str nm), ("_monitors", .ref mo), ("_measures", .ref me), ("_given", .int g), ("_waiting", .ref l)]
/-- a verifier at p -/
def Vf (N : Addr) (H : Hp) (p : Addr) (nm : Str) (mo me : Addr) (g : Int) (l : Addr) : Prop := ∃ dx, H p = some (.ins N dx (vrF nm mo me g l))
theorem Vf.same {N : Addr} {H H' : Hp} {p : Addr} {nm : Str} {mo me : Addr} {g : Int} {l : Addr} (s : Same H H') (h : Vf N H p nm mo me g l) : Vf N H' p nm mo me g l := by
  obtain ⟨dx, h⟩ := h
  exact ⟨dx, s _ _ h⟩
/-- all but p and l stays -/
def Bu (p l : Addr) (H H' : Hp) : Prop := ∀ b o, H b = some o → b ≠ p → b ≠ l → H' b = some o
def spVI (N : Addr) : Sp := fun vs H Q _ => ∃ p dx nm mo me, vs = [.ref p, .str nm, .ref mo, .ref me] ∧ H p = some (.ins N dx []) ∧ txtOk nm = true ∧ nm.length ≤ sizeLine ∧
  ∀ H' l, H l = none → H' l = some (.lst []) → Vf N H' p nm mo me 0 l → (∀ b o, H b = some o → b ≠ p → H' b = some o) → Q .non H'
def spVC (N C : Addr) : Sp := fun vs H Q _ => ∃ p nm mo me g l xs, vs = [.ref p] ∧ Vf N H p nm mo me g l ∧ H l = some (.lst xs) ∧ xs.length ≤ 1000 ∧ txtOk nm = true ∧ nm.length ≤ sizeLine ∧ 0 ≤ g ∧ g ≤ 1000 ∧
  ∀ H' a, H a = none → Is C H' (.ref a) (.atom "challenge" [.str nm, .int g]) → Vf N H' p nm mo me (g + 1) l → H' l = some (.lst (xs ++ [.ref a])) → Bu p l H H' → Q (.ref a) H'
def spVO (N C : Addr) : Sp := fun vs H Q _ => ∃ p nm mo me g l x xs ds d, vs = [.ref p, x] ∧ Vf N H p nm mo me g l ∧ H l = some (.lst xs) ∧ IsA C H xs ds ∧ Is C H x d ∧ wrd d = true ∧ wrdL ds = true ∧ depL ds ≤ 0 ∧ sz d ≤ 1000000 ∧ szL ds ≤ 1000000 ∧
  ∀ H', Same H H' → Q (.bl (isAt d && ds.any fun e => eqD e d)) H'
def spVS (N : Addr) : Sp := fun vs H Q _ => ∃ p nm mo me g l xs, vs = [.ref p] ∧ Vf N H p nm mo me g l ∧ H l = some (.lst xs) ∧ ∀ m, H m = none → Q (.ref m) (upd H m (.lst xs))
/-- the parts of a token, none for all else -/
def tokP : D → Option (D × D × D)
  | .atom k [a, b, c] => if k = "token" then some (a, b, c) else none
  | _ => none
/-- a word as it is offered: a token's measure is a tuple without atoms -/
def Off3 (d : D) : Prop := match d with | .atom k es => k = "token" → ∃ m md ch, es = [.str m, md, ch] ∧ pln md = true ∧ dpt md ≤ 60 ∧ isTu md = true ∧ wrd ch = true ∧ sz ch ≤ 1000000 | _ => True
def takes (ms : List Str) (Ms : List D) (open_ : List D) (d : D) : Bool := match d with
  | .atom k [.str m, md, ch] => decide (k = "token") && ms.any (fun z => decide (z = m)) && (pydL Ms).any (fun z => PyData.eqv z (pyd md)) && (isAt ch && open_.any fun e => eqD e ch)
  | _ => false
def spVT (N C : Addr) : Sp := fun vs H Q _ => ∃ p nm mo me g l x xs ds d ms ys Ms, vs = [.ref p, x] ∧ Vf N H p nm mo me g l ∧ H l = some (.lst xs) ∧ IsA C H xs ds ∧ Is C H x d ∧ wrdL ds = true ∧ depL ds ≤ 0 ∧ szL ds ≤ 1000000 ∧ ds.length ≤ 1000 ∧ Off3 d ∧
  H mo = some (.tup (ms.map V.str)) ∧ H me = some (.tup ys) ∧ IsA C H ys Ms ∧ plnL Ms = true ∧ dptL Ms ≤ 60 ∧
  (takes ms Ms ds d = false → ∀ H', Same H H' → Q (.bl false) H') ∧
  (∀ m md ch, d = .atom "token" [.str m, md, ch] → takes ms Ms ds d = true → ∀ H' l' zs, H l' = none → Vf N H' p nm mo me g l' → H' l' = some (.lst zs) → IsA C H' zs (ds.filter fun e => !eqD e ch) → (∀ b o, H b = some o → b ≠ p → H' b = some o) → Q (.bl true) H')
end Hc

namespace Hc
open PySem PySem.Spec PyProof.Rows L2 Hr PySem.SeqAt
open AutoSeq1 (wpAny_loadPart')
open MeetsSeq MeetsSeq2 MeetsSeq3 SeqRoads2
/-! ### != of lists whose items' == runs code, all equal -/
section
variable {prog : Program} {w : World} {A : Around} {R : Result → Shared → Prop}
theorem ne_loopG (l b : Addr) (N : Nat) (I : Nat → Shared → Prop) (hl : GQ.ListI prog w A (fun e s' => R (.error e) s') l b N I)
    (fin : ∀ s, I N s → R (.ok (.ret (.bool false))) s) (k : Nat) :
    ∀ i : Nat, N - i = k → i ≤ N → ∀ s, I i s →
      wpAny (model prog w) A.in1 (Builtin.«list.__eq__.loop» ⟨[.ref l, .ref b, rawInt i, rawInt 3], []⟩) (GQ.FinOf prog w A R) (fun e s' => R (.error e) s') s := by
  induction k with
  | zero =>
    intro i hk hi s h
    obtain ⟨items, items2, n, n2, hl1, hb1, hs1, hs2, _⟩ := hl _ _ h
    have hi' : i = N := by omega
    have hR : R (.ok (.ret (.bool false))) s := fin s (hi' ▸ h)
    obtain ⟨hp, g, d, tk, os⟩ := s
    wp_walk using wpAny_loadPart' hl1, wpAny_loadPart' hb1
    have hi1 : items[((i : Nat) : Int).toNat]? = none := by simp; omega
    have hi2 : items2[((i : Nat) : Int).toNat]? = none := by simp; omega
    rw [hi1, hi2]
    wp_walk using wpAny_loadPart' hl1, wpAny_loadPart' hb1
    show R (.ok (.ret (.bool (items.size != items2.size)))) _
    rw [hs1, hs2]
    simpa using hR
  | succ k ih =>
    intro i hk hi s h
    obtain ⟨items, items2, n, n2, hl1, hb1, hs1, hs2, turn⟩ := hl _ _ h
    have hlt : i < items.size := by omega
    have hlt2 : i < items2.size := by omega
    have ht := turn hlt hlt2
    obtain ⟨hp, g, d, tk, os⟩ := s
    wp_walk using wpAny_loadPart' hl1, wpAny_loadPart' hb1
    have hi1 : items[((i : Nat) : Int).toNat]? = some items[i] := by simp [hlt]
    have hi2 : items2[((i : Nat) : Int).toNat]? = some items2[i] := by simp [hlt2]
    have hc : ((i : Int) + 1) = ((i + 1 : Nat) : Int) := by omega
    rw [hi1, hi2]
    refine wpAny_bind (wpAny_mono ht (fun r s2 h2 => ?_) fun _ _ x => x)
    obtain ⟨hr, h2⟩ := h2
    subst hr
    have hrec := ih (i + 1) (by omega) (by omega) s2 h2
    obtain ⟨hp2, g2, d2, tk2, os2⟩ := s2
    wp_walk
    rw [hc]
    exact ⟨plainId_quiet plain_eq_loop _, codeAny_builtin entry_eq_loop (by
      rw [Around.under_plainId plain_eq_loop _]
      exact hrec)⟩
theorem list_neG (l b : Addr) (N : Nat) (I : Nat → Shared → Prop) (hl : GQ.ListI prog w A (fun e s' => R (.error e) s') l b N I)
    (fin : ∀ s, I N s → R (.ok (.ret (.bool false))) s) {s : Shared} (h : I 0 s) :
    wpAny (model prog w) A.in1 (Builtin.«list.__ne__» ⟨[.ref l, .ref b], []⟩) (GQ.FinOf prog w A R) (fun e s' => R (.error e) s') s := by
  obtain ⟨items, items2, n, n2, hl1, hb1, hs1, hs2, _⟩ := hl _ _ h
  have hrec := ne_loopG (A := A) (R := R) l b N I hl fin _ 0 rfl (Nat.zero_le _) s h
  obtain ⟨hp, g, d, tk, os⟩ := s
  have f3 := AutoSeq1.sub_list_list
  have hne : ¬ (items.size != items2.size) = true := by simp [hs1, hs2]
  wp_walk using wpAny_loadPart' hl1, wpAny_loadPart' hb1
  exact ⟨plainId_quiet plain_eq_loop _, codeAny_builtin entry_eq_loop (by
    rw [Around.under_plainId plain_eq_loop _]
    exact hrec)⟩
theorem rc_neG {E : Value → Shared → Prop} {l b : Addr} {N : Nat} {Q : Value → Shared → Prop} {s : Shared} (hu : A.units < cLine) (I : Nat → Shared → Prop) (hl : GQ.ListI prog w A E l b N I)
    (fin : ∀ s, I N s → Q (.bool false) s) (h : I 0 s) : wpAny (model prog w) A (richCompare .NotEq (.ref l) (.ref b)) Q E s := by
  obtain ⟨items, items2, n, n2, hl1, hb1, _, _, _⟩ := hl _ _ h
  refine wpAny_richCompare_same_room (op := .NotEq) ⟨_, hl1, rfl⟩ ⟨_, hb1, rfl⟩ F.slot_list_ne (GQ.call_here F.slot_list_ne ⟨_, hl1, rfl⟩ F.entry_list_ne (F.args_list_ne_2 _ _) ?_) hu
  exact list_neG (R := wants (fun v s' => v ≠ .notImplemented ∧ Q v s') E) l b N I hl (fun s' q => ⟨(fun x => nomatch x), fin s' q⟩) h
end
section
variable {X : Cx} {n : Nat} {C : Addr}
/-- l != m: lists of the same words -/
def rNeLW (C : Addr) : R2 := fun x y H Q => ∃ l m xs ys ds, x = .ref l ∧ y = .ref m ∧ H l = some (.lst xs) ∧ H m = some (.lst ys) ∧ IsA C H xs ds ∧ IsA C H ys ds ∧ wrdL ds = true ∧ depL ds ≤ 0 ∧ szL ds ≤ 1000000 ∧ ∀ H', Same H H' → Q (.bl false) H'
theorem op_neLW (O : OwnS X.prog X.w X.K X.mg X.base n C (spEqG C)) (o : Oth X.K C) (hr : Room (0 + n + 1) X.A) : OpR X (compareOp .NotEq) (rNeLW C) := by
  intro pins s σ H x y v u Q I rx ry h
  obtain ⟨l, m, xs, ys, ds, rfl, rfl, hl, hm, hxs, hys, ws, hdp, zs, q⟩ := h
  cases rx
  cases ry
  show wpAny (model X.prog X.w) X.A (richCompare .NotEq (.ref l) (.ref m)) (EP X pins σ Q) X.xe s
  have sb : Sub X (0 + n + 1) X.A := ⟨hr, rfl⟩
  refine rc_neG (N := xs.length) sb.room.units0 (fun _ s' => LoopS X pins σ H s') (fun i s' j => ?_) (fun s' j => ?_) ⟨H, I, Same.refl H⟩
  · obtain ⟨H1, I1, e1⟩ := id j
    obtain ⟨z, its, k, r, e⟩ := I1.hok l _ (e1 _ _ hl)
    obtain ⟨z2, its2, k2, r2, e2⟩ := I1.hok m _ (e1 _ _ hm)
    have hl1 := hxs.len
    have hl2 := hys.len
    refine ⟨its.toArray, its2.toArray, k, k2, e, e2, by rw [List.size_toArray, ← r.length], by rw [List.size_toArray, ← r2.length]; omega, fun h1 h2 => ?_⟩
    have h1' : i < its.length := by simpa using h1
    have h2' : i < its2.length := by simpa using h2
    have hi1 : i < xs.length := by rw [r.length]; exact h1'
    have hi2 : i < ys.length := by rw [r2.length]; exact h2'
    obtain ⟨a, ha, ra⟩ := r.get (List.getElem?_eq_getElem hi1)
    obtain ⟨b, hb, rb⟩ := r2.get (List.getElem?_eq_getElem hi2)
    rw [List.getElem?_eq_getElem h1'] at ha
    rw [List.getElem?_eq_getElem h2'] at hb
    have ea : its.toArray[i] = a := by simpa using Option.some.inj ha
    have eb : its2.toArray[i] = b := by simpa using Option.some.inj hb
    obtain ⟨d, hd, hdi⟩ := hxs.at (List.getElem?_eq_getElem hi1)
    obtain ⟨d', hd', hdi'⟩ := hys.at (List.getElem?_eq_getElem hi2)
    rw [hd] at hd'
    cases hd'
    have g := List.mem_of_getElem? hd
    have wd := wrdL_mem ws g
    rw [ea, eb]
    refine wpAny_mono (eqW O o 0 sb.in1 (Nat.le_trans (depL_mem g) hdp) I1 ra rb ⟨hdi.same e1, hdi'.same e1, wd, wd, Nat.le_trans (szL_mem g) zs, Nat.le_trans (szL_mem g) zs⟩) (fun r s2 q => ?_) fun _ _ x => x
    obtain ⟨hr, H2, I2, e3⟩ := q
    exact ⟨by rw [hr, eqD_refl wd], H2, I2, e1.trans e3⟩
  · obtain ⟨H', I', e⟩ := j
    exact ⟨.bl false, H', I', rfl, q H' e⟩
end
end Hc

set_option maxHeartbeats 8000000
namespace Hc
open PySem PySem.Spec PyProof.Rows L2 Hr
section
variable {P : Program} {w : World} {K : PySem.W.Frag} {mg : Str → Option Value} {base : Heap} {f : Addr} {fd : FuncData} {C N : Addr}
def spTokOf (C : Addr) : Sp := fun vs H Q _ => ∃ x y z m md ch, vs = [x, y, z] ∧ Is C H x m ∧ Is C H y md ∧ Is C H z ch ∧ isTermK "token" [m, md, ch] = true ∧ rank (.atom "token" [m, md, ch]) ≤ mostR "token" ∧ Fit (.tup [m, md, ch]) ∧ ∀ H' a, H a = none → Same H H' → Is C H' (.ref a) (.atom "token" [m, md, ch]) → Q (.ref a) H'
def tokD : D → Bool | .atom k _ => decide (k = "token") | _ => false
def spTokP (C : Addr) : Sp := fun vs H Q _ => ∃ x d, vs = [x] ∧ Is C H x d ∧ (tokD d = false → Q .non H) ∧ (∀ es t, d = .atom "token" es → Is C H (.ref t) (.tup es) → Q (.ref t) H)
abbrev s_token_of : Stmt := top 25
theorem sc_token_of : FnScope ["monitor", "measure", "challenge"] ["monitor", "measure", "challenge"] (C8.fnScope s_token_of) := C8.fnScope_by (by decide +kernel)
theorem ok_token_of (F : C8.Def K mg "token_of" s_token_of f fd) (b : Binds K fd ["monitor", "measure", "challenge"] []) (T : Txt K mg w C) (k_Atom : C8.Mak P w K mg base 5 "Atom" C (spInit C) []) : C8.Cal P w K mg base 7 "token_of" (spTokOf C) [] := by
  refine C8.cal0 F b .nil sc_token_of (fun vs H Q E h => ?_) (fun cdv A outer s H vs Q E hr h => ?_)
  · obtain ⟨x, y, z, m, md, ch, rfl, _⟩ := h; rfl
  obtain ⟨x, y, z, m, md, ch, rfl, hx, hy, hz, ht, hrk, hft, q⟩ := h
  refine ⟨_, (pss_one (ps_ret (C8.pe_mk k_Atom hr (by first | decide | omega) rfl (pa_cons pe_str (pa_cons (pe_tup (pa_cons (pv 0) (pa_cons (pv 1) (pa_cons (pv 2) pa_nil)))) pa_nil))))), ?_⟩
  refine ⟨_, rfl, _, rfl, _, rfl, (by show 3 ≤ sizeLine; decide), fun t ht0 => ?_⟩
  have s1 := same_new (o := .tup [x, y, z]) ht0
  have e1 : upd H t (.tup [x, y, z]) t = some (.tup [x, y, z]) := upd_same
  generalize upd H t (.tup [x, y, z]) = H1 at *
  intro o do_ ho hdo hne
  have s2 : Same H1 (upd (upd H1 do_ (.own o)) o (.ins C do_ [])) := same_put (same_new hdo) ho
  have i2 : Is C (upd (upd H1 do_ (.own o)) o (.ins C do_ [])) (.ref t) (.tup [m, md, ch]) := (Is.tup e1 (.cons (hx.same s1) (.cons (hy.same s1) (.cons (hz.same s1) .nil)))).same s2
  refine ⟨o, do_, "token", t, [m, md, ch], rfl, upd_same, i2, ht, hrk, hft, fun H3 hat oth => ⟨rfl, ?_⟩⟩
  have s3 : Same H1 H3 := fun b u e => oth b u (s2 _ _ e) (ne_of_none e ho)
  have i3 := (Is.tup (C := C) e1 (.cons (hx.same s1) (.cons (hy.same s1) (.cons (hz.same s1) .nil)))).same s3
  refine q H3 o (s1.free ho) (s1.trans s3) ?_
  cases i3 with
  | @tup _ ts _ e3 i3 => exact .atom hat e3 i3
abbrev s_token_parts : Stmt := top 26
theorem sc_token_parts : FnScope ["word"] ["word"] (C8.fnScope s_token_parts) := C8.fnScope_by (by decide +kernel)
theorem ok_token_parts (F : C8.Def K mg "token_parts" s_token_parts f fd) (b : Binds K fd ["word"] []) (T : Txt K mg w C) : C8.Cal P w K mg base 1 "token_parts" (spTokP C) [] := by
  refine C8.cal0 F b .nil sc_token_parts (fun vs H Q E h => ?_) (fun cdv A outer s H vs Q E hr h => ?_)
  · obtain ⟨x, d, rfl, _⟩ := h; rfl
  obtain ⟨x, d, rfl, hx, q1, q2⟩ := h
  refine ⟨_, (pss_cons (ps_if (PW.pt (pw_and (pt_cmpR (op_isTyA (C := C)) (pe_callTy (call_typeA (C := C)) rfl T.z_type bt_type (pa_cons (pv 0) pa_nil)) (pe_glob (v := .ref C) rfl T.g_Atom rfl) (nomark _)) (pw_and1 (pt_cmpR op_eq (pe_fld (pv 0) rfl) pe_str (nomark _))))) (pss_one (ps_ret (pe_fld (pv 0) rfl))) pss_nil)
      (pss_one (ps_ret pe_non))), ?_⟩
  refine ⟨_, rfl, x, d, rfl, hx, kyV_ok d, .inr rfl, _, rfl, ?_⟩
  by_cases c : kyV C d = .ref C
  · refine ifT c ?_
    obtain ⟨k, es, rfl⟩ := kyV_atom.mp c
    cases hx with
    | @atom a dx t _ xs _ h h2 i =>
    refine ⟨_, rfl, a, C, dx, _, .str k, rfl, h, T.cl.cl, T.cl.nK, rfl, rfl, _, rfl, ?_⟩
    by_cases c2 : k = "token"
    · subst c2
      exact ifT rfl ⟨_, rfl, a, C, dx, _, .ref t, rfl, h, T.cl.cl, T.cl.nT, rfl, q2 es t rfl (.tup h2 i)⟩
    · exact ifF (fun z => c2 (V.str.inj z)) (q1 (decide_eq_false c2))
  · have e : tokD d = false := by cases d <;> first | rfl | exact absurd rfl c
    exact ifF c (q1 e)
theorem vr1 {nm : Str} {mo me l : Addr} : putF "_waiting" (.ref l) (putF "_given" (.int 0) (putF "_measures" (.ref me) (putF "_monitors" (.ref mo) (putF "_name" (.str nm) [])))) = vrF nm mo me 0 l := by
  have a1 : ¬ (("_name" : Str) = "_monitors") := by decide +kernel
  have a2 : ¬ (("_name" : Str) = "_measures") := by decide +kernel
  have a3 : ¬ (("_name" : Str) = "_given") := by decide +kernel
  have a4 : ¬ (("_name" : Str) = "_waiting") := by decide +kernel
  have a5 : ¬ (("_monitors" : Str) = "_measures") := by decide +kernel
  have a6 : ¬ (("_monitors" : Str) = "_given") := by decide +kernel
  have a7 : ¬ (("_monitors" : Str) = "_waiting") := by decide +kernel
  have a8 : ¬ (("_measures" : Str) = "_given") := by decide +kernel
  have a9 : ¬ (("_measures" : Str) = "_waiting") := by decide +kernel
  have a10 : ¬ (("_given" : Str) = "_waiting") := by decide +kernel
  simp [putF, vrF, a1, a2, a3, a4, a5, a6, a7, a8, a9, a10]
theorem vr2 {nm : Str} {mo me l : Addr} {g h : Int} : putF "_given" (.int h) (vrF nm mo me g l) = vrF nm mo me h l := by
  have a3 : ¬ (("_name" : Str) = "_given") := by decide +kernel
  have a6 : ¬ (("_monitors" : Str) = "_given") := by decide +kernel
  have a8 : ¬ (("_measures" : Str) = "_given") := by decide +kernel
  simp [putF, vrF, a3, a6, a8]
theorem vr3 {nm : Str} {mo me l m : Addr} {g : Int} : putF "_waiting" (.ref m) (vrF nm mo me g l) = vrF nm mo me g m := by
  have a4 : ¬ (("_name" : Str) = "_waiting") := by decide +kernel
  have a7 : ¬ (("_monitors" : Str) = "_waiting") := by decide +kernel
  have a9 : ¬ (("_measures" : Str) = "_waiting") := by decide +kernel
  have a10 : ¬ (("_given" : Str) = "_waiting") := by decide +kernel
  simp [putF, vrF, a4, a7, a9, a10]
abbrev s_Verifier___init__ : Stmt := L2.inClass (top 27) 0
theorem sc_Verifier___init__ : FnScope ["self", "name", "monitors", "measures"] ["self", "name", "monitors", "measures"] (C8.fnScope s_Verifier___init__) := C8.fnScope_by (by decide +kernel)
theorem ok_vinit {fI : Addr} {fdI : FuncData} (M : Mk K N fI) (G : VrC K mg N) (T : Txt K mg w C) (c_is_text : C8.Cal P w K mg base 1 "is_text" (spB C (fun d => ∀ s, d = .str s → s.length ≤ sizeLine) isTxt) []) (F : C8.Fun K "__init__" "Verifier.__init__" s_Verifier___init__ fI fdI) (b : Binds K fdI ["self", "name", "monitors", "measures"] []) : C8.Mak P w K mg base 2 "Verifier" N (spVI N) [] := by
  refine C8.mak0 M G.g_Verifier F b .nil sc_Verifier___init__ (fun vs H Q E h => ?_) (fun cdv A outer s H vs Q E hr h => ?_)
  · obtain ⟨p, dx, nm, mo, me, rfl, _⟩ := h; rfl
  obtain ⟨p, dx, nm, mo, me, rfl, hp, hnm, hsz, q⟩ := h
  refine ⟨_, (pss_cons (ps_if (pt_not (pt_val (C8.pe_c c_is_text hr (by first | decide | omega) rfl (pa_cons (pv 1) pa_nil)))) (pss_one ps_never) pss_nil)
      (pss_cons (ps_fld (pv 0) (pv 1) rfl)
      (pss_cons (ps_fld (pv 0) (pv 2) rfl)
      (pss_cons (ps_fld (pv 0) (pv 3) rfl)
      (pss_cons (ps_fld (pv 0) pe_int rfl)
      (pss_one (ps_fld (pv 0) (pe_lst pa_nil) rfl))))))), ?_⟩
  refine ⟨_, rfl, .str nm, .str nm, rfl, .str nm, (fun z hz => by cases hz; exact hsz), fun H1 s1 => ⟨_, rfl, bF (by simp only [isTxt, hnm]; rfl) ?_⟩⟩
  have hp1 := s1 _ _ hp
  refine ⟨_, rfl, _, rfl, p, N, dx, [], rfl, hp1, G.cl, G.n1, (by show 0 < 1000; decide), ?_⟩
  refine ⟨_, rfl, _, rfl, p, N, dx, _, rfl, upd_same, G.cl, G.n2, (by show 1 < 1000; decide), ?_⟩
  refine ⟨_, rfl, _, rfl, p, N, dx, _, rfl, upd_same, G.cl, G.n3, (by show 2 < 1000; decide), ?_⟩
  refine ⟨_, rfl, p, N, dx, _, rfl, upd_same, G.cl, G.n4, (by show 3 < 1000; decide), ?_⟩
  refine ⟨(by show 0 ≤ sizeLine; decide), fun l hl => ⟨_, rfl, p, N, dx, _, rfl, same_new hl _ _ upd_same, G.cl, G.n5, (by show 4 < 1000; decide), ?_⟩⟩
  have hlp : l ≠ p := fun z => by rw [z, upd_same] at hl; cases hl
  have hl0 : H l = none := by
    refine s1.free ?_
    rwa [upd_ne hlp, upd_ne hlp, upd_ne hlp, upd_ne hlp] at hl
  refine q _ l hl0 (by rw [upd_ne hlp]; exact upd_same) ⟨dx, Eq.trans upd_same (congrArg (fun z => some (HO.ins N dx z)) vr1)⟩ fun b o e n => ?_
  have e1 := s1 _ _ e
  rw [upd_ne n, upd_ne (ne_of_none e hl0), upd_ne n, upd_ne n, upd_ne n, upd_ne n]
  exact e1
abbrev s_Verifier_open_ones : Stmt := L2.inClass (top 27) 3
theorem sc_Verifier_open_ones : FnScope ["self"] ["self"] (C8.fnScope s_Verifier_open_ones) := C8.fnScope_by (by decide +kernel)
theorem ok_open_ones {fI : Addr} {fdI : FuncData} (me : Meth K N "open_ones" fI) (G : VrC K mg N) (T : Txt K mg w C) (F : C8.Fun K "open_ones" "Verifier.open_ones" s_Verifier_open_ones fI fdI) (b : Binds K fdI ["self"] []) : C8.Met P w K mg base 1 N "open_ones" (spVS N) [] := by
  refine C8.met0 G.cl me F b sc_Verifier_open_ones (fun vs H Q E h => ?_) (fun cdv A outer s H vs Q E hr h => ?_)
  · obtain ⟨p, nm, mo, me, g, l, xs, rfl, _⟩ := h; rfl
  obtain ⟨p, nm, mo, mee, g, l, xs, rfl, ⟨dx, hp⟩, hl, q⟩ := h
  refine ⟨_, (pss_one (ps_ret (pe_callTy call_list_of rfl T.z_list bt_list (pa_cons (pe_fld (pv 0) rfl) pa_nil)))), ?_⟩
  exact ⟨_, rfl, p, N, dx, _, _, rfl, hp, G.cl, G.n5, rfl, l, xs, rfl, .inl (SqL.of hl), q⟩
abbrev s_Verifier_is_open : Stmt := L2.inClass (top 27) 2
theorem sc_Verifier_is_open : FnScope ["self", "word"] ["self", "word"] (C8.fnScope s_Verifier_is_open) := C8.fnScope_by (by decide +kernel)
theorem ok_is_open {fI : Addr} {fdI : FuncData} (me : Meth K N "is_open" fI) (G : VrC K mg N) (T : Txt K mg w C) (O : OwnS P w K mg base 4 C (spEqG C)) (o : Oth K C) (F : C8.Fun K "is_open" "Verifier.is_open" s_Verifier_is_open fI fdI) (b : Binds K fdI ["self", "word"] []) : C8.Met P w K mg base 6 N "is_open" (spVO N C) [] := by
  refine C8.met0 G.cl me F b sc_Verifier_is_open (fun vs H Q E h => ?_) (fun cdv A outer s H vs Q E hr h => ?_)
  · obtain ⟨p, nm, mo, me, g, l, x, xs, ds, d, rfl, _⟩ := h; rfl
  obtain ⟨p, nm, mo, mee, g, l, x, xs, ds, d, rfl, ⟨dx, hp⟩, hl, hxs, hx, wd, wds, hdp, zd, zds, q⟩ := h
  refine ⟨_, (pss_one (ps_ret (pe_and (pe_cmpR (op_isTyA (C := C)) (pe_callTy (call_typeA (C := C)) rfl T.z_type bt_type (pa_cons (pv 1) pa_nil)) (pe_glob (v := .ref C) rfl T.g_Atom rfl) (nomark _)) (pe_one (pe_cmpR (op_inW (N := 0) O o (hr.mono (by decide))) (pv 1) (pe_fld (pv 0) rfl) (by with_unfolding_all rfl)))))), ?_⟩
  refine ⟨_, rfl, x, d, rfl, hx, kyV_ok d, .inr rfl, _, rfl, ?_⟩
  by_cases c : kyV C d = .ref C
  · have e : isAt d = true := by obtain ⟨k, es, rfl⟩ := kyV_atom.mp c; rfl
    rw [e] at q
    refine ifT c ⟨_, rfl, _, rfl, p, N, dx, _, _, rfl, hp, G.cl, G.n5, rfl, l, xs, ds, d, rfl, hl, hxs, hx, wd, wds, hdp, zd, zds, fun H' s' => ?_⟩
    have q := q H' s'
    rw [Bool.true_and] at q
    exact q
  · have e : isAt d = false := by cases d <;> first | rfl | exact absurd rfl c
    have q := q H (Same.refl H)
    rw [e, Bool.false_and] at q
    exact ifF c q
theorem ch_ok {nm : Str} {g : Int} (h : txtOk nm = true) (g0 : 0 ≤ g) (g1 : g ≤ 1000) (hz : nm.length ≤ sizeLine) : isTermK "challenge" [.str nm, .int g] = true ∧ rank (.atom "challenge" [.str nm, .int g]) ≤ mostR "challenge" ∧ Fit (.tup [.str nm, .int g]) := by
  have e : formsOf "challenge" = some (["text", "number"] : List Str) := by decide +kernel
  have t1 : hasF (.str nm) "text" = true := by unfold hasF; rw [if_pos rfl]; rfl
  have n1 : ¬ (("number" : Str) = "text") := by decide +kernel
  have t2 : hasF (.int g) "number" = true := by unfold hasF; rw [if_neg n1, if_pos rfl]; rfl
  have o1 : okW 40 40 0 (.str nm) = true := by simp only [okW, isTxt]; exact h
  have o2 : okW 40 40 0 (.int g) = true := by
    simp only [okW, isNum, numOk]
    rw [decide_eq_true (show (-2147483648 : Int) ≤ g by omega), decide_eq_true (show g ≤ 2147483647 by omega)]; rfl
  refine ⟨?_, ?_, ⟨by simp [sz, szL], by simp [txl, txlL]; exact hz⟩⟩
  · unfold isTermK
    rw [e]
    simp only [List.length_cons, List.length_nil, List.zip_cons_cons, List.zip_nil_left, List.all_cons, List.all_nil, partOk, t1, t2, o1, o2]
    decide
  · have z1 : ¬ (("challenge" : Str) = "seal" ∨ ("challenge" : Str) = "page") := by decide +kernel
    have z2 : mostR "challenge" = 40 := by decide +kernel
    rw [z2]
    simp only [rank, rankL, if_neg z1]
    decide
abbrev s_Verifier_challenge : Stmt := L2.inClass (top 27) 1
theorem sc_Verifier_challenge : FnScope ["self", "challenge"] ["self"] (C8.fnScope s_Verifier_challenge) := C8.fnScope_by (by decide +kernel)
theorem ok_challenge {fI : Addr} {fdI : FuncData} (me : Meth K N "challenge" fI) (G : VrC K mg N) (T : Txt K mg w C) (k_Atom : C8.Mak P w K mg base 5 "Atom" C (spInit C) []) (F : C8.Fun K "challenge" "Verifier.challenge" s_Verifier_challenge fI fdI) (b : Binds K fdI ["self"] []) : C8.Met P w K mg base 7 N "challenge" (spVC N C) [] := by
  refine C8.met0 G.cl me F b sc_Verifier_challenge (fun vs H Q E h => ?_) (fun cdv A outer s H vs Q E hr h => ?_)
  · obtain ⟨p, nm, mo, me, g, l, xs, rfl, _⟩ := h; rfl
  obtain ⟨p, nm, mo, mee, g, l, xs, rfl, ⟨dx, hp⟩, hl, hxl, hnm, hsz, g0, g1, q⟩ := h
  obtain ⟨c1, c2, c3⟩ := ch_ok hnm g0 g1 hsz
  refine ⟨_, (pss_cons (ps_set (i := 1) sc_Verifier_challenge.nd rfl (Or.inl rfl) (C8.pe_mk k_Atom hr (by first | decide | omega) rfl (pa_cons pe_str (pa_cons (pe_tup (pa_cons (pe_fld (pv 0) rfl) (pa_cons (pe_fld (pv 0) rfl) pa_nil))) pa_nil))))
      (pss_cons (ps_fldaug (pv 0) pe_int in_add)
      (pss_cons (ps_expr (pe_bm PySem.F.plainAttrs_list PySem.F.slot_list_append PySem.F.type_list_append mt_append (pe_fld (pv 0) rfl) (pa_cons (pv 1) pa_nil)))
      (pss_one (ps_ret (pv 1)))))), ?_⟩
  refine ⟨_, rfl, p, N, dx, _, _, rfl, hp, G.cl, G.n1, rfl, _, rfl, p, N, dx, _, _, rfl, hp, G.cl, G.n4, rfl, (by show 2 ≤ sizeLine; decide), fun t ht0 => ?_⟩
  have s1 := same_new (o := .tup [.str nm, .int g]) ht0
  have e1 : upd H t (.tup [.str nm, .int g]) t = some (.tup [.str nm, .int g]) := upd_same
  generalize upd H t (.tup [.str nm, .int g]) = H1 at *
  intro o do_ ho hdo hne
  have s2 : Same H1 (upd (upd H1 do_ (.own o)) o (.ins C do_ [])) := same_put (same_new hdo) ho
  have i2 : Is C (upd (upd H1 do_ (.own o)) o (.ins C do_ [])) (.ref t) (.tup [.str nm, .int g]) := (Is.tup e1 (.cons (.str _) (.cons (.int _) .nil))).same s2
  refine ⟨o, do_, "challenge", t, [.str nm, .int g], rfl, upd_same, i2, c1, c2, c3, fun H3 hat oth => ⟨rfl, ?_⟩⟩
  have s3 : Same H1 H3 := fun b u e => oth b u (s2 _ _ e) (ne_of_none e ho)
  have e3 := s3 _ _ e1
  have hp3 := s3 _ _ (s1 _ _ hp)
  have hl3 := s3 _ _ (s1 _ _ hl)
  have iat : Is C H3 (.ref o) (.atom "challenge" [.str nm, .int g]) := .atom hat e3 (.cons (.str _) (.cons (.int _) .nil))
  have nop : o ≠ p := fun z => by rw [z, s1 _ _ hp] at ho; cases ho
  have nol : o ≠ l := fun z => by rw [z, s1 _ _ hl] at ho; cases ho
  have nlp : l ≠ p := fun z => by rw [z, hp] at hl; cases hl
  have ntp : t ≠ p := fun z => by rw [z, hp] at ht0; cases ht0
  have ntl : t ≠ l := fun z => by rw [z, hl] at ht0; cases ht0
  refine ⟨_, rfl, p, N, dx, _, _, rfl, hp3, G.cl, G.n4, rfl, _, _, rfl, rfl, dx, _, hp3, (by show 5 < 1000; decide), ?_⟩
  rw [vr2]
  refine ⟨_, rfl, p, N, dx, _, _, rfl, upd_same, G.cl, G.n5, rfl, .inl ⟨rfl, _, SqL.of (by rw [upd_ne nlp]; exact hl3)⟩, _, rfl, l, xs, .ref o, rfl, rfl, (by rw [upd_ne nlp]; exact hl3), small1000 hxl, ?_⟩
  refine ⟨_, rfl, ?_⟩
  refine q _ o (s1.free ho) (.atom (dx := do_) (t := t) (xs := [.str nm, .int g]) ?_ ?_ (.cons (.str _) (.cons (.int _) .nil))) ⟨dx, by rw [upd_ne nlp.symm]; exact upd_same⟩ upd_same fun b u e n1 n2 => ?_
  · rw [upd_ne nol, upd_ne nop]; exact hat
  · rw [upd_ne ntl, upd_ne ntp]; exact e3
  · rw [upd_ne n2, upd_ne n1]; exact s3 _ _ (s1 _ _ e)
theorem inVs (m : Str) (ms : List Str) : inV (.str m) (ms.map V.str) = ms.any fun z => decide (z = m) := by
  show ((ms.map V.str).any fun y => eqV y (.str m)) = _
  rw [List.any_map]
  refine congrArg (List.any ms) (funext fun z => ?_)
  show eqV (.str z) (.str m) = decide (z = m)
  simp only [eqV]
  by_cases h : z = m
  · subst h; simp
  · rw [decide_eq_false h]; exact beq_eq_false_iff_ne.mpr h
abbrev s_Verifier_take : Stmt := L2.inClass (top 27) 4
theorem sc_Verifier_take : FnScope ["self", "word", "parts", "monitor", "measure", "challenge", "each"] ["self", "word"] (C8.fnScope s_Verifier_take) := C8.fnScope_by (by decide +kernel)
theorem ok_take {fI : Addr} {fdI : FuncData} (hNC : N ≠ C) (me : Meth K N "take" fI) (G : VrC K mg N) (T : Txt K mg w C) (O : OwnS P w K mg base 4 C (spEqG C)) (o : Oth K C) (m_is_open : C8.Met P w K mg base 6 N "is_open" (spVO N C) []) (c_token_parts : C8.Cal P w K mg base 1 "token_parts" (spTokP C) []) (F : C8.Fun K "take" "Verifier.take" s_Verifier_take fI fdI) (b : Binds K fdI ["self", "word"] []) : C8.Met P w K mg base 7 N "take" (spVT N C) [] := by
  refine C8.met0 G.cl me F b sc_Verifier_take (fun vs H Q E h => ?_) (fun cdv A outer s H vs Q E hr h => ?_)
  · obtain ⟨p, nm, mo, mee, g, l, x, xs, ds, d, ms, ys, Ms, rfl, _⟩ := h; rfl
  obtain ⟨p, nm, mo, mee, g, l, x, xs, ds, d, ms, ys, Ms, rfl, ⟨dx, hp⟩, hl, hxs, hx, wds, hdp, zds, hdl, hoff, hmo, hme, hys, hpl, hdpt, qF, qT⟩ := h
  refine ⟨_, (pss_cons (ps_set (i := 2) sc_Verifier_take.nd rfl (Or.inl rfl) (C8.pe_c c_token_parts hr (by first | decide | omega) rfl (pa_cons (pv 1) pa_nil)))
      (pss_cons (ps_if (pt_cmpR op_isN (pv 2) pe_non (nomark _)) (pss_one (ps_ret pe_bl)) pss_nil)
      (pss_cons (ps_asg (pv 2) (pg_tup rfl (pgs_cons (pg_name (i := 3) sc_Verifier_take.nd rfl (Or.inl rfl)) (pgs_cons (pg_name (i := 4) sc_Verifier_take.nd rfl (Or.inl rfl)) (pgs_cons (pg_name (i := 5) sc_Verifier_take.nd rfl (Or.inr rfl)) pgs_nil)))))
      (pss_cons (ps_if (PW.pt (pw_or (pt_cmpR op_notIn_seq (pv 3) (pe_fld (pv 0) rfl) (by with_unfolding_all rfl)) (pw_or (pt_cmpR (op_notInTD (room65 hr)) (pv 4) (pe_fld (pv 0) rfl) (by with_unfolding_all rfl)) (pw_or1 (pt_not (pt_val (C8.pe_mt m_is_open hr (by first | decide | omega) (pv 0) (pa_cons (pv 5) pa_nil)))))))) (pss_one (ps_ret pe_bl)) pss_nil)
      (pss_cons (ps_fld (pv 0) (pe_lc (own := [("each", 6)]) (tt := tTest (tOp (rNeW C 0) (tVar 6) (tVar 5))) (g := gName 6) rfl sc_Verifier_take.nd (pi_list (pe_fld (pv 0) rfl)) (blkOk_by (own := [("each", 6)]) (N := ["self", "word", "parts", "monitor", "measure", "challenge", "each"]) (sc := C8.fnScope s_Verifier_take) (by decide +kernel)) (fun _ _ _ _ _ => (pg_name (i := 6) sc_Verifier_take.nd rfl (Or.inl rfl))) (fun _ _ _ _ _ => (pts_one (pt_cmpR (op_neW (N := 0) O o (hr.mono (by decide))) (pv 6) (pv 5) (nomark _)))) (fun _ _ _ _ _ => (pv 6))) rfl)
      (pss_one (ps_ret pe_bl))))))), ?_⟩
  refine ⟨_, rfl, x, d, rfl, hx, fun hno => ?_, fun es t hd it => ?_⟩
  · refine ⟨_, rfl, rfl, _, rfl, ifT rfl (qF ?_ H (Same.refl H))⟩
    unfold takes
    split
    · rw [show decide (_ = ("token" : Str)) = false from hno]; rfl
    · rfl
  · subst hd
    obtain ⟨m, md, ch, rfl, hpm, hdm, hmt, wch, zch⟩ := hoff rfl
    refine ⟨_, rfl, rfl, _, rfl, ifF (fun z => nomatch z) ?_⟩
    cases it with
    | @tup _ ts _ et i3 =>
    cases i3 with
    | @cons x0 _ _ _ a0 i3 => cases i3 with
    | @cons x1 _ _ _ a1 i3 => cases i3 with
    | @cons x2 _ _ _ a2 i3 =>
    cases a0
    cases i3
    refine ⟨_, rfl, t, [.str m, x1, x2], rfl, SqT.of et, rfl, .str m, [x1, x2], rfl, x1, [x2], rfl, x2, [], rfl, rfl, ?_⟩
    refine ⟨_, rfl, _, rfl, p, N, dx, _, _, rfl, hp, G.cl, G.n2, rfl, mo, ms.map V.str, rfl, .inr (SqT.of hmo), rfl, (by rw [List.all_map]; exact List.all_eq_true.mpr fun _ _ => rfl), _, rfl, ?_⟩
    rw [inVs]
    cases e1 : ms.any (fun z => decide (z = m)) with
    | false => exact bT rfl (qF (by simp [takes, e1]) H (Same.refl H))
    | true =>
    refine bF rfl ?_
    refine ⟨_, rfl, _, rfl, p, N, dx, _, _, rfl, hp, G.cl, G.n3, rfl, pyd md, pydL Ms, is_dp hpm a1, .tup (SqT.of hme) (isA_dp hpl hys), pyd_shaped hpm (by omega), pyd_shaped (d := .tup Ms) (by simp only [pln]; exact hpl) (by simp only [dpt]; omega), _, rfl, ?_⟩
    cases e2 : (pydL Ms).any (fun z => PyData.eqv z (pyd md)) with
    | false => exact bT rfl (qF (by simp [takes, e2]) H (Same.refl H))
    | true =>
    refine bF rfl ?_
    refine ⟨_, rfl, p, dx, _, rfl, hp, rfl, _, rfl, p, nm, mo, mee, g, l, x2, xs, ds, ch, rfl, ⟨dx, hp⟩, hl, hxs, a2, wch, wds, hdp, zch, zds, fun H1 s1 => ⟨_, rfl, ?_⟩⟩
    cases e3 : (isAt ch && ds.any fun e => eqD e ch) with
    | false => exact bT rfl (qF (by simp only [takes, e3, Bool.and_false]) H1 s1)
    | true =>
      refine bF rfl ?_
      have hl1 := s1 _ _ hl
      refine ⟨_, rfl, p, N, dx, _, _, rfl, s1 _ _ hp, G.cl, G.n5, rfl, l, rfl, ⟨xs, SqL.of hl1⟩, fun Dl hD => ?_⟩
      refine lc_it (walk_list (K := K) (a := l) (xs := xs)) (fun i H' => Same H1 H' ∧ ∃ zs, H' Dl = some (.lst zs) ∧ zs.length ≤ i ∧ IsA C H' zs ((ds.take i).filter fun e => !eqD e ch)) ⟨same_new hD, [], upd_same, Nat.zero_le _, .nil⟩ (fun i H3 _ h => SqL.of (h.1 _ _ hl1)) ?_ ?_
      · rintro i y H3 H4 hi ⟨s3, zs, hz, hzl, iz⟩ ⟨rfl, hy⟩
        obtain ⟨e, he, hye⟩ := hxs.at hy
        have mee := List.mem_of_getElem? he
        have hxl := hxs.len
        have s13 := s1.trans s3
        refine ⟨rfl, ?_⟩
        refine ⟨_, rfl, _, rfl, e, ch, ⟨hye.same s13, a2.same s13, wrdL_mem wds mee, wch, Nat.le_trans (szL_mem mee) zds, zch⟩, Nat.le_trans (depL_mem mee) hdp, fun H5 s5 => ⟨_, rfl, ?_⟩⟩
        have hz5 := s5 _ _ hz
        have hft : (ds.take (i + 1)).filter (fun e => !eqD e ch) = (ds.take i).filter (fun e => !eqD e ch) ++ [e].filter (fun e => !eqD e ch) := by
          rw [List.take_add_one, he, List.filter_append]; rfl
        cases hfd : eqD e ch with
        | true =>
          refine iteF ⟨s3.trans s5, zs, hz5, by omega, ?_⟩
          rw [hft]
          simp only [List.filter_cons, hfd, List.filter_nil, List.append_nil, Bool.not_true]
          simpa using iz.same s5
        | false =>
          refine iteT ⟨_, rfl, zs, hz5, small1000 (by omega), same_put (s3.trans s5) hD, zs ++ [y], upd_same, by simp; omega, ?_⟩
          rw [hft]
          have kq : Keep C H5 (upd H5 Dl (.lst (zs ++ [y]))) := Keep.lst hz5
          have cl1 : clnL ((ds.take i).filter fun e => !eqD e ch) = true := clnL_iff.mpr fun z hz' => wrd_cln (wrdL_mem wds (List.mem_of_mem_take (List.mem_filter.mp hz').1))
          have h1 := (IsA.keep kq cl1 (iz.same s5)).app (.cons (Is.keep kq (wrd_cln (wrdL_mem wds mee)) ((hye.same s13).same s5)) .nil)
          simpa [hfd] using h1
      · rintro H3 ⟨s3, zs, hz, hzl, iz⟩
        have hxl := hxs.len
        rw [List.take_of_length_le (by omega)] at iz
        have hp3 := s3 _ _ (s1 _ _ hp)
        refine ⟨_, rfl, p, N, dx, _, rfl, hp3, G.cl, G.n5, (by show 5 < 1000; decide), ?_⟩
        rw [vr3]
        have nDp : Dl ≠ p := fun z => by rw [z, s1 _ _ hp] at hD; cases hD
        have kq : Keep C H3 (upd H3 p (.ins N dx (vrF nm mo mee g Dl))) := ⟨fun b us e => by rw [upd_ne (fun z => by rw [z, hp3] at e; cases e)]; exact e, fun b dy fs e => by
          rw [upd_ne (fun z => by rw [z, hp3] at e; exact hNC (by cases e; rfl))]; exact e⟩
        have cl1 : clnL (ds.filter fun e => !eqD e ch) = true := clnL_iff.mpr fun z hz' => wrd_cln (wrdL_mem wds (List.mem_filter.mp hz').1)
        refine qT m md ch rfl (by simp only [takes, e1, e2, e3]; rfl) _ Dl zs (s1.free hD) ⟨dx, upd_same⟩ (by rw [upd_ne nDp]; exact hz) (IsA.keep kq cl1 iz) fun b u e n => ?_
        rw [upd_ne n]; exact s3 _ _ (s1 _ _ e)
end
end Hc

set_option maxHeartbeats 8000000
namespace Hc
open PySem PySem.Spec PyProof.Rows L2 Hr
def kM (mo me ol : Addr) (nm : Str) (g : Int) : List (Key × V) := [(.inr "monitors", .ref mo), (.inr "measures", .ref me), (.inr "open", .ref ol), (.inr "name", .str nm), (.inr "given", .int g)]
section
variable {H : Hp} {q mo me ol : Addr} {nm : Str} {g : Int}
theorem n_1 : ¬ (("monitors" : Str) = "measures") := by decide +kernel
theorem n_2 : ¬ (("monitors" : Str) = "open") := by decide +kernel
theorem n_3 : ¬ (("measures" : Str) = "open") := by decide +kernel
theorem n_4 : ¬ (("monitors" : Str) = "name") := by decide +kernel
theorem n_5 : ¬ (("measures" : Str) = "name") := by decide +kernel
theorem n_6 : ¬ (("open" : Str) = "name") := by decide +kernel
theorem n_7 : ¬ (("monitors" : Str) = "given") := by decide +kernel
theorem n_8 : ¬ (("measures" : Str) = "given") := by decide +kernel
theorem n_9 : ¬ (("open" : Str) = "given") := by decide +kernel
theorem n_10 : ¬ (("name" : Str) = "given") := by decide +kernel
theorem mg_mo (h : H q = some (.dK (kM mo me ol nm g))) : DGet H q (.str "monitors") (some (.ref mo)) := by
  have := DGet.k (k := .inr "monitors") h
  rwa [show valV (kM mo me ol nm g) (.inr "monitors") = some (.ref mo) by simp [kM, valV]] at this
theorem mg_me (h : H q = some (.dK (kM mo me ol nm g))) : DGet H q (.str "measures") (some (.ref me)) := by
  have := DGet.k (k := .inr "measures") h
  rwa [show valV (kM mo me ol nm g) (.inr "measures") = some (.ref me) by simp [kM, valV, n_1]] at this
theorem mg_ol (h : H q = some (.dK (kM mo me ol nm g))) : DGet H q (.str "open") (some (.ref ol)) := by
  have := DGet.k (k := .inr "open") h
  rwa [show valV (kM mo me ol nm g) (.inr "open") = some (.ref ol) by simp [kM, valV, n_2, n_3]] at this
theorem mg_nm (h : H q = some (.dK (kM mo me ol nm g))) : DGet H q (.str "name") (some (.str nm)) := by
  have := DGet.k (k := .inr "name") h
  rwa [show valV (kM mo me ol nm g) (.inr "name") = some (.str nm) by simp [kM, valV, n_4, n_5, n_6]] at this
theorem mg_g (h : H q = some (.dK (kM mo me ol nm g))) : DGet H q (.str "given") (some (.int g)) := by
  have := DGet.k (k := .inr "given") h
  rwa [show valV (kM mo me ol nm g) (.inr "given") = some (.int g) by simp [kM, valV, n_7, n_8, n_9, n_10]] at this
theorem mp_g {v : Int} (h : H q = some (.dK (kM mo me ol nm g))) : DPut H q (.str "given") (.int v) (upd H q (.dK (kM mo me ol nm v))) := by
  have := DPut.k (k := .inr "given") (v := .int v) h (Nat.lt_of_lt_of_le (show 5 < 1000001 by decide) (by decide))
  rwa [show putK (kM mo me ol nm g) (.inr "given") (.int v) = kM mo me ol nm v by simp [kM, putK, n_7, n_8, n_9, n_10]] at this
theorem mp_ol {m : Addr} (h : H q = some (.dK (kM mo me ol nm g))) : DPut H q (.str "open") (.ref m) (upd H q (.dK (kM mo me m nm g))) := by
  have := DPut.k (k := .inr "open") (v := .ref m) h (Nat.lt_of_lt_of_le (show 5 < 1000001 by decide) (by decide))
  have e6 : ¬ (("name" : Str) = "open") := fun z => n_6 z.symm
  have e9 : ¬ (("given" : Str) = "open") := fun z => n_9 z.symm
  rwa [show putK (kM mo me ol nm g) (.inr "open") (.ref m) = kM mo me m nm g by simp [kM, putK, n_2, n_3, e6, e9]] at this
end
theorem any_at {ds : List D} {ch : D} (h : ∀ e ∈ ds, isAt e = true) : (ds.any fun e => eqD e ch) = (isAt ch && ds.any fun e => eqD e ch) := by
  cases hc : isAt ch with
  | true => simp
  | false =>
    rw [Bool.false_and]
    refine Bool.eq_false_iff.mpr fun z => ?_
    obtain ⟨e, he, hee⟩ := List.any_eq_true.mp z
    have := h e he
    cases e <;> cases ch <;> first | (simp [isAt] at this hc; done) | (simp [eqD] at hee; done)
def spDue (C : Addr) : Sp := fun vs H Q _ => ∃ q x mo me ol nm g xs ds d ms ys Ms, vs = [.ref q, x] ∧ H q = some (.dK (kM mo me ol nm g)) ∧ H ol = some (.lst xs) ∧ IsA C H xs ds ∧ (∀ e ∈ ds, isAt e = true) ∧ Is C H x d ∧ wrdL ds = true ∧ depL ds ≤ 0 ∧ szL ds ≤ 1000000 ∧ Off3 d ∧
  H mo = some (.tup (ms.map V.str)) ∧ H me = some (.tup ys) ∧ IsA C H ys Ms ∧ plnL Ms = true ∧ dptL Ms ≤ 60 ∧ ∀ H', Same H H' → Q (.bl (takes ms Ms ds d)) H'
section
variable {P : Program} {w : World} {K : PySem.W.Frag} {mg : Str → Option Value} {base : Heap} {f : Addr} {fd : FuncData} {C N : Addr}
abbrev s__law_parts : Stmt := top 35
theorem sc__law_parts : FnScope ["word"] ["word"] (C8.fnScope s__law_parts) := C8.fnScope_by (by decide +kernel)
theorem ok__law_parts (F : C8.Def K mg "_law_parts" s__law_parts f fd) (b : Binds K fd ["word"] []) (T : Txt K mg w C) : C8.Cal P w K mg base 1 "_law_parts" (spTokP C) [] := by
  refine C8.cal0 F b .nil sc__law_parts (fun vs H Q E h => ?_) (fun cdv A outer s H vs Q E hr h => ?_)
  · obtain ⟨x, d, rfl, _⟩ := h; rfl
  obtain ⟨x, d, rfl, hx, q1, q2⟩ := h
  refine ⟨_, (pss_cons (ps_if (PW.pt (pw_and (pt_val (pe_callB (call_isiA T.cl) rfl T.z_isinstance bt_isinstance (pa_cons (pv 0) (pa_cons (pe_glob (v := .ref C) rfl T.g_Atom rfl) pa_nil)))) (pw_and1 (pt_cmpR op_eq (pe_fld (pv 0) rfl) pe_str (nomark _))))) (pss_one (ps_ret (pe_fld (pv 0) rfl))) pss_nil)
      (pss_one (ps_ret pe_non))), ?_⟩
  refine ⟨_, rfl, x, _, _, _, _, rfl, hx, .own C, kitA T d, _, rfl, ?_⟩
  cases c : isAt d with
  | true =>
    refine bT rfl ?_
    obtain ⟨k, es, rfl⟩ : ∃ k es, d = .atom k es := by cases d <;> first | exact ⟨_, _, rfl⟩ | (simp [isAt] at c; done)
    cases hx with
    | @atom a dx t _ xs _ h h2 i =>
    refine ⟨_, rfl, a, C, dx, _, .str k, rfl, h, T.cl.cl, T.cl.nK, rfl, rfl, _, rfl, ?_⟩
    by_cases c2 : k = "token"
    · subst c2
      exact ifT rfl ⟨_, rfl, a, C, dx, _, .ref t, rfl, h, T.cl.cl, T.cl.nT, rfl, q2 es t rfl (.tup h2 i)⟩
    · exact ifF (fun z => c2 (V.str.inj z)) (q1 (decide_eq_false c2))
  | false =>
    have e : tokD d = false := by cases d <;> first | rfl | (simp [isAt] at c; done)
    exact bF rfl (q1 e)
abbrev s__law_due : Stmt := top 36
theorem sc__law_due : FnScope ["model", "word", "parts"] ["model", "word"] (C8.fnScope s__law_due) := C8.fnScope_by (by decide +kernel)
theorem ok__law_due (F : C8.Def K mg "_law_due" s__law_due f fd) (b : Binds K fd ["model", "word"] []) (T : Txt K mg w C) (O : OwnS P w K mg base 4 C (spEqG C)) (o : Oth K C) (c__law_parts : C8.Cal P w K mg base 1 "_law_parts" (spTokP C) []) : C8.Cal P w K mg base 6 "_law_due" (spDue C) [] := by
  refine C8.cal0 F b .nil sc__law_due (fun vs H Q E h => ?_) (fun cdv A outer s H vs Q E hr h => ?_)
  · obtain ⟨q, x, mo, me, ol, nm, g, xs, ds, d, ms, ys, Ms, rfl, _⟩ := h; rfl
  obtain ⟨qa, x, mo, me, ol, nm, g, xs, ds, d, ms, ys, Ms, rfl, hq, hol, hxs, hat, hx, wds, hdp, zds, hoff, hmo, hme, hys, hpl, hdpt, q⟩ := h
  refine ⟨_, (pss_cons (ps_set (i := 2) sc__law_due.nd rfl (Or.inl rfl) (C8.pe_c c__law_parts hr (by first | decide | omega) rfl (pa_cons (pv 1) pa_nil)))
      (pss_cons (ps_if (PW.pt (pw_or (pt_cmpR op_isN (pv 2) pe_non (nomark _)) (pw_or (pt_cmpR op_notIn_seq (pe_ix ix_tup (pv 2) pe_int (fun _ _ => rfl)) (pe_dget (ru hr) (pv 0) pe_str (fun _ _ => rfl)) (by with_unfolding_all rfl)) (pw_or1 (pt_cmpR (op_notInTD (room65 hr)) (pe_ix ix_tup (pv 2) pe_int (fun _ _ => rfl)) (pe_dget (ru hr) (pv 0) pe_str (fun _ _ => rfl)) (by with_unfolding_all rfl)))))) (pss_one (ps_ret pe_bl)) pss_nil)
      (pss_one (ps_ret (pe_cmpR (op_inW (N := 0) O o (hr.mono (by decide))) (pe_ix ix_tup (pv 2) pe_int (fun _ _ => rfl)) (pe_dget (ru hr) (pv 0) pe_str (fun _ _ => rfl)) (by with_unfolding_all rfl)))))), ?_⟩
  have qF : takes ms Ms ds d = false → ∀ H', Same H H' → Q (.bl false) H' := fun e H' s' => by have q := q H' s'; rw [e] at q; exact q
  refine ⟨_, rfl, x, d, rfl, hx, fun hno => ?_, fun es t hd it => ?_⟩
  · refine ⟨_, rfl, rfl, _, rfl, ifT rfl (qF ?_ H (Same.refl H))⟩
    unfold takes
    split
    · rw [show decide (_ = ("token" : Str)) = false from hno]; rfl
    · rfl
  · subst hd
    obtain ⟨m, md, ch, rfl, hpm, hdm, hmt, wch, zch⟩ := hoff rfl
    refine ⟨_, rfl, rfl, _, rfl, ifF (fun z => nomatch z) ?_⟩
    cases it with
    | @tup _ ts _ et i3 =>
    cases i3 with
    | @cons x0 _ _ _ a0 i3 => cases i3 with
    | @cons x1 _ _ _ a1 i3 => cases i3 with
    | @cons x2 _ _ _ a2 i3 =>
    cases a0
    cases i3
    refine ⟨_, rfl, t, _, 0, _, rfl, rfl, SqT.of et, atI_nat (j := 0) rfl, _, rfl, qa, _, rfl, mg_mo hq, mo, ms.map V.str, rfl, .inr (SqT.of hmo), rfl, (by rw [List.all_map]; exact List.all_eq_true.mpr fun _ _ => rfl), _, rfl, ?_⟩
    rw [inVs]
    cases e1 : ms.any (fun z => decide (z = m)) with
    | false => exact bT rfl (qF (by simp [takes, e1]) H (Same.refl H))
    | true =>
    refine bF rfl ?_
    refine ⟨_, rfl, t, _, 1, _, rfl, rfl, SqT.of et, atI_nat (j := 1) rfl, _, rfl, qa, _, rfl, mg_me hq, pyd md, pydL Ms, is_dp hpm a1, .tup (SqT.of hme) (isA_dp hpl hys), pyd_shaped hpm (by omega), pyd_shaped (d := .tup Ms) (by simp only [pln]; exact hpl) (by simp only [dpt]; omega), _, rfl, ?_⟩
    cases e2 : (pydL Ms).any (fun z => PyData.eqv z (pyd md)) with
    | false => exact bT rfl (qF (by simp [takes, e2]) H (Same.refl H))
    | true =>
    refine bF rfl ?_
    refine ⟨_, rfl, t, _, 2, _, rfl, rfl, SqT.of et, atI_nat (j := 2) rfl, _, rfl, qa, _, rfl, mg_ol hq, ol, xs, ds, ch, rfl, hol, hxs, a2, wch, wds, hdp, zch, zds, fun H' s' => ?_⟩
    have q := q H' s'
    have e : takes ms Ms ds (.atom "token" [.str m, md, ch]) = ds.any fun e => eqD e ch := by
      simp only [takes, e1, e2]
      rw [← any_at hat]; rfl
    rw [e] at q; exact q
end
end Hc

set_option maxHeartbeats 8000000
namespace Hc
open PySem PySem.Spec PyProof.Rows L2 Hr
theorem small2000 {n : Nat} (h : n ≤ 2000) : n < sizeLine := Nat.lt_of_le_of_lt h (by decide)
def isBl : D → Bool | .bl _ => true | _ => false
def spRight (C N : Addr) : Sp := fun vs H Q _ => ∃ p q sl nm mo me g l xs mo' me' nm' g' ol xs2 ds ss sd, vs = [.ref p, .ref q, .ref sl] ∧ Vf N H p nm mo me g l ∧ H l = some (.lst xs) ∧ IsA C H xs ds ∧ H q = some (.dK (kM mo' me' ol nm' g')) ∧ H ol = some (.lst xs2) ∧ IsA C H xs2 ds ∧
  wrdL ds = true ∧ depL ds ≤ 0 ∧ szL ds ≤ 1000000 ∧ (∀ e ∈ ds, isAt e = true) ∧ H sl = some (.lst ss) ∧ IsA C H ss sd ∧ wrdL sd = true ∧ (∀ e ∈ sd, sz e ≤ 1000000) ∧ ss.length ≤ 1000 ∧ ∀ H', Same H H' → Q (.bl true) H'
section
variable {P : Program} {w : World} {K : PySem.W.Frag} {mg : Str → Option Value} {base : Heap} {f : Addr} {fd : FuncData} {C N : Addr}
theorem kitBo (T : Txt K mg w C) (d : D) : PySem.W.kitOne K (kyU C d) (.type "bool") = some (isBl d) := by rw [T.kit d "bool" (by simp)]; cases d <;> simp [isBl]
abbrev s__law_right : Stmt := top 37
theorem sc__law_right : FnScope ["verifier", "model", "strange", "word", "told"] ["verifier", "model", "strange"] (C8.fnScope s__law_right) := C8.fnScope_by (by decide +kernel)
theorem ok__law_right (F : C8.Def K mg "_law_right" s__law_right f fd) (b : Binds K fd ["verifier", "model", "strange"] []) (T : Txt K mg w C) (O : OwnS P w K mg base 4 C (spEqG C)) (o : Oth K C) (k_Atom : C8.Mak P w K mg base 5 "Atom" C (spInit C) []) (m_open_ones : C8.Met P w K mg base 1 N "open_ones" (spVS N) []) (m_is_open : C8.Met P w K mg base 6 N "is_open" (spVO N C) []) : C8.Cal P w K mg base 7 "_law_right" (spRight C N) [] := by
  refine C8.cal0 F b .nil sc__law_right (fun vs H Q E h => ?_) (fun cdv A outer s H vs Q E hr h => ?_)
  · obtain ⟨p, q, sl, nm, mo, me, g, l, xs, mo', me', nm', g', ol, xs2, ds, ss, sd, rfl, _⟩ := h; rfl
  obtain ⟨p, qa, sl, nm, mo, me, g, l, xs, mo', me', nm', g', ol, xs2, ds, ss, sd, rfl, ⟨dx, hp⟩, hl, hxs, hq, hol, hxs2, wds, hdp, zds, hat, hsl, hss, wsd, zsd, hsn, q⟩ := h
  refine ⟨_, (pss_cons (ps_if (pt_cmpR (op_neLW O o (hr.mono (by decide))) (C8.pe_mt0 m_open_ones hr (by first | decide | omega) (pv 0)) (pe_dget (ru hr) (pv 1) pe_str (fun _ _ => rfl)) (nomark _)) (pss_one (ps_ret pe_bl)) pss_nil)
      (pss_cons (ps_for PassesOwn.never rfl (pi_list (pe_op op_cat (pv 2) (pe_lst (pa_cons pe_non (pa_cons pe_int (pa_cons (pe_tup (pa_cons pe_str (pa_cons pe_int pa_nil))) (pa_cons (C8.pe_mk k_Atom hr (by first | decide | omega) rfl (pa_cons pe_str (pa_cons (pe_tup (pa_cons pe_str (pa_cons pe_int pa_nil))) pa_nil))) pa_nil))))))) (pg_name (i := 3) sc__law_right.nd rfl (Or.inl rfl))
      (pss_cons (ps_set (i := 4) sc__law_right.nd rfl (Or.inl rfl) (C8.pe_mt m_is_open hr (by first | decide | omega) (pv 0) (pa_cons (pv 3) pa_nil)))
      (pss_one (ps_if (PW.pt (pw_or (pt_not (pt_val (pe_callB (call_isiA T.cl) rfl T.z_isinstance bt_isinstance (pa_cons (pv 4) (pa_cons (pe_bltn (v := .ty "bool") rfl T.z_bool bt_bool rfl) pa_nil))))) (pw_or1 (pt_cmpR op_ne (pv 4) (pe_cmpR (op_inW (N := 0) O o (hr.mono (by decide))) (pv 3) (pe_dget (ru hr) (pv 1) pe_str (fun _ _ => rfl)) (by with_unfolding_all rfl)) (nomark _))))) (pss_one (ps_ret pe_bl)) pss_nil))))
      (pss_one (ps_ret pe_bl)))), ?_⟩
  refine ⟨_, rfl, p, dx, _, rfl, hp, rfl, p, nm, mo, me, g, l, xs, rfl, ⟨dx, hp⟩, hl, fun m hm => ?_⟩
  have s1 := same_new (o := .lst xs) hm
  have em : upd H m (.lst xs) m = some (.lst xs) := upd_same
  generalize upd H m (.lst xs) = H1 at *
  refine ⟨_, rfl, qa, _, rfl, mg_ol (s1 _ _ hq), m, ol, xs, xs2, ds, rfl, rfl, em, s1 _ _ hol, hxs.same s1, hxs2.same s1, wds, hdp, zds, fun H2 s2 => ⟨_, rfl, bF rfl ?_⟩⟩
  have s02 := s1.trans s2
  refine ⟨_, rfl, (by show 2 ≤ sizeLine; decide), fun t1 ht1 => ?_⟩
  have s3 := same_new (o := .tup [.str "v", .int 0]) ht1
  have e3 : upd H2 t1 (.tup [.str "v", .int 0]) t1 = some (.tup [.str "v", .int 0]) := upd_same
  generalize upd H2 t1 (.tup [.str "v", .int 0]) = H3 at *
  refine ⟨(by show 2 ≤ sizeLine; decide), fun t ht0 => ?_⟩
  have s4 := same_new (o := .tup [.str "v", .int 9]) ht0
  have e4 : upd H3 t (.tup [.str "v", .int 9]) t = some (.tup [.str "v", .int 9]) := upd_same
  generalize upd H3 t (.tup [.str "v", .int 9]) = H4 at *
  obtain ⟨c1, c2, c3⟩ := ch_ok (nm := "v") (g := 9) (by decide +kernel) (by decide) (by decide) (by decide +kernel)
  intro oo do_ ho hdo hne
  have s5 : Same H4 (upd (upd H4 do_ (.own oo)) oo (.ins C do_ [])) := same_put (same_new hdo) ho
  refine ⟨oo, do_, "challenge", t, [.str "v", .int 9], rfl, upd_same, (Is.tup e4 (.cons (.str _) (.cons (.int _) .nil))).same s5, c1, c2, c3, fun H5 hat5 oth => ⟨rfl, ?_⟩⟩
  have s45 : Same H4 H5 := fun b u e => oth b u (s5 _ _ e) (ne_of_none e ho)
  have iat : Is C H5 (.ref oo) (.atom "challenge" [.str "v", .int 9]) := .atom hat5 (s45 _ _ e4) (.cons (.str _) (.cons (.int _) .nil))
  have s05 := s02.trans (s3.trans (s4.trans s45))
  refine ⟨(by show 4 ≤ sizeLine; decide), fun L hL => ?_⟩
  have s6 := same_new (o := .lst [.non, .int 3, .ref t1, .ref oo]) hL
  have e6 : upd H5 L (.lst [.non, .int 3, .ref t1, .ref oo]) L = some (.lst [.non, .int 3, .ref t1, .ref oo]) := upd_same
  have iL : IsA C (upd H5 L (.lst [.non, .int 3, .ref t1, .ref oo])) [.non, .int 3, .ref t1, .ref oo] [.non, .int 3, .tup [.str "v", .int 0], .atom "challenge" [.str "v", .int 9]] :=
    .cons .non (.cons (.int 3) (.cons ((Is.tup e3 (.cons (.str _) (.cons (.int _) .nil))).same (s4.trans (s45.trans s6))) (.cons (iat.same s6) .nil)))
  generalize upd H5 L (.lst [.non, .int 3, .ref t1, .ref oo]) = H6 at *
  have s06 := s05.trans s6
  refine ⟨sl, L, ss, _, rfl, rfl, s06 _ _ hsl, e6, Nat.le_of_lt (small2000 (by simp; omega)), fun r hr0 => ?_⟩
  have s7 := same_new (o := .lst (ss ++ [.non, .int 3, .ref t1, .ref oo])) hr0
  have e7 : upd H6 r (.lst (ss ++ [.non, .int 3, .ref t1, .ref oo])) r = some (.lst (ss ++ [.non, .int 3, .ref t1, .ref oo])) := upd_same
  have iW := ((hss.same s06).app iL).same s7
  generalize upd H6 r (.lst (ss ++ [.non, .int 3, .ref t1, .ref oo])) = H7 at *
  have s07 := s06.trans s7
  have wW : ∀ e ∈ sd ++ [.non, .int 3, .tup [.str "v", .int 0], .atom "challenge" [.str "v", .int 9]], wrd e = true ∧ sz e ≤ 1000000 := fun e he => by
    rcases List.mem_append.mp he with he | he
    · exact ⟨wrdL_mem wsd he, zsd e he⟩
    · simp only [List.mem_cons, List.not_mem_nil, or_false] at he
      rcases he with rfl | rfl | rfl | rfl
      · exact ⟨rfl, by decide⟩
      · exact ⟨by decide, by decide⟩
      · exact ⟨by decide, by decide⟩
      · exact ⟨by decide +kernel, by decide⟩
  refine ⟨r, rfl, ⟨_, SqL.of e7⟩, for_it (walk_list (xs := ss ++ [.non, .int 3, .ref t1, .ref oo])) (fun i σ H' => ∃ v3 v4, σ = [some (.ref p), some (.ref qa), some (.ref sl), v3, v4] ∧ Same H7 H') ⟨none, none, rfl, Same.refl H7⟩ (fun i σ H' _ h => by obtain ⟨_, _, _, s⟩ := h; exact SqL.of (s _ _ e7)) ?_ ?_⟩
  · rintro i y σ H8 H9 hi ⟨v3, v4, rfl, s8⟩ ⟨rfl, hy⟩
    obtain ⟨e, he, hye⟩ := iW.at hy
    obtain ⟨we, ze⟩ := wW e (List.mem_of_getElem? he)
    have s08 := s07.trans s8
    refine ⟨_, rfl, p, dx, _, rfl, s08 _ _ hp, rfl, _, rfl, p, nm, mo, me, g, l, y, xs, ds, e, rfl, ⟨dx, s08 _ _ hp⟩, s08 _ _ hl, hxs.same s08, hye.same s8, we, wds, hdp, ze, zds, fun Ha sa => ?_⟩
    have s0a := s08.trans sa
    refine ⟨_, rfl, _, .bl _, _, _, _, rfl, .bl _, .ty _, kitBo T _, _, rfl, bF rfl ?_⟩
    refine ⟨_, rfl, _, rfl, _, rfl, qa, _, rfl, mg_ol (s0a _ _ hq), ol, xs2, ds, e, rfl, s0a _ _ hol, hxs2.same s0a, hye.same (s8.trans sa), we, wds, hdp, ze, zds, fun Hb sb => ⟨rfl, _, rfl, bF (by rw [any_at hat]; simp) ?_⟩⟩
    exact ⟨_, _, rfl, s8.trans (sa.trans sb)⟩
  · rintro σ H8 ⟨v3, v4, rfl, s8⟩
    exact q H8 (s07.trans s8)
end
end Hc

set_option maxHeartbeats 8000000
namespace Hc
open PySem PySem.Spec PyProof.Rows L2 Hr
/-- C(..) that may raise, the slots told -/
def tMkS (C : Addr) (sp : Sp) (W : WX) (t : TA) : TE := fun σ H Q => t σ H fun vs H1 => ∀ x dx, H1 x = none → H1 dx = none → dx ≠ x → sp (.ref x :: vs) (upd (upd H1 dx (.own x)) x (.ins C dx [])) (fun v H2 => v = .non ∧ Q (.ref x) H2) (WE W σ)
theorem mkS {X : Cx} {k : Nat} {f C : Addr} {fd : FuncData} {ps : List Str} {sp : Sp} {W : WX} {z : Str} {q1 q2 : Pos} {e : Expr} {es : List Expr} {t : TA} (M : Mk X.K C f) (F : FnOk X.prog X.w X.K X.mg X.base (L2.CX X.prog X.w) k f fd ps sp) (hr : Room (k + 1) X.A) (g : Gl X z) (hm : X.mg z = some (.ref C)) (hb : Binds X.K fd ps [])
    (tk : Takes X W) (ha : PA X (e :: es) t) (hdb : (z == ("__debug__" : Str)) = false := by decide) (he : starEach (e :: es) X.env = (false, eval e X.env) :: starEach es X.env := by rfl) (hpl : (backTo q2 (starEach es X.env)).any (·.1) = false := by rfl) : PE X (.Call (.Name z q1) (e :: es) [] q2) (tMkS C sp W t) := by
  refine ⟨fun pins s σ H Q I h => wpAny_Call_Name_kw (ld_glob I g hm (PySem.W.callWith_K (h₀ := X.base) I.ok.mod.kin M.kp (thn (ha.run q2 pins s σ H _ I h) fun us s1 hh => ?_) he hpl) hdb)⟩
  obtain ⟨vs, H1, J, r, q⟩ := hh
  refine ⟨J.kIn, ?_⟩
  have q3 := q _ _ (J.hok.fresh (Nat.le_succ s1.heap.objs.size)) (J.hok.fresh (Nat.le_refl _)) (Nat.ne_of_lt (Nat.lt_succ_self _))
  have J2 := Inv.made (C := C) J
  have r2 : Vals (V.ref (s1.heap.objs.size + 1) :: vs) (Value.ref (s1.heap.objs.size + 1) :: us) := .cons rfl r
  have hl : (Value.ref (s1.heap.objs.size + 1) :: us).length = ps.length := by rw [← r2.length]; exact F.len _ _ _ _ q3
  have hbd := hb _ (Value.ref (s1.heap.objs.size + 1) :: us) J2.kIn (by rw [List.append_nil]; exact hl)
  rw [List.append_nil] at hbd
  refine wpAny_call (make_map (f := f) J.kIn M.makes M.init (beq_iff_eq.mp M.fn) (codeAny_mono (F.run _ X.stack _ _ ⟨_, []⟩ _ _ _ (WE W σ) (hr.make C us []) (J2.env0.make C us []) hbd r2 q3) fun r s' hq' => ?_))
  cases r with
  | error e => exact passAt tk σ pins _ _ e s' J2 hq'
  | ok fl =>
    cases fl with
    | ret u =>
      obtain ⟨v, H', J3, rv, ev, q4⟩ := J2.after hq'
      subst ev
      exact ⟨rv, V.ref (s1.heap.objs.size + 1), H', J3, rfl, q4⟩
    | _ => exact False.elim hq'
/-- a suite that is gone through for one class alone -/
theorem pss_only {X : Cx} {b : List Stmt} {p : Prop} {t : TS} (h : p → PSs X b t) : PSs X b (fun D σ H => p ∧ t D σ H) := ⟨fun pins s σ H D I z => (h z.1).run pins s σ H D I z.2⟩
theorem kind_tok : KindOk (.str "token") := term_kind (ds := [.str "m", .tup [], .int 1]) (by decide +kernel)
def spTokR (C NV : Addr) : Sp := fun vs H _ E => ∃ x y z m md ch, vs = [x, y, z] ∧ Is C H x m ∧ Is C H y md ∧ Is C H z ch ∧ isTermK "token" [m, md, ch] = false ∧ Fit (.tup [m, md, ch]) ∧ ∀ H', Same H H' → E (.ref NV) none H'
def spVIR (C N NV : Addr) : Sp := fun vs H _ E => ∃ p dx x y z d, vs = [.ref p, x, y, z] ∧ H p = some (.ins N dx []) ∧ Is C H x d ∧ (∀ s, d = .str s → s.length ≤ sizeLine) ∧ isTxt d = false ∧ ∀ H', Same H H' → E (.ref NV) none H'
def badC (cs : List D) : Prop := (∃ m md ch, cs = [.str "token", m, md, ch] ∧ isTermK "token" [m, md, ch] = false ∧ Fit (.tup [m, md, ch])) ∨ ∃ n, cs = [.str "verifier", n] ∧ isTxt n = false ∧ ∀ s, n = .str s → s.length ≤ sizeLine
def spRfd (C : Addr) : Sp := fun vs H Q _ => ∃ c cs, vs = [.ref c] ∧ Is C H (.ref c) (.tup cs) ∧ badC cs ∧ ∀ H', Same H H' → Q (.bl true) H'
section
variable {P : Program} {w : World} {K : PySem.W.Frag} {mg : Str → Option Value} {base : Heap} {f : Addr} {fd : FuncData} {C N NV E0 : Addr} {bmB : List Value} {newId : String}
theorem ok_token_ofX {fI : Addr} {fdI : FuncData} (F : C8.Fun K "token_of" "token_of" s_token_of f fd) (T : Txt K mg w C) (M : Mk K C fI) (FX : FnOk P w K mg base (L2.CX P w) 5 fI fdI ["self", "kind", "term"] (spInitR C NV)) (bI : Binds K fdI ["self", "kind", "term"] []) :
    FnOk P w K mg base (L2.CX P w) 7 f fd ["monitor", "measure", "challenge"] (spTokR C NV) := by
  refine fnX F sc_token_of (fun vs H Q E h => ?_) (fun cdv A outer s H vs Q E hr h => ?_)
  · obtain ⟨x, y, z, m, md, ch, rfl, _⟩ := h; rfl
  obtain ⟨x, y, z, m, md, ch, rfl, hx, hy, hz, hb, hft, q⟩ := h
  refine ⟨_, pss_one (ps_ret (mkS M FX hr rfl T.g_Atom bI (takes_of rfl rfl rfl rfl) (pa_cons pe_str (pa_cons (pe_tup (pa_cons (pv 0) (pa_cons (pv 1) (pa_cons (pv 2) pa_nil)))) pa_nil)))), ?_⟩
  refine ⟨_, rfl, _, rfl, _, rfl, (by show 3 ≤ sizeLine; decide), fun t ht0 => ?_⟩
  have s1 := same_new (o := .tup [x, y, z]) ht0
  have e1 : upd H t (.tup [x, y, z]) t = some (.tup [x, y, z]) := upd_same
  generalize upd H t (.tup [x, y, z]) = H1 at *
  intro o dx ho hdo hne
  have s2 : Same H1 (upd (upd H1 dx (.own o)) o (.ins C dx [])) := same_put (same_new hdo) ho
  have i2 : Is C (upd (upd H1 dx (.own o)) o (.ins C dx [])) (.ref t) (.tup [m, md, ch]) := (Is.tup e1 (.cons (hx.same s1) (.cons (hy.same s1) (.cons (hz.same s1) .nil)))).same s2
  refine ⟨o, dx, .str "token", .ref t, .str "token", .tup [m, md, ch], rfl, upd_same, .str _, i2, ?_, hft, .inl hb, fun H' s' => ?_⟩
  · exact kind_tok
  · exact q H' (s1.trans (s2.trans s'))
theorem ok_vinitX {fI : Addr} {fdI : FuncData} {initId : String} (FB : ExcBaseFacts "ValueError" newId initId bmB) (nv : NvOk K mg NV bmB newId) (F : C8.Fun K "__init__" "Verifier.__init__" s_Verifier___init__ fI fdI) (T : Txt K mg w C) (c_is_text : C8.Cal P w K mg base 1 "is_text" (spB C (fun d => ∀ s, d = .str s → s.length ≤ sizeLine) isTxt) []) : FnOk P w K mg base (L2.CX P w) 2 fI fdI ["self", "name", "monitors", "measures"] (spVIR C N NV) := by
  refine fnX F sc_Verifier___init__ (fun vs H Q E h => ?_) (fun cdv A outer s H vs Q E hr h => ?_)
  · obtain ⟨p, dx, x, y, z, d, rfl, _⟩ := h; rfl
  obtain ⟨p, dx, x, y, z, d, rfl, hp, hx, hd, hb, q⟩ := h
  refine ⟨_, (pss_cons (ps_if (pt_not (pt_val (C8.pe_c c_is_text hr (by first | decide | omega) rfl (pa_cons (pv 1) pa_nil)))) (pss_one (ps_raise rfl (takes_of rfl rfl rfl rfl) (pmk_own0 FB nv.q nv.g nv.k (raises_own nv.e nv.t) rfl))) pss_nil)
      (pss_cons (ps_fld (pv 0) (pv 1) rfl)
      (pss_cons (ps_fld (pv 0) (pv 2) rfl)
      (pss_cons (ps_fld (pv 0) (pv 3) rfl)
      (pss_cons (ps_fld (pv 0) pe_int rfl)
      (pss_one (ps_fld (pv 0) (pe_lst pa_nil) rfl))))))), ?_⟩
  refine ⟨_, rfl, x, d, rfl, hx, hd, fun H1 s1 => ⟨_, rfl, bT (by rw [hb]; rfl) ?_⟩⟩
  exact q H1 s1
abbrev s__law_refused : Stmt := top 33
theorem sc__law_refused : FnScope ["call", "e"] ["call"] (C8.fnScope s__law_refused) := C8.fnScope_by (by decide +kernel)
theorem ok__law_refused {fV aT : Addr} {fdV fT : FuncData} (F : C8.Def K mg "_law_refused" s__law_refused f fd) (b : Binds K fd ["call"] []) (T : Txt K mg w C) (G : VrC K mg N) (nv : NvOk K mg NV bmB newId) (xc : ExcC K NV) (hE : mg "HermitError" = some (.ref E0)) (hx : PySem.W.exmOne K (.ref NV) (.ref E0) = some true) (hki : PySem.W.kitOne K (.ref NV) (.ref NV) = some true)
    (MV : Mk K N fV) (FV : FnOk P w K mg base (L2.CX P w) 2 fV fdV ["self", "name", "monitors", "measures"] (spVIR C N NV)) (bV : Binds K fdV ["self", "name", "monitors", "measures"] [])
    (FT : FnOk P w K mg base (L2.CX P w) 7 aT fT ["monitor", "measure", "challenge"] (spTokR C NV)) (hmT : mg "token_of" = some (.ref aT)) (kT : PySem.W.keepIn K (.ref aT) = true) (bT' : Binds K fT ["monitor", "measure", "challenge"] []) : C8.Cal P w K mg base 8 "_law_refused" (spRfd C) [] := by
  refine C8.cal0 F b .nil sc__law_refused (fun vs H Q E h => ?_) (fun cdv A outer s H vs Q E hr h => ?_)
  · obtain ⟨c, cs, rfl, _⟩ := h; rfl
  obtain ⟨c, cs, rfl, hc, hbad, q⟩ := h
  refine ⟨_, pss_cons (ps_try_as (c := .ref E0) (i := 1) (Wout := fun _ _ _ _ => False) rfl rfl sc__law_refused.nd rfl rfl ⟨rfl, by decide, .inl hE⟩ (fun u s' ⟨_, _, _, _, _, _, _, _, _, _, _, _, _, _, _, _, z⟩ => z.elim)
      (fun W pn xe tk _ => pss_one (ps_if (pt_cmpR op_eq (pe_ix (r := rIxT K) ix_tup (pv 0) pe_int (fun _ _ => rfl)) pe_str (nomark _)) (pss_one (ps_expr (pe_callS FT (hr.mono (by decide)) rfl hmT kT bT' (passAt tk) (pa_cons (pe_ix (r := rIxT K) ix_tup (pv 0) pe_int (fun _ _ => rfl)) (pa_cons (pe_ix (r := rIxT K) ix_tup (pv 0) pe_int (fun _ _ => rfl)) (pa_cons (pe_ix (r := rIxT K) ix_tup (pv 0) pe_int (fun _ _ => rfl)) pa_nil)))))) (pss_one (ps_expr (mkS MV FV (hr.mono (by decide)) rfl G.g_Verifier bV tk (pa_cons (pe_ix (r := rIxT K) ix_tup (pv 0) pe_int (fun _ _ => rfl)) (pa_cons (pe_tup pa_nil) (pa_cons (pe_tup pa_nil) pa_nil))))))))
      (fun a oe cls d pn hz hf => pss_only (p := cls = .ref NV ∧ d = none) fun ⟨e1, e2⟩ => by
        subst e1 e2
        exact pss_one (ps_ret (pe_callB (call_isE xc hz hf) rfl T.z_isinstance bt_isinstance (pa_cons (pv 1) (pa_cons (pe_glob (v := .ref NV) rfl nv.g rfl) pa_nil))))))
    (pss_one (ps_ret pe_bl)), ?_⟩
  cases hc with
  | @tup _ xs _ hcc ic =>
  rcases hbad with ⟨m, md, ch, rfl, hb, hft⟩ | ⟨n, rfl, hb, hn⟩
  · cases ic with
    | @cons x0 _ _ _ a0 ic => cases ic with
    | @cons x1 _ _ _ a1 ic => cases ic with
    | @cons x2 _ _ _ a2 ic => cases ic with
    | @cons x3 _ _ _ a3 ic =>
    cases a0
    cases ic
    refine ⟨_, rfl, c, _, 0, _, rfl, rfl, SqT.of hcc, atI_nat (j := 0) rfl, rfl, _, rfl, ifT rfl ?_⟩
    refine ⟨_, rfl, c, _, 1, x1, rfl, rfl, SqT.of hcc, atI_nat (j := 1) rfl, _, rfl, c, _, 2, x2, rfl, rfl, SqT.of hcc, atI_nat (j := 2) rfl, _, rfl, c, _, 3, x3, rfl, rfl, SqT.of hcc, atI_nat (j := 3) rfl, x1, x2, x3, m, md, ch, rfl, a1, a2, a3, hb, hft, fun H' s' => ?_⟩
    refine ⟨true, hx, fun _ a na => ⟨⟨rfl, rfl⟩, _, rfl, .ref NV, .ref NV, true, rfl, fun u hu => hu, hki, ?_⟩, fun z => nomatch z⟩
    exact q H' s'
  · cases ic with
    | @cons x0 _ _ _ a0 ic => cases ic with
    | @cons x1 _ _ _ a1 ic =>
    cases a0
    cases ic
    refine ⟨_, rfl, c, _, 0, _, rfl, rfl, SqT.of hcc, atI_nat (j := 0) rfl, rfl, _, rfl, ifF (fun z => absurd (V.str.inj z) (by decide +kernel)) ?_⟩
    refine ⟨_, rfl, c, _, 1, x1, rfl, rfl, SqT.of hcc, atI_nat (j := 1) rfl, (by show 0 ≤ sizeLine; decide), fun t1 h1 => ⟨(by show 0 ≤ sizeLine; decide), fun t2 h2 => ?_⟩⟩
    intro o dx ho hdo hne
    have s1 := same_new (o := .tup []) h1
    have s2 := same_new (o := .tup []) h2
    have s3 : Same (upd (upd H t1 (.tup [])) t2 (.tup [])) (upd (upd (upd (upd H t1 (.tup [])) t2 (.tup [])) dx (.own o)) o (.ins N dx [])) := same_put (same_new hdo) ho
    refine ⟨o, dx, x1, .ref t1, .ref t2, n, rfl, upd_same, a1.same (s1.trans (s2.trans s3)), hn, hb, fun H' s' => ?_⟩
    refine ⟨true, hx, fun _ a na => ⟨⟨rfl, rfl⟩, _, rfl, .ref NV, .ref NV, true, rfl, fun u hu => hu, hki, ?_⟩, fun z => nomatch z⟩
    exact q H' (s1.trans (s2.trans (s3.trans s')))
end
end Hc

set_option maxHeartbeats 8000000
namespace Hc
open PySem PySem.Spec PyProof.Rows L2 Hr
mutual
/-- tuples alone within -/
def flatT : D → Bool
  | .tup ds => flatTL ds
  | .lst _ => false
  | .dct => false
  | .atom _ _ => false
  | _ => true
def flatTL : List D → Bool
  | [] => true
  | d :: ds => flatT d && flatTL ds
end
mutual
theorem is_tups {C : Addr} {H H' : Hp} (k : Tups H H') : ∀ {x : V} {d : D}, flatT d = true → Is C H x d → Is C H' x d
  | _, _, _, .non => .non
  | _, _, _, .bl b => .bl b
  | _, _, _, .int i => .int i
  | _, _, _, .str s => .str s
  | _, _, c, .tup e t => .tup (k _ _ e) (isA_tups k (by simpa [flatT] using c) t)
  | _, _, c, .lst _ _ => by simp [flatT] at c
  | _, _, c, .dct _ => by simp [flatT] at c
  | _, _, c, .atom _ _ _ => by simp [flatT] at c
theorem isA_tups {C : Addr} {H H' : Hp} (k : Tups H H') : ∀ {xs : List V} {ds : List D}, flatTL ds = true → IsA C H xs ds → IsA C H' xs ds
  | _, _, _, .nil => .nil
  | _, _, c, .cons e t => by
    simp only [flatTL, Bool.and_eq_true] at c
    exact .cons (is_tups k c.1 e) (isA_tups k c.2 t)
end
abbrev measD : List D := [.tup [], .tup [.tup [.str "page", .int 0, .tup [.int 1, .int 2, .int 3, .int 4]]], .tup [.tup [.str "page", .int 0, .tup [.int 1, .int 2, .int 3, .int 4]], .tup [.str "cpu", .tup [.tup [.str "token", .int 1, .int 0], .tup [.str "end"]], .tup [.int 0, .int 0, .int 0, .int 0]]], .tup [.tup [.str "cpu", .tup [.tup [.str "token", .int 1, .int 0], .tup [.str "end"]], .tup [.int 0, .int 0, .int 0, .int 0]], .tup [.str "page", .int 0, .tup [.int 1, .int 2, .int 3, .int 4]]]]
def spMeas (C : Addr) : Sp := fun vs H Q _ => vs = [] ∧ ∀ H' l xs, Same H H' → H l = none → H' l = some (.lst xs) → IsA C H' xs measD → Q (.ref l) H'
section
variable {P : Program} {w : World} {K : PySem.W.Frag} {mg : Str → Option Value} {base : Heap} {f : Addr} {fd : FuncData} {C : Addr}
abbrev s__law_measures : Stmt := top 32
theorem sc__law_measures : FnScope ["program", "rows"] [] (C8.fnScope s__law_measures) := C8.fnScope_by (by decide +kernel)
theorem ok__law_measures (F : C8.Def K mg "_law_measures" s__law_measures f fd) (b : Binds K fd [] []) (T : Txt K mg w C) : C8.Cal P w K mg base 1 "_law_measures" (spMeas C) [] := by
  refine C8.cal0 F b .nil sc__law_measures (fun vs H Q E h => ?_) (fun cdv A outer s H vs Q E hr h => ?_)
  · obtain ⟨rfl, _⟩ := h; rfl
  obtain ⟨rfl, q⟩ := h
  refine ⟨_, (pss_cons (ps_set (i := 0) sc__law_measures.nd rfl (Or.inl rfl) (pe_tup (pa_cons (pe_tup (pa_cons pe_str (pa_cons pe_int (pa_cons pe_int pa_nil)))) (pa_cons (pe_tup (pa_cons pe_str pa_nil)) pa_nil))))
      (pss_cons (ps_set (i := 1) sc__law_measures.nd rfl (Or.inl rfl) (pe_lst (pa_cons (pe_tup pa_nil) (pa_cons (pe_tup (pa_cons (pe_tup (pa_cons pe_str (pa_cons pe_int (pa_cons (pe_tup (pa_cons pe_int (pa_cons pe_int (pa_cons pe_int (pa_cons pe_int pa_nil))))) pa_nil)))) pa_nil)) (pa_cons (pe_tup (pa_cons (pe_tup (pa_cons pe_str (pa_cons pe_int (pa_cons (pe_tup (pa_cons pe_int (pa_cons pe_int (pa_cons pe_int (pa_cons pe_int pa_nil))))) pa_nil)))) (pa_cons (pe_tup (pa_cons pe_str (pa_cons (pv 0) (pa_cons (pe_tup (pa_cons pe_int (pa_cons pe_int (pa_cons pe_int (pa_cons pe_int pa_nil))))) pa_nil)))) pa_nil))) pa_nil)))))
      (pss_cons (ps_expr (pe_bm PySem.F.plainAttrs_list PySem.F.slot_list_append PySem.F.type_list_append mt_append (pv 1) (pa_cons (pe_tup (pa_cons (pe_tup (pa_cons pe_str (pa_cons (pv 0) (pa_cons (pe_tup (pa_cons pe_int (pa_cons pe_int (pa_cons pe_int (pa_cons pe_int pa_nil))))) pa_nil)))) (pa_cons (pe_tup (pa_cons pe_str (pa_cons pe_int (pa_cons (pe_tup (pa_cons pe_int (pa_cons pe_int (pa_cons pe_int (pa_cons pe_int pa_nil))))) pa_nil)))) pa_nil))) pa_nil)))
      (pss_one (ps_ret (pv 1)))))), ?_⟩
  have tot := Same.refl H
  refine ⟨(by show 3 ≤ sizeLine; decide), fun t1 h_t1 => ?_⟩
  have s_t1 := same_new (o := .tup [.str "token", .int 1, .int 0]) h_t1
  have i_t1 : Is C (upd H t1 (.tup [.str "token", .int 1, .int 0])) (.ref t1) (.tup [.str "token", .int 1, .int 0]) := .tup upd_same (.cons (.str _) (.cons (.int _) (.cons (.int _) .nil)))
  have tot := tot.trans s_t1
  generalize upd H t1 (.tup [.str "token", .int 1, .int 0]) = G1 at *
  refine ⟨(by show 1 ≤ sizeLine; decide), fun t2 h_t2 => ?_⟩
  have s_t2 := same_new (o := .tup [.str "end"]) h_t2
  have i_t2 : Is C (upd G1 t2 (.tup [.str "end"])) (.ref t2) (.tup [.str "end"]) := .tup upd_same (.cons (.str _) .nil)
  have i_t1 := i_t1.same s_t2
  have tot := tot.trans s_t2
  generalize upd G1 t2 (.tup [.str "end"]) = G2 at *
  refine ⟨(by show 2 ≤ sizeLine; decide), fun pr h_pr => ?_⟩
  have s_pr := same_new (o := .tup [.ref t1, .ref t2]) h_pr
  have i_pr : Is C (upd G2 pr (.tup [.ref t1, .ref t2])) (.ref pr) (.tup [.tup [.str "token", .int 1, .int 0], .tup [.str "end"]]) := .tup upd_same (.cons (i_t1.same s_pr) (.cons (i_t2.same s_pr) .nil))
  have i_t1 := i_t1.same s_pr
  have i_t2 := i_t2.same s_pr
  have tot := tot.trans s_pr
  generalize upd G2 pr (.tup [.ref t1, .ref t2]) = G3 at *
  refine ⟨(by show 0 ≤ sizeLine; decide), fun e0 h_e0 => ?_⟩
  have s_e0 := same_new (o := .tup []) h_e0
  have i_e0 : Is C (upd G3 e0 (.tup [])) (.ref e0) (.tup []) := .tup upd_same .nil
  have i_t1 := i_t1.same s_e0
  have i_t2 := i_t2.same s_e0
  have i_pr := i_pr.same s_e0
  have tot := tot.trans s_e0
  generalize upd G3 e0 (.tup []) = G4 at *
  refine ⟨(by show 4 ≤ sizeLine; decide), fun w1 h_w1 => ?_⟩
  have s_w1 := same_new (o := .tup [.int 1, .int 2, .int 3, .int 4]) h_w1
  have i_w1 : Is C (upd G4 w1 (.tup [.int 1, .int 2, .int 3, .int 4])) (.ref w1) (.tup [.int 1, .int 2, .int 3, .int 4]) := .tup upd_same (.cons (.int _) (.cons (.int _) (.cons (.int _) (.cons (.int _) .nil))))
  have i_t1 := i_t1.same s_w1
  have i_t2 := i_t2.same s_w1
  have i_pr := i_pr.same s_w1
  have i_e0 := i_e0.same s_w1
  have tot := tot.trans s_w1
  generalize upd G4 w1 (.tup [.int 1, .int 2, .int 3, .int 4]) = G5 at *
  refine ⟨(by show 3 ≤ sizeLine; decide), fun g1 h_g1 => ?_⟩
  have s_g1 := same_new (o := .tup [.str "page", .int 0, .ref w1]) h_g1
  have i_g1 : Is C (upd G5 g1 (.tup [.str "page", .int 0, .ref w1])) (.ref g1) (.tup [.str "page", .int 0, .tup [.int 1, .int 2, .int 3, .int 4]]) := .tup upd_same (.cons (.str _) (.cons (.int _) (.cons (i_w1.same s_g1) .nil)))
  have i_t1 := i_t1.same s_g1
  have i_t2 := i_t2.same s_g1
  have i_pr := i_pr.same s_g1
  have i_e0 := i_e0.same s_g1
  have i_w1 := i_w1.same s_g1
  have tot := tot.trans s_g1
  generalize upd G5 g1 (.tup [.str "page", .int 0, .ref w1]) = G6 at *
  refine ⟨(by show 1 ≤ sizeLine; decide), fun m1 h_m1 => ?_⟩
  have s_m1 := same_new (o := .tup [.ref g1]) h_m1
  have i_m1 : Is C (upd G6 m1 (.tup [.ref g1])) (.ref m1) (.tup [.tup [.str "page", .int 0, .tup [.int 1, .int 2, .int 3, .int 4]]]) := .tup upd_same (.cons (i_g1.same s_m1) .nil)
  have i_t1 := i_t1.same s_m1
  have i_t2 := i_t2.same s_m1
  have i_pr := i_pr.same s_m1
  have i_e0 := i_e0.same s_m1
  have i_w1 := i_w1.same s_m1
  have i_g1 := i_g1.same s_m1
  have tot := tot.trans s_m1
  generalize upd G6 m1 (.tup [.ref g1]) = G7 at *
  refine ⟨(by show 4 ≤ sizeLine; decide), fun w2 h_w2 => ?_⟩
  have s_w2 := same_new (o := .tup [.int 1, .int 2, .int 3, .int 4]) h_w2
  have i_w2 : Is C (upd G7 w2 (.tup [.int 1, .int 2, .int 3, .int 4])) (.ref w2) (.tup [.int 1, .int 2, .int 3, .int 4]) := .tup upd_same (.cons (.int _) (.cons (.int _) (.cons (.int _) (.cons (.int _) .nil))))
  have i_t1 := i_t1.same s_w2
  have i_t2 := i_t2.same s_w2
  have i_pr := i_pr.same s_w2
  have i_e0 := i_e0.same s_w2
  have i_w1 := i_w1.same s_w2
  have i_g1 := i_g1.same s_w2
  have i_m1 := i_m1.same s_w2
  have tot := tot.trans s_w2
  generalize upd G7 w2 (.tup [.int 1, .int 2, .int 3, .int 4]) = G8 at *
  refine ⟨(by show 3 ≤ sizeLine; decide), fun g2 h_g2 => ?_⟩
  have s_g2 := same_new (o := .tup [.str "page", .int 0, .ref w2]) h_g2
  have i_g2 : Is C (upd G8 g2 (.tup [.str "page", .int 0, .ref w2])) (.ref g2) (.tup [.str "page", .int 0, .tup [.int 1, .int 2, .int 3, .int 4]]) := .tup upd_same (.cons (.str _) (.cons (.int _) (.cons (i_w2.same s_g2) .nil)))
  have i_t1 := i_t1.same s_g2
  have i_t2 := i_t2.same s_g2
  have i_pr := i_pr.same s_g2
  have i_e0 := i_e0.same s_g2
  have i_w1 := i_w1.same s_g2
  have i_g1 := i_g1.same s_g2
  have i_m1 := i_m1.same s_g2
  have i_w2 := i_w2.same s_g2
  have tot := tot.trans s_g2
  generalize upd G8 g2 (.tup [.str "page", .int 0, .ref w2]) = G9 at *
  refine ⟨_, rfl, (by show 4 ≤ sizeLine; decide), fun z2 h_z2 => ?_⟩
  have s_z2 := same_new (o := .tup [.int 0, .int 0, .int 0, .int 0]) h_z2
  have i_z2 : Is C (upd G9 z2 (.tup [.int 0, .int 0, .int 0, .int 0])) (.ref z2) (.tup [.int 0, .int 0, .int 0, .int 0]) := .tup upd_same (.cons (.int _) (.cons (.int _) (.cons (.int _) (.cons (.int _) .nil))))
  have i_t1 := i_t1.same s_z2
  have i_t2 := i_t2.same s_z2
  have i_pr := i_pr.same s_z2
  have i_e0 := i_e0.same s_z2
  have i_w1 := i_w1.same s_z2
  have i_g1 := i_g1.same s_z2
  have i_m1 := i_m1.same s_z2
  have i_w2 := i_w2.same s_z2
  have i_g2 := i_g2.same s_z2
  have tot := tot.trans s_z2
  generalize upd G9 z2 (.tup [.int 0, .int 0, .int 0, .int 0]) = G10 at *
  refine ⟨(by show 3 ≤ sizeLine; decide), fun c2 h_c2 => ?_⟩
  have s_c2 := same_new (o := .tup [.str "cpu", .ref pr, .ref z2]) h_c2
  have i_c2 : Is C (upd G10 c2 (.tup [.str "cpu", .ref pr, .ref z2])) (.ref c2) (.tup [.str "cpu", .tup [.tup [.str "token", .int 1, .int 0], .tup [.str "end"]], .tup [.int 0, .int 0, .int 0, .int 0]]) := .tup upd_same (.cons (.str _) (.cons (i_pr.same s_c2) (.cons (i_z2.same s_c2) .nil)))
  have i_t1 := i_t1.same s_c2
  have i_t2 := i_t2.same s_c2
  have i_pr := i_pr.same s_c2
  have i_e0 := i_e0.same s_c2
  have i_w1 := i_w1.same s_c2
  have i_g1 := i_g1.same s_c2
  have i_m1 := i_m1.same s_c2
  have i_w2 := i_w2.same s_c2
  have i_g2 := i_g2.same s_c2
  have i_z2 := i_z2.same s_c2
  have tot := tot.trans s_c2
  generalize upd G10 c2 (.tup [.str "cpu", .ref pr, .ref z2]) = G11 at *
  refine ⟨(by show 2 ≤ sizeLine; decide), fun m2 h_m2 => ?_⟩
  have s_m2 := same_new (o := .tup [.ref g2, .ref c2]) h_m2
  have i_m2 : Is C (upd G11 m2 (.tup [.ref g2, .ref c2])) (.ref m2) (.tup [.tup [.str "page", .int 0, .tup [.int 1, .int 2, .int 3, .int 4]], .tup [.str "cpu", .tup [.tup [.str "token", .int 1, .int 0], .tup [.str "end"]], .tup [.int 0, .int 0, .int 0, .int 0]]]) := .tup upd_same (.cons (i_g2.same s_m2) (.cons (i_c2.same s_m2) .nil))
  have i_t1 := i_t1.same s_m2
  have i_t2 := i_t2.same s_m2
  have i_pr := i_pr.same s_m2
  have i_e0 := i_e0.same s_m2
  have i_w1 := i_w1.same s_m2
  have i_g1 := i_g1.same s_m2
  have i_m1 := i_m1.same s_m2
  have i_w2 := i_w2.same s_m2
  have i_g2 := i_g2.same s_m2
  have i_z2 := i_z2.same s_m2
  have i_c2 := i_c2.same s_m2
  have tot := tot.trans s_m2
  generalize upd G11 m2 (.tup [.ref g2, .ref c2]) = G12 at *
  refine ⟨(by show 3 ≤ sizeLine; decide), fun l hl => ?_⟩
  have sl := same_new (o := .lst [.ref e0, .ref m1, .ref m2]) hl
  have el : upd G12 l (.lst [.ref e0, .ref m1, .ref m2]) l = some (.lst [.ref e0, .ref m1, .ref m2]) := upd_same
  have hl0 := tot.free hl
  have i_t1 := i_t1.same sl
  have i_t2 := i_t2.same sl
  have i_pr := i_pr.same sl
  have i_e0 := i_e0.same sl
  have i_w1 := i_w1.same sl
  have i_g1 := i_g1.same sl
  have i_m1 := i_m1.same sl
  have i_w2 := i_w2.same sl
  have i_g2 := i_g2.same sl
  have i_z2 := i_z2.same sl
  have i_c2 := i_c2.same sl
  have i_m2 := i_m2.same sl
  have tot := tot.trans sl
  generalize upd G12 l (.lst [.ref e0, .ref m1, .ref m2]) = J at *
  refine ⟨_, rfl, .inl ⟨rfl, _, SqL.of el⟩, ?_⟩
  refine ⟨_, rfl, (by show 4 ≤ sizeLine; decide), fun z3 h_z3 => ?_⟩
  have s_z3 := same_new (o := .tup [.int 0, .int 0, .int 0, .int 0]) h_z3
  have i_z3 : Is C (upd J z3 (.tup [.int 0, .int 0, .int 0, .int 0])) (.ref z3) (.tup [.int 0, .int 0, .int 0, .int 0]) := .tup upd_same (.cons (.int _) (.cons (.int _) (.cons (.int _) (.cons (.int _) .nil))))
  have i_t1 := i_t1.same s_z3
  have i_t2 := i_t2.same s_z3
  have i_pr := i_pr.same s_z3
  have i_e0 := i_e0.same s_z3
  have i_w1 := i_w1.same s_z3
  have i_g1 := i_g1.same s_z3
  have i_m1 := i_m1.same s_z3
  have i_w2 := i_w2.same s_z3
  have i_g2 := i_g2.same s_z3
  have i_z2 := i_z2.same s_z3
  have i_c2 := i_c2.same s_z3
  have i_m2 := i_m2.same s_z3
  have tot := tot.trans s_z3
  have el := s_z3 _ _ el
  generalize upd J z3 (.tup [.int 0, .int 0, .int 0, .int 0]) = G13 at *
  refine ⟨(by show 3 ≤ sizeLine; decide), fun c3 h_c3 => ?_⟩
  have s_c3 := same_new (o := .tup [.str "cpu", .ref pr, .ref z3]) h_c3
  have i_c3 : Is C (upd G13 c3 (.tup [.str "cpu", .ref pr, .ref z3])) (.ref c3) (.tup [.str "cpu", .tup [.tup [.str "token", .int 1, .int 0], .tup [.str "end"]], .tup [.int 0, .int 0, .int 0, .int 0]]) := .tup upd_same (.cons (.str _) (.cons (i_pr.same s_c3) (.cons (i_z3.same s_c3) .nil)))
  have i_t1 := i_t1.same s_c3
  have i_t2 := i_t2.same s_c3
  have i_pr := i_pr.same s_c3
  have i_e0 := i_e0.same s_c3
  have i_w1 := i_w1.same s_c3
  have i_g1 := i_g1.same s_c3
  have i_m1 := i_m1.same s_c3
  have i_w2 := i_w2.same s_c3
  have i_g2 := i_g2.same s_c3
  have i_z2 := i_z2.same s_c3
  have i_c2 := i_c2.same s_c3
  have i_m2 := i_m2.same s_c3
  have i_z3 := i_z3.same s_c3
  have tot := tot.trans s_c3
  have el := s_c3 _ _ el
  generalize upd G13 c3 (.tup [.str "cpu", .ref pr, .ref z3]) = G14 at *
  refine ⟨(by show 4 ≤ sizeLine; decide), fun w3 h_w3 => ?_⟩
  have s_w3 := same_new (o := .tup [.int 1, .int 2, .int 3, .int 4]) h_w3
  have i_w3 : Is C (upd G14 w3 (.tup [.int 1, .int 2, .int 3, .int 4])) (.ref w3) (.tup [.int 1, .int 2, .int 3, .int 4]) := .tup upd_same (.cons (.int _) (.cons (.int _) (.cons (.int _) (.cons (.int _) .nil))))
  have i_t1 := i_t1.same s_w3
  have i_t2 := i_t2.same s_w3
  have i_pr := i_pr.same s_w3
  have i_e0 := i_e0.same s_w3
  have i_w1 := i_w1.same s_w3
  have i_g1 := i_g1.same s_w3
  have i_m1 := i_m1.same s_w3
  have i_w2 := i_w2.same s_w3
  have i_g2 := i_g2.same s_w3
  have i_z2 := i_z2.same s_w3
  have i_c2 := i_c2.same s_w3
  have i_m2 := i_m2.same s_w3
  have i_z3 := i_z3.same s_w3
  have i_c3 := i_c3.same s_w3
  have tot := tot.trans s_w3
  have el := s_w3 _ _ el
  generalize upd G14 w3 (.tup [.int 1, .int 2, .int 3, .int 4]) = G15 at *
  refine ⟨(by show 3 ≤ sizeLine; decide), fun g3 h_g3 => ?_⟩
  have s_g3 := same_new (o := .tup [.str "page", .int 0, .ref w3]) h_g3
  have i_g3 : Is C (upd G15 g3 (.tup [.str "page", .int 0, .ref w3])) (.ref g3) (.tup [.str "page", .int 0, .tup [.int 1, .int 2, .int 3, .int 4]]) := .tup upd_same (.cons (.str _) (.cons (.int _) (.cons (i_w3.same s_g3) .nil)))
  have i_t1 := i_t1.same s_g3
  have i_t2 := i_t2.same s_g3
  have i_pr := i_pr.same s_g3
  have i_e0 := i_e0.same s_g3
  have i_w1 := i_w1.same s_g3
  have i_g1 := i_g1.same s_g3
  have i_m1 := i_m1.same s_g3
  have i_w2 := i_w2.same s_g3
  have i_g2 := i_g2.same s_g3
  have i_z2 := i_z2.same s_g3
  have i_c2 := i_c2.same s_g3
  have i_m2 := i_m2.same s_g3
  have i_z3 := i_z3.same s_g3
  have i_c3 := i_c3.same s_g3
  have i_w3 := i_w3.same s_g3
  have tot := tot.trans s_g3
  have el := s_g3 _ _ el
  generalize upd G15 g3 (.tup [.str "page", .int 0, .ref w3]) = G16 at *
  refine ⟨(by show 2 ≤ sizeLine; decide), fun m3 h_m3 => ?_⟩
  have s_m3 := same_new (o := .tup [.ref c3, .ref g3]) h_m3
  have i_m3 : Is C (upd G16 m3 (.tup [.ref c3, .ref g3])) (.ref m3) (.tup [.tup [.str "cpu", .tup [.tup [.str "token", .int 1, .int 0], .tup [.str "end"]], .tup [.int 0, .int 0, .int 0, .int 0]], .tup [.str "page", .int 0, .tup [.int 1, .int 2, .int 3, .int 4]]]) := .tup upd_same (.cons (i_c3.same s_m3) (.cons (i_g3.same s_m3) .nil))
  have i_t1 := i_t1.same s_m3
  have i_t2 := i_t2.same s_m3
  have i_pr := i_pr.same s_m3
  have i_e0 := i_e0.same s_m3
  have i_w1 := i_w1.same s_m3
  have i_g1 := i_g1.same s_m3
  have i_m1 := i_m1.same s_m3
  have i_w2 := i_w2.same s_m3
  have i_g2 := i_g2.same s_m3
  have i_z2 := i_z2.same s_m3
  have i_c2 := i_c2.same s_m3
  have i_m2 := i_m2.same s_m3
  have i_z3 := i_z3.same s_m3
  have i_c3 := i_c3.same s_m3
  have i_w3 := i_w3.same s_m3
  have i_g3 := i_g3.same s_m3
  have tot := tot.trans s_m3
  have el := s_m3 _ _ el
  generalize upd G16 m3 (.tup [.ref c3, .ref g3]) = G17 at *
  refine ⟨l, _, .ref m3, rfl, rfl, el, (by show 3 < sizeLine; decide), _, rfl, ?_⟩
  have kq : Tups G17 (upd G17 l (.lst [.ref e0, .ref m1, .ref m2, .ref m3])) := Tups.put el
  refine q _ l [.ref e0, .ref m1, .ref m2, .ref m3] (fun bb oo e => ?_) hl0 upd_same (.cons (is_tups kq rfl i_e0) (.cons (is_tups kq rfl i_m1) (.cons (is_tups kq rfl i_m2) (.cons (is_tups kq rfl i_m3) .nil))))
  rw [upd_ne (ne_of_none e hl0)]; exact tot _ _ e
end
end Hc

set_option maxHeartbeats 8000000
namespace Hc
open PySem PySem.Spec PyProof.Rows L2 Hr
def ChD (e : D) : Prop := ∃ nm g, e = .atom "challenge" [.str nm, .int g] ∧ (nm = "v" ∨ nm = "w" ∨ nm = "x") ∧ 0 ≤ g ∧ g ≤ 1000
theorem ChD.ok {e : D} (h : ChD e) : wrd e = true ∧ okW 40 40 0 e = true ∧ rank e = 1 ∧ sz e ≤ 10 ∧ txl e ∧ isAt e = true ∧ tokD e = false ∧ dep e = 0 := by
  obtain ⟨nm, g, rfl, hn, g0, g1⟩ := h
  have hl : nm.length ≤ sizeLine := by rcases hn with rfl | rfl | rfl <;> decide +kernel
  have z1 : ¬ (("challenge" : Str) = "seal" ∨ ("challenge" : Str) = "page") := by decide +kernel
  have z2 : ¬ (("challenge" : Str) = "token") := by decide +kernel
  have ht : txtOk nm = true := by rcases hn with rfl | rfl | rfl <;> decide +kernel
  refine ⟨?_, ?_, ?_, by simp [sz, szL], ?_, rfl, by simp only [tokD]; exact decide_eq_false z2, rfl⟩
  · simp only [wrd, wrdL]
    obtain ⟨h1, _, _⟩ := ch_ok ht g0 g1 hl
    simp [h1]
  · simp only [okW, rank, rankL, if_neg z1]; decide
  · simp only [rank, rankL, if_neg z1]; decide
  · simp only [txl, txlL]; exact ⟨hl, trivial, trivial⟩
theorem tok_ok {m : Str} (hm : m = "m" ∨ m = "n" ∨ m = "o") {md ch : D} (hd : md ∈ measD) (h1 : okW 40 40 0 ch = true) (h2 : rank ch ≤ 30) (h3 : sz ch ≤ 1000) (h4 : txl ch) (h5 : wrd ch = true) : isTermK "token" [.str m, md, ch] = true ∧ rank (.atom "token" [.str m, md, ch]) ≤ mostR "token" ∧ Fit (.tup [.str m, md, ch]) ∧ wrdL [.str m, md, ch] = true ∧ rank md = 0 ∧ sz md ≤ 100 ∧ pln md = true ∧ dpt md ≤ 60 ∧ isTu md = true ∧ wrd md = true ∧ dep md ≤ 8 := by
  have e : formsOf "token" = some (["text", "tuple", "word"] : List Str) := by decide +kernel
  have t1 : partOk (.str m) "text" = true := by rcases hm with rfl | rfl | rfl <;> decide +kernel
  have hml : m.length ≤ sizeLine := by rcases hm with rfl | rfl | rfl <;> decide +kernel
  have t2 : partOk md "tuple" = true ∧ rank md = 0 ∧ sz md ≤ 100 ∧ pln md = true ∧ dpt md ≤ 60 ∧ isTu md = true ∧ wrd md = true ∧ dep md ≤ 8 := by
    simp only [measD, List.mem_cons, List.not_mem_nil, or_false] at hd
    rcases hd with rfl | rfl | rfl | rfl <;> exact ⟨by decide +kernel, by decide +kernel, by decide +kernel, by decide +kernel, by decide +kernel, by decide +kernel, by decide +kernel, by decide +kernel⟩
  have t2x : txl md := by
    simp only [measD, List.mem_cons, List.not_mem_nil, or_false] at hd
    have q1 : ("page" : Str).length ≤ sizeLine := by decide +kernel
    have q2 : ("cpu" : Str).length ≤ sizeLine := by decide +kernel
    have q3 : ("token" : Str).length ≤ sizeLine := by decide +kernel
    have q4 : ("end" : Str).length ≤ sizeLine := by decide +kernel
    rcases hd with rfl | rfl | rfl | rfl <;> simp [txl, txlL, q1, q2, q3, q4]
  have t3 : partOk ch "word" = true := by
    unfold partOk
    rw [h1]
    have n1 : hasF ch "word" = true := by
      unfold hasF
      rw [if_neg (by decide +kernel), if_neg (by decide +kernel), if_neg (by decide +kernel), if_neg (by decide +kernel), if_neg (by decide +kernel)]
    rw [n1]; rfl
  obtain ⟨t2, r0, s0, p0, d0, u0, w0, dd0⟩ := t2
  have z1 : ¬ (("token" : Str) = "seal" ∨ ("token" : Str) = "page") := by decide +kernel
  have z2 : mostR "token" = 36 := by decide +kernel
  refine ⟨?_, ?_, ⟨by simp only [sz, szL]; omega, by simp only [txl, txlL]; exact ⟨hml, t2x, h4, trivial⟩⟩, by simp only [wrdL, w0, h5]; rfl, r0, s0, p0, d0, u0, w0, dd0⟩
  · unfold isTermK
    rw [e]
    simp only [List.length_cons, List.length_nil, List.zip_cons_cons, List.zip_nil_left, List.all_cons, List.all_nil, t1, t2, t3]
    decide
  · rw [z2]
    simp only [rank, rankL, if_neg z1, r0]
    omega
theorem seal_ok {m : Str} (hm : m = "m" ∨ m = "n" ∨ m = "o") {ch : D} (h1 : okW 40 40 1 ch = true) (h3 : sz ch ≤ 1000) (h4 : txl ch) : isTermK "seal" [.str m, .int 1, .int 0, .tup [.int 0, .int 0, .int 0, ch]] = true ∧ rank (.atom "seal" [.str m, .int 1, .int 0, .tup [.int 0, .int 0, .int 0, ch]]) ≤ mostR "seal" ∧ Fit (.tup [.str m, .int 1, .int 0, .tup [.int 0, .int 0, .int 0, ch]]) := by
  have e : formsOf "seal" = some (["text", "number", "number", "hidden"] : List Str) := by decide +kernel
  have t1 : partOk (.str m) "text" = true := by rcases hm with rfl | rfl | rfl <;> decide +kernel
  have hml : m.length ≤ sizeLine := by rcases hm with rfl | rfl | rfl <;> decide +kernel
  have t2 : partOk (.int 1) "number" = true := by decide +kernel
  have t3 : partOk (.int 0) "number" = true := by decide +kernel
  have n0 : okW 40 40 1 (.int 0) = true := by decide +kernel
  have t4 : partOk (.tup [.int 0, .int 0, .int 0, ch]) "hidden" = true := by
    unfold partOk
    have h2 : okW 40 40 0 (.tup [.int 0, .int 0, .int 0, ch]) = true := by
      simp only [okW, okA]
      have : okW 40 40 (0 + 1) ch = true := h1
      rw [this, show numOk 0 = true from rfl]; decide
    rw [h2]
    have n1 : hasF (.tup [.int 0, .int 0, .int 0, ch]) "hidden" = true := by
      unfold hasF
      rw [if_neg (by decide +kernel), if_neg (by decide +kernel), if_neg (by decide +kernel), if_pos rfl]; rfl
    rw [n1]; rfl
  have z1 : (("seal" : Str) = "seal" ∨ ("seal" : Str) = "page") := .inl rfl
  have z2 : mostR "seal" = 40 := by decide +kernel
  refine ⟨?_, ?_, ⟨by simp only [sz, szL]; omega, by simp only [txl, txlL]; exact ⟨hml, trivial, trivial, ⟨trivial, trivial, trivial, h4, trivial⟩, trivial⟩⟩⟩
  · unfold isTermK
    rw [e]
    simp only [List.length_cons, List.length_nil, List.zip_cons_cons, List.zip_nil_left, List.all_cons, List.all_nil, t1, t2, t3, t4]
    decide
  · rw [z2]
    unfold rank
    rw [if_pos z1]; decide
/-- a word that is offered -/
def OffOk (e : D) : Prop := Off3 e ∧ ∀ es, e = .atom "token" es → wrdL es = true ∧ szL es ≤ 100000 ∧ depL es ≤ 20 ∧ es.length = 3
theorem off_no {e : D} (h : tokD e = false) : OffOk e := by
  refine ⟨?_, fun es z => by subst z; simp [tokD] at h⟩
  unfold Off3
  split
  · intro z; subst z; simp [tokD] at h
  · trivial
def spOffer (C : Addr) : Sp := fun vs H Q _ => ∃ d c gl gs gd ml xs, vs = [.ref d, .ref gl, .ref ml] ∧ Dr H d c ∧ H gl = some (.lst gs) ∧ IsA C H gs gd ∧ (∀ e ∈ gd, ChD e) ∧ gs.length ≤ 1000 ∧ gl ≠ c ∧ H ml = some (.lst xs) ∧ IsA C H xs measD ∧ ml ≠ c ∧
  ∀ H' x e, Dr H' d c → Bu2 d c H H' → Is C H' x e → OffOk e → Q x H'
/-- an atom made over the tuple at t -/
theorem at_pre {C : Addr} {H1 : Hp} {o dx t : Addr} {ds : List D} (i : Is C H1 (.ref t) (.tup ds)) (ho : H1 o = none) (hdo : H1 dx = none) : Is C (upd (upd H1 dx (.own o)) o (.ins C dx [])) (.ref t) (.tup ds) := i.same (same_put (same_new hdo) ho)
theorem at_post {C : Addr} {H1 H3 : Hp} {o dx t : Addr} {k : Str} {ds : List D} (i : Is C H1 (.ref t) (.tup ds)) (ho : H1 o = none) (hdo : H1 dx = none) (hat : H3 o = some (.ins C dx (atF k t (rank (.atom k ds))))) (oth : ∀ b u, upd (upd H1 dx (.own o)) o (.ins C dx []) b = some u → b ≠ o → H3 b = some u) : Same H1 H3 ∧ Is C H3 (.ref o) (.atom k ds) := by
  have s2 : Same H1 (upd (upd H1 dx (.own o)) o (.ins C dx [])) := same_put (same_new hdo) ho
  have s3 : Same H1 H3 := fun b u e => oth b u (s2 _ _ e) (ne_of_none e ho)
  refine ⟨s3, ?_⟩
  have i3 := i.same s3
  cases i3 with
  | tup e3 i3 => exact .atom hat e3 i3
structure Ofs (C d c gl ml : Addr) (gs : List V) (gd : List D) (xs : List V) (H0 H : Hp) : Prop where
  dr : Dr H d c
  b : Bu2 d c H0 H
  g : H gl = some (.lst gs)
  m : H ml = some (.lst xs)
  ig : IsA C H gs gd
  im : IsA C H xs measD
theorem Ofs.go {C d c gl ml : Addr} {gs : List V} {gd : List D} {xs : List V} {H0 H H' : Hp} (a : Ofs C d c gl ml gs gd xs H0 H) (hg : clnL gd = true) (n1 : gl ≠ c) (n2 : ml ≠ c) (D' : Dr H' d c) (b : Bu2 d c H H') : Ofs C d c gl ml gs gd xs H0 H' := by
  obtain ⟨⟨r, m, hd⟩, _⟩ := id a.dr
  refine ⟨D', a.b.trans b, b _ _ a.g (fun z => ?_) n1, b _ _ a.m (fun z => ?_) n2, IsA.keep (a.dr.keep b) hg a.ig, IsA.keep (a.dr.keep b) (by decide +kernel) a.im⟩
  · have := a.g; rw [z, hd] at this; cases this
  · have := a.m; rw [z, hd] at this; cases this
theorem Ofs.same {C d c gl ml : Addr} {gs : List V} {gd : List D} {xs : List V} {H0 H H' : Hp} (a : Ofs C d c gl ml gs gd xs H0 H) (s : Same H H') : Ofs C d c gl ml gs gd xs H0 H' := ⟨a.dr.same s, a.b.trans (Bu2.of s), s _ _ a.g, s _ _ a.m, a.ig.same s, a.im.same s⟩
section
variable {P : Program} {w : World} {K : PySem.W.Frag} {mg : Str → Option Value} {base : Heap} {f : Addr} {fd : FuncData} {C N : Addr}
abbrev s__law_offer : Stmt := top 34
theorem sc__law_offer : FnScope ["draws", "given", "measures", "challenge", "monitor", "measure", "kind"] ["draws", "given", "measures"] (C8.fnScope s__law_offer) := C8.fnScope_by (by decide +kernel)
theorem ok__law_offer (F : C8.Def K mg "_law_offer" s__law_offer f fd) (b : Binds K fd ["draws", "given", "measures"] []) (T : Txt K mg w C) (k_Atom : C8.Mak P w K mg base 5 "Atom" C (spInit C) []) (c__law_draw : C8.Cal P w K mg base 1 "_law_draw" spDraw []) (c__law_pick : C8.Cal P w K mg base 2 "_law_pick" spPick []) (c_token_of : C8.Cal P w K mg base 7 "token_of" (spTokOf C) []) : C8.Cal P w K mg base 8 "_law_offer" (spOffer C) [] := by
  refine C8.cal0 F b .nil sc__law_offer (fun vs H Q E h => ?_) (fun cdv A outer s H vs Q E hr h => ?_)
  · obtain ⟨d, c, gl, gs, gd, ml, xs, rfl, _⟩ := h; rfl
  obtain ⟨d, c, gl, gs, gd, ml, xs, rfl, hD, hgl, hgs, hch, hgn, nglc, hml, hxs, nmlc, q⟩ := h
  refine ⟨_, (pss_cons (ps_set (i := 3) sc__law_offer.nd rfl (Or.inl rfl) (C8.pe_mk k_Atom hr (by first | decide | omega) rfl (pa_cons pe_str (pa_cons (pe_tup (pa_cons (C8.pe_c c__law_pick hr (by first | decide | omega) rfl (pa_cons (pv 0) (pa_cons (pe_lst (pa_cons pe_str (pa_cons pe_str (pa_cons pe_str pa_nil)))) pa_nil))) (pa_cons (C8.pe_c c__law_draw hr (by first | decide | omega) rfl (pa_cons (pv 0) (pa_cons pe_int pa_nil))) pa_nil))) pa_nil))))
      (C8.pss_cut (ps_if (PW.pt (pw_and (pt_cmpR op_gt (pe_callB call_lenS rfl T.z_len bt_len (pa_cons (pv 1) pa_nil)) pe_int (nomark _)) (pw_and1 (pt_cmpR op_gt (C8.pe_c c__law_draw hr (by first | decide | omega) rfl (pa_cons (pv 0) (pa_cons pe_int pa_nil))) pe_int (nomark _))))) (pss_one (ps_set (i := 3) sc__law_offer.nd rfl (Or.inl rfl) (C8.pe_c c__law_pick hr (by first | decide | omega) rfl (pa_cons (pv 0) (pa_cons (pv 1) pa_nil))))) pss_nil)
      (pss_cons (ps_set (i := 4) sc__law_offer.nd rfl (Or.inl rfl) (C8.pe_c c__law_pick hr (by first | decide | omega) rfl (pa_cons (pv 0) (pa_cons (pe_lst (pa_cons pe_str (pa_cons pe_str (pa_cons pe_str (pa_cons pe_str pa_nil))))) pa_nil))))
      (pss_cons (ps_set (i := 5) sc__law_offer.nd rfl (Or.inl rfl) (C8.pe_c c__law_pick hr (by first | decide | omega) rfl (pa_cons (pv 0) (pa_cons (pv 2) pa_nil))))
      (pss_cons (ps_set (i := 6) sc__law_offer.nd rfl (Or.inl rfl) (C8.pe_c c__law_draw hr (by first | decide | omega) rfl (pa_cons (pv 0) (pa_cons pe_int pa_nil))))
      (pss_cons (ps_if (pt_cmpR op_eq (pv 6) pe_int (nomark _)) (pss_one (ps_ret (C8.pe_c c__law_pick hr (by first | decide | omega) rfl (pa_cons (pv 0) (pa_cons (pe_lst (pa_cons (pv 3) (pa_cons (C8.pe_mk k_Atom hr (by first | decide | omega) rfl (pa_cons pe_str (pa_cons (pe_tup (pa_cons (pv 4) (pa_cons pe_int (pa_cons pe_int (pa_cons (pe_op op_catA (pe_slice sl_tupA (pv 5) po_none (po_some pe_int)) (pe_tup (pa_cons pe_int (pa_cons pe_int (pa_cons pe_int (pa_cons (pv 3) pa_nil)))))) pa_nil))))) pa_nil))) (pa_cons pe_non (pa_cons pe_int (pa_cons pe_str pa_nil)))))) pa_nil))))) pss_nil)
      (pss_cons (ps_if (pt_cmpR op_eq (pv 6) pe_int (nomark _)) (pss_one (ps_ret (pe_tup (pa_cons (pv 4) (pa_cons (pv 5) (pa_cons (pv 3) pa_nil)))))) pss_nil)
      (pss_cons (ps_if (pt_cmpR op_eq (pv 6) pe_int (nomark _)) (pss_one (ps_ret (pe_tup (pa_cons (C8.pe_mk k_Atom hr (by first | decide | omega) rfl (pa_cons pe_str (pa_cons (pe_tup (pa_cons (pv 4) (pa_cons (pv 5) (pa_cons (pv 3) pa_nil)))) pa_nil))) pa_nil)))) pss_nil)
      (pss_cons (ps_if (pt_cmpR op_eq (pv 6) pe_int (nomark _)) (pss_one (ps_ret (C8.pe_mk k_Atom hr (by first | decide | omega) rfl (pa_cons pe_str (pa_cons (pe_tup (pa_cons (pv 4) (pa_cons (pv 5) (pa_cons (pe_tup (pa_cons (pv 3) pa_nil)) pa_nil)))) pa_nil))))) pss_nil)
      (pss_cons (ps_if (pt_cmpR op_eq (pv 6) pe_int (nomark _)) (pss_one (ps_ret (C8.pe_mk k_Atom hr (by first | decide | omega) rfl (pa_cons pe_str (pa_cons (pe_tup (pa_cons (pv 4) (pa_cons (pv 5) (pa_cons (C8.pe_mk k_Atom hr (by first | decide | omega) rfl (pa_cons pe_str (pa_cons (pe_tup (pa_cons (pv 4) (pa_cons (pv 5) (pa_cons (pv 3) pa_nil)))) pa_nil))) pa_nil)))) pa_nil))))) pss_nil)
      (pss_one (ps_ret (C8.pe_c c_token_of hr (by first | decide | omega) rfl (pa_cons (pv 4) (pa_cons (pv 5) (pa_cons (pv 3) pa_nil)))))))))))))))), ?_⟩
  have hcl : clnL gd = true := clnL_iff.mpr fun e he => wrd_cln (hch e he).ok.1
  have o0 : Ofs C d c gl ml gs gd xs H H := ⟨hD, Bu2.refl, hgl, hml, hgs, hxs⟩
  refine ⟨_, rfl, (by show 3 ≤ sizeLine; decide), fun l1 hl1 => ?_⟩
  have o1 := o0.same (same_new (o := .lst [.str "v", .str "w", .str "x"]) hl1)
  refine ⟨d, c, l1, [.str "v", .str "w", .str "x"], rfl, o1.dr, upd_same, (hD.off hl1).2, by decide, by decide, fun H2 i x D2 b2 hx => ?_⟩
  have o2 := o1.go hcl nglc nmlc D2 b2
  obtain ⟨nm, rfl, hnm⟩ : ∃ nm, x = .str nm ∧ (nm = "v" ∨ nm = "w" ∨ nm = "x") := by
    have hm := List.mem_of_getElem? hx
    simp only [List.mem_cons, List.not_mem_nil, or_false] at hm
    rcases hm with rfl | rfl | rfl
    · exact ⟨_, rfl, .inl rfl⟩
    · exact ⟨_, rfl, .inr (.inl rfl)⟩
    · exact ⟨_, rfl, .inr (.inr rfl)⟩
  refine ⟨_, rfl, d, c, 4, rfl, o2.dr, by decide, by decide, fun H3 r D3 b3 g0 g1 => ⟨(by show 2 ≤ sizeLine; decide), fun t ht0 => ?_⟩⟩
  have o3 := o2.go hcl nglc nmlc D3 b3
  have o4 := o3.same (same_new (o := .tup [.str nm, .int r]) ht0)
  have i4 : Is C (upd H3 t (.tup [.str nm, .int r])) (.ref t) (.tup [.str nm, .int r]) := .tup upd_same (.cons (.str _) (.cons (.int _) .nil))
  generalize upd H3 t (.tup [.str nm, .int r]) = H4 at *
  have hcd : ChD (.atom "challenge" [.str nm, .int r]) := ⟨nm, r, rfl, hnm, g0, by omega⟩
  have hnml : nm.length ≤ sizeLine := by rcases hnm with rfl | rfl | rfl <;> decide +kernel
  have htx : txtOk nm = true := by rcases hnm with rfl | rfl | rfl <;> decide +kernel
  obtain ⟨c1, c2, c3⟩ := ch_ok (nm := nm) (g := r) htx g0 (by omega) hnml
  intro oo do_ ho hdo hne
  refine ⟨oo, do_, "challenge", t, [.str nm, .int r], rfl, upd_same, at_pre i4 ho hdo, c1, c2, c3, fun H5 hat oth => ⟨rfl, ?_⟩⟩
  obtain ⟨s45, iat⟩ := at_post i4 ho hdo hat oth
  have o5 := o4.same s45
  refine ⟨fun σ' H' => ∃ x ch, σ' = [some (.ref d), some (.ref gl), some (.ref ml), some x, none, none, none] ∧ Ofs C d c gl ml gs gd xs H H' ∧ Is C H' x ch ∧ ChD ch, ?_, ?_⟩
  · have mid : ∃ x ch, ([some (.ref d), some (.ref gl), some (.ref ml), some (.ref oo), none, none, none] : L2.St) = [some (.ref d), some (.ref gl), some (.ref ml), some x, none, none, none] ∧ Ofs C d c gl ml gs gd xs H H5 ∧ Is C H5 x ch ∧ ChD ch := ⟨.ref oo, _, rfl, o5, iat, hcd⟩
    refine ⟨_, rfl, gl, gs, rfl, .inl (SqL.of o5.g), _, _, rfl, rfl, _, rfl, ite2 (fun cg => ?_) (fun _ => mid)⟩
    refine ⟨_, rfl, d, c, 3, rfl, o5.dr, by decide, by decide, fun H6 r6 D6 b6 k0 k1 => ⟨_, _, rfl, rfl, _, rfl, ite2 (fun _ => ?_) (fun _ => ?_)⟩⟩
    · have o6 := o5.go hcl nglc nmlc D6 b6
      have cg : (0 : Int) < (gs.length : Int) := of_decide_eq_true cg
      refine ⟨_, rfl, _, rfl, d, c, gl, gs, rfl, o6.dr, o6.g, nglc, by omega, by omega, fun H7 i7 x7 D7 b7 hx7 => ?_⟩
      have o7 := o6.go hcl nglc nmlc D7 b7
      obtain ⟨e7, he7, hi7⟩ := o7.ig.at hx7
      exact ⟨x7, e7, rfl, o7, hi7, hch e7 (List.mem_of_getElem? he7)⟩
    · have o6 := o5.go hcl nglc nmlc D6 b6
      exact ⟨.ref oo, _, rfl, o6, Is.keep (o5.dr.keep b6) (wrd_cln hcd.ok.1) iat, hcd⟩
  rintro σ' H6 ⟨xc, ch, rfl, o6, ich, hcd⟩
  obtain ⟨wch, kch, rch, sch, tch, ach, nch, dch⟩ := hcd.ok
  have cch := wrd_cln wch
  refine ⟨_, rfl, (by show 4 ≤ sizeLine; decide), fun l7 hl7 => ?_⟩
  have o7 := o6.same (same_new (o := .lst [.str "m", .str "m", .str "n", .str "o"]) hl7)
  have ich7 := ich.same (same_new (o := .lst [.str "m", .str "m", .str "n", .str "o"]) hl7)
  refine ⟨d, c, l7, [.str "m", .str "m", .str "n", .str "o"], rfl, o7.dr, upd_same, (o6.dr.off hl7).2, by decide, by decide, fun H8 i x D8 b8 hx => ?_⟩
  have o8 := o7.go hcl nglc nmlc D8 b8
  have ich8 := Is.keep (o7.dr.keep b8) cch ich7
  obtain ⟨m, rfl, hm⟩ : ∃ nm, x = .str nm ∧ (nm = "m" ∨ nm = "n" ∨ nm = "o") := by
    have hm := List.mem_of_getElem? hx
    simp only [List.mem_cons, List.not_mem_nil, or_false] at hm
    rcases hm with rfl | rfl | rfl | rfl
    · exact ⟨_, rfl, .inl rfl⟩
    · exact ⟨_, rfl, .inl rfl⟩
    · exact ⟨_, rfl, .inr (.inl rfl)⟩
    · exact ⟨_, rfl, .inr (.inr rfl)⟩
  have hxl : xs.length = 4 := by rw [hxs.len]; rfl
  refine ⟨_, rfl, _, rfl, d, c, ml, xs, rfl, o8.dr, o8.m, nmlc, by omega, by omega, fun H9 i9 x9 D9 b9 hx9 => ?_⟩
  have o9 := o8.go hcl nglc nmlc D9 b9
  have ich9 := Is.keep (o8.dr.keep b9) cch ich8
  obtain ⟨md, hmd, imd⟩ := o9.im.at hx9
  have hmd := List.mem_of_getElem? hmd
  refine ⟨_, rfl, d, c, 9, rfl, o9.dr, by decide, by decide, fun Ha kd Da ba k0 k1 => ?_⟩
  have oa := o9.go hcl nglc nmlc Da ba
  have icha := Is.keep (o9.dr.keep ba) cch ich9
  obtain ⟨T1, T2, T3, T4, T5, T6, T7, T8, T9, T10, T11⟩ := tok_ok hm hmd kch (by omega) (by omega) tch wch
  have imda := Is.keep (o9.dr.keep ba) (wrd_cln T10) imd
  have fin : ∀ (H' : Hp) (x : V) (e : D), Ofs C d c gl ml gs gd xs H H' → Is C H' x e → OffOk e → Q x H' := fun H' x e o i k => q H' x e o.dr o.b i k
  have offT : ∀ {c' : D}, wrd c' = true → sz c' ≤ 1000 → dep c' ≤ 8 → OffOk (.atom "token" [.str m, md, c']) := fun {c'} w1 w2 w3 =>
    ⟨fun _ => ⟨m, md, c', rfl, T7, T8, T9, w1, by omega⟩, fun es z => by cases z; exact ⟨by simp only [wrdL, T10, w1]; rfl, by simp only [szL, sz]; omega, by simp only [depL, dep]; omega, rfl⟩⟩
  refine ⟨_, rfl, rfl, _, rfl, ?_⟩
  by_cases q0 : kd = 0
  · refine ifT (by rw [q0]) ?_
    obtain ⟨tm, ys, rfl, htm⟩ : ∃ tm ys, x9 = .ref tm ∧ Ha tm = some (.tup ys) := by
      have u := T9
      cases imda <;> first | (simp [isTu] at u; done) | exact ⟨_, _, rfl, by assumption⟩
    refine ⟨_, rfl, _, rfl, _, rfl, _, rfl, 0, rfl, ?_⟩
    refine sl_go htm fun Hs ps ss es => ?_
    have es : Hs ps = some (.tup []) := by
      rw [show (0 : Int) = ((0 : Nat) : Int) from rfl, cut_to] at es; exact es
    have oa := oa.same ss
    have icha := icha.same ss
    refine ⟨_, rfl, (by show 4 ≤ sizeLine; decide), fun t2 h2 => ?_⟩
    have s2 := same_new (o := .tup [.int 0, .int 0, .int 0, xc]) h2
    have e2 : upd Hs t2 (.tup [.int 0, .int 0, .int 0, xc]) t2 = some (.tup [.int 0, .int 0, .int 0, xc]) := upd_same
    have oa := oa.same s2
    have icha := icha.same s2
    have es := s2 _ _ es
    generalize upd Hs t2 (.tup [.int 0, .int 0, .int 0, xc]) = Ht at *
    refine cat_go es e2 (by show 4 ≤ sizeLine; decide) fun Hu pc sc ec => ?_
    have oa := oa.same sc
    have icha := icha.same sc
    have ec : Hu pc = some (.tup [.int 0, .int 0, .int 0, xc]) := ec
    refine ⟨(by show 4 ≤ sizeLine; decide), fun t3 h3 => ?_⟩
    have s3 := same_new (o := .tup [.str m, .int 1, .int 0, .ref pc]) h3
    have i3 : Is C (upd Hu t3 (.tup [.str m, .int 1, .int 0, .ref pc])) (.ref t3) (.tup [.str m, .int 1, .int 0, .tup [.int 0, .int 0, .int 0, ch]]) := .tup upd_same (.cons (.str _) (.cons (.int _) (.cons (.int _) (.cons (.tup (s3 _ _ ec) (.cons (.int _) (.cons (.int _) (.cons (.int _) (.cons (icha.same s3) .nil))))) .nil))))
    have oa := oa.same s3
    have icha := icha.same s3
    generalize upd Hu t3 (.tup [.str m, .int 1, .int 0, .ref pc]) = Hv at *
    obtain ⟨S1, S2, S3⟩ := seal_ok hm (ch := ch) (by
      obtain ⟨nm', g', rfl, _⟩ := hcd
      exact kch) (by omega) tch
    intro o2 d2 ho2 hd2 hne2
    refine ⟨o2, d2, "seal", t3, _, rfl, upd_same, at_pre i3 ho2 hd2, S1, S2, S3, fun H5 hat2 oth2 => ⟨rfl, ?_⟩⟩
    obtain ⟨s5, iat2⟩ := at_post i3 ho2 hd2 hat2 oth2
    have oa := oa.same s5
    have icha := icha.same s5
    refine ⟨(by show 5 ≤ sizeLine; decide), fun l2 hl2 => ?_⟩
    have s6 := same_new (o := .lst [xc, .ref o2, .non, .int 5, .str "token"]) hl2
    have ob := oa.same s6
    have iL : IsA C (upd H5 l2 (.lst [xc, .ref o2, .non, .int 5, .str "token"])) [xc, .ref o2, .non, .int 5, .str "token"] [ch, .atom "seal" [.str m, .int 1, .int 0, .tup [.int 0, .int 0, .int 0, ch]], .non, .int 5, .str "token"] := .cons (icha.same s6) (.cons (iat2.same s6) (.cons .non (.cons (.int _) (.cons (.str _) .nil))))
    refine ⟨d, c, l2, _, rfl, ob.dr, upd_same, (oa.dr.off hl2).2, by show 0 < 5; decide, by show 5 < 1000000; decide, fun Hp' ip xp Dp' bp hxp => ?_⟩
    have oc := ob.go hcl nglc nmlc Dp' bp
    have cls : clnL [ch, .atom "seal" [.str m, .int 1, .int 0, .tup [.int 0, .int 0, .int 0, ch]], .non, .int 5, .str "token"] = true := by simp only [clnL, cln, cch]; rfl
    obtain ⟨ep, hep, hip⟩ := (IsA.keep (ob.dr.keep bp) cls iL).at hxp
    refine fin _ _ ep oc hip (off_no ?_)
    have hm2 := List.mem_of_getElem? hep
    simp only [List.mem_cons, List.not_mem_nil, or_false] at hm2
    have z3 : ¬ (("seal" : Str) = "token") := by decide +kernel
    rcases hm2 with rfl | rfl | rfl | rfl | rfl
    · exact nch
    · simp only [tokD]; exact decide_eq_false z3
    · rfl
    · rfl
    · rfl
  refine ifF (fun z => q0 (V.int.inj z)) ⟨_, rfl, rfl, _, rfl, ?_⟩
  by_cases q1 : kd = 1
  · refine ifT (by rw [q1]) ?_
    refine ⟨_, rfl, _, rfl, _, rfl, (by show 3 ≤ sizeLine; decide), fun t1 h1 => ?_⟩
    have s1 := same_new (o := .tup [.str m, x9, xc]) h1
    exact fin _ _ (.tup [.str m, md, ch]) (oa.same s1) (.tup upd_same (.cons (.str _) (.cons (imda.same s1) (.cons (icha.same s1) .nil)))) (off_no rfl)
  refine ifF (fun z => q1 (V.int.inj z)) ⟨_, rfl, rfl, _, rfl, ?_⟩
  by_cases q2 : kd = 2
  · refine ifT (by rw [q2]) ?_
    refine ⟨_, rfl, _, rfl, _, rfl, (by show 3 ≤ sizeLine; decide), fun t1 h1 => ?_⟩
    have s1 := same_new (o := .tup [.str m, x9, xc]) h1
    have i1 : Is C (upd Ha t1 (.tup [.str m, x9, xc])) (.ref t1) (.tup [.str m, md, ch]) := .tup upd_same (.cons (.str _) (.cons (imda.same s1) (.cons (icha.same s1) .nil)))
    have ob := oa.same s1
    generalize upd Ha t1 (.tup [.str m, x9, xc]) = Hb at *
    intro o2 d2 ho2 hd2 hne2
    refine ⟨o2, d2, "token", t1, _, rfl, upd_same, at_pre i1 ho2 hd2, T1, T2, T3, fun H5 hat2 oth2 => ⟨rfl, ?_⟩⟩
    obtain ⟨s5, iat2⟩ := at_post i1 ho2 hd2 hat2 oth2
    refine ⟨(by show 1 ≤ sizeLine; decide), fun t3 h3 => ?_⟩
    have s6 := same_new (o := .tup [.ref o2]) h3
    exact fin _ _ (.tup [.atom "token" [.str m, md, ch]]) ((ob.same s5).same s6) (.tup upd_same (.cons (iat2.same s6) .nil)) (off_no rfl)
  refine ifF (fun z => q2 (V.int.inj z)) ⟨_, rfl, rfl, _, rfl, ?_⟩
  by_cases q3 : kd = 3
  · refine ifT (by rw [q3]) ?_
    refine ⟨_, rfl, _, rfl, _, rfl, (by show 1 ≤ sizeLine; decide), fun t0 h0 => ?_⟩
    have s0 := same_new (o := .tup [xc]) h0
    have i0 : Is C (upd Ha t0 (.tup [xc])) (.ref t0) (.tup [ch]) := .tup upd_same (.cons (icha.same s0) .nil)
    have oa := oa.same s0
    have imda := imda.same s0
    generalize upd Ha t0 (.tup [xc]) = Hz at *
    refine ⟨(by show 3 ≤ sizeLine; decide), fun t1 h1 => ?_⟩
    have s1 := same_new (o := .tup [.str m, x9, .ref t0]) h1
    have i1 : Is C (upd Hz t1 (.tup [.str m, x9, .ref t0])) (.ref t1) (.tup [.str m, md, .tup [ch]]) := .tup upd_same (.cons (.str _) (.cons (imda.same s1) (.cons (i0.same s1) .nil)))
    have ob := oa.same s1
    generalize upd Hz t1 (.tup [.str m, x9, .ref t0]) = Hb at *
    have w3 : wrd (.tup [ch]) = true := by simp only [wrd, wrdL, wch]; rfl
    obtain ⟨U1, U2, U3, _⟩ := tok_ok (ch := .tup [ch]) hm hmd (by
      have z1 : ∀ (n : Nat), okW 40 40 n ch = true := fun n => by
        obtain ⟨nm', g', rfl, _⟩ := hcd
        exact kch
      simp only [okW, okA, z1]; decide) (by simp only [rank, rankL, rch]; decide) (by simp only [sz, szL]; omega) (by simp only [txl, txlL]; exact ⟨tch, trivial⟩) w3
    intro o2 d2 ho2 hd2 hne2
    refine ⟨o2, d2, "token", t1, _, rfl, upd_same, at_pre i1 ho2 hd2, U1, U2, U3, fun H5 hat2 oth2 => ⟨rfl, ?_⟩⟩
    obtain ⟨s5, iat2⟩ := at_post i1 ho2 hd2 hat2 oth2
    exact fin _ _ _ (ob.same s5) iat2 (offT w3 (by simp only [sz, szL]; omega) (by simp only [dep, depL, dch]; decide))
  refine ifF (fun z => q3 (V.int.inj z)) ⟨_, rfl, rfl, _, rfl, ?_⟩
  by_cases q4 : kd = 4
  · refine ifT (by rw [q4]) ?_
    refine ⟨_, rfl, _, rfl, _, rfl, _, rfl, _, rfl, (by show 3 ≤ sizeLine; decide), fun t0 h0 => ?_⟩
    have s0 := same_new (o := .tup [.str m, x9, xc]) h0
    have i0 : Is C (upd Ha t0 (.tup [.str m, x9, xc])) (.ref t0) (.tup [.str m, md, ch]) := .tup upd_same (.cons (.str _) (.cons (imda.same s0) (.cons (icha.same s0) .nil)))
    have oa := oa.same s0
    have imda := imda.same s0
    generalize upd Ha t0 (.tup [.str m, x9, xc]) = Hz at *
    intro o2 d2 ho2 hd2 hne2
    refine ⟨o2, d2, "token", t0, _, rfl, upd_same, at_pre i0 ho2 hd2, T1, T2, T3, fun H5 hat2 oth2 => ⟨rfl, ?_⟩⟩
    obtain ⟨s5, iat2⟩ := at_post i0 ho2 hd2 hat2 oth2
    have oa := oa.same s5
    have imda := imda.same s5
    refine ⟨(by show 3 ≤ sizeLine; decide), fun t1 h1 => ?_⟩
    have s1 := same_new (o := .tup [.str m, x9, .ref o2]) h1
    have i1 : Is C (upd H5 t1 (.tup [.str m, x9, .ref o2])) (.ref t1) (.tup [.str m, md, .atom "token" [.str m, md, ch]]) := .tup upd_same (.cons (.str _) (.cons (imda.same s1) (.cons (iat2.same s1) .nil)))
    have ob := oa.same s1
    generalize upd H5 t1 (.tup [.str m, x9, .ref o2]) = Hb at *
    have z1 : ¬ (("token" : Str) = "seal" ∨ ("token" : Str) = "page") := by decide +kernel
    have rk : rank (.atom "token" [.str m, md, ch]) = 2 := by simp only [rank, rankL, if_neg z1, T5, rch]; decide
    have szk : sz (.atom "token" [.str m, md, ch]) ≤ 200 := by simp only [sz, szL]; omega
    have w3 : wrd (.atom "token" [.str m, md, ch]) = true := by
      simp only [wrd, T1, T4]; rfl
    obtain ⟨U1, U2, U3, _⟩ := tok_ok (ch := .atom "token" [.str m, md, ch]) hm hmd (by simp only [okW]; rw [rk]; decide) (by rw [rk]; decide) (by omega) (by
      have h3 := T3.2
      simp only [txl] at h3 ⊢; exact h3) w3
    intro o3 d3 ho3 hd3 hne3
    refine ⟨o3, d3, "token", t1, _, rfl, upd_same, at_pre i1 ho3 hd3, U1, U2, U3, fun H6 hat3 oth3 => ⟨rfl, ?_⟩⟩
    obtain ⟨s6, iat3⟩ := at_post i1 ho3 hd3 hat3 oth3
    exact fin _ _ _ (ob.same s6) iat3 (offT w3 (by omega) (by simp only [dep]; decide))
  refine ifF (fun z => q4 (V.int.inj z)) ?_
  refine ⟨_, rfl, _, rfl, _, rfl, .str m, x9, xc, .str m, md, ch, rfl, .str _, imda, icha, T1, T2, T3, fun H' a' _ s' i' => ?_⟩
  exact fin _ _ _ (oa.same s') i' (offT wch (by omega) (by omega))
end
end Hc

set_option maxHeartbeats 8000000
namespace Hc
open PySem PySem.Spec PyProof.Rows L2 Hr
structure Pl where
  p : Addr
  q : Addr
  mo : Addr
  me : Addr
  l : Addr
  ol : Addr
  nm : Str
  g : Int
  xs : List V
  xs2 : List V
  ds : List D
  ms : List Str
  ys : List V
  Ms : List D
structure PlAt (C N : Addr) (n : Nat) (P : Pl) (H : Hp) : Prop where
  v : Vf N H P.p P.nm P.mo P.me P.g P.l
  a : H P.l = some (.lst P.xs)
  i : IsA C H P.xs P.ds
  m : H P.q = some (.dK (kM P.mo P.me P.ol P.nm P.g))
  b : H P.ol = some (.lst P.xs2)
  j : IsA C H P.xs2 P.ds
  mo : H P.mo = some (.tup (P.ms.map V.str))
  me : H P.me = some (.tup P.ys)
  im : IsA C H P.ys P.Ms
  nmk : P.nm = "v" ∨ P.nm = "w"
  g0 : 0 ≤ P.g
  g1 : P.g ≤ n
  dl : P.ds.length ≤ n
  ch : ∀ e ∈ P.ds, ChD e
  pl : plnL P.Ms = true
  dp : dptL P.Ms ≤ 60
  cl : clnL P.Ms = true
theorem chs_cln {ds : List D} (h : ∀ e ∈ ds, ChD e) : clnL ds = true := clnL_iff.mpr fun e he => wrd_cln (h e he).ok.1
theorem chs_wrd {ds : List D} (h : ∀ e ∈ ds, ChD e) : wrdL ds = true := wrdL_iff.mpr fun e he => (h e he).ok.1
theorem chs_dep : ∀ {ds : List D}, (∀ e ∈ ds, ChD e) → depL ds ≤ 0
  | [], _ => by simp [depL]
  | d :: ds, h => by
    have h1 := (h d (by simp)).ok.2.2.2.2.2.2.2
    have h2 := chs_dep (ds := ds) fun e he => h e (by simp [he])
    simp only [depL, h1]; omega
theorem chs_sz : ∀ {ds : List D}, (∀ e ∈ ds, ChD e) → szL ds ≤ 10 * ds.length
  | [], _ => by simp [szL]
  | d :: ds, h => by
    have h1 := (h d (by simp)).ok.2.2.2.1
    have h2 := chs_sz (ds := ds) fun e he => h e (by simp [he])
    simp only [szL, List.length_cons]; omega
theorem PlAt.fr {C N : Addr} {n : Nat} {P : Pl} {H H' : Hp} (h : PlAt C N n P H) (k : Keep C H H') (f : ∀ b o, H b = some o → (b = P.p ∨ b = P.q ∨ b = P.l ∨ b = P.ol) → H' b = some o) : PlAt C N n P H' := by
  obtain ⟨dx, hv⟩ := h.v
  exact ⟨⟨dx, f _ _ hv (.inl rfl)⟩, f _ _ h.a (.inr (.inr (.inl rfl))), IsA.keep k (chs_cln h.ch) h.i, f _ _ h.m (.inr (.inl rfl)), f _ _ h.b (.inr (.inr (.inr rfl))), IsA.keep k (chs_cln h.ch) h.j, k.tup _ _ h.mo, k.tup _ _ h.me, IsA.keep k h.cl h.im, h.nmk, h.g0, h.g1, h.dl, h.ch, h.pl, h.dp, h.cl⟩
theorem PlAt.up {C N : Addr} {n m : Nat} {P : Pl} {H : Hp} (h : PlAt C N n P H) (k : n ≤ m) : PlAt C N m P H :=
  ⟨h.v, h.a, h.i, h.m, h.b, h.j, h.mo, h.me, h.im, h.nmk, h.g0, by have := h.g1; omega, Nat.le_trans h.dl k, h.ch, h.pl, h.dp, h.cl⟩
/-- different cells -/
structure Sep (c gl vl wl ml d lA lB oA oB pA pB qA qB : Addr) : Prop where
  cg : c ≠ gl
  cA : c ≠ lA
  cB : c ≠ lB
  gA : gl ≠ lA
  gB : gl ≠ lB
  AB : lA ≠ lB
  oAc : oA ≠ c
  oAg : oA ≠ gl
  oAA : oA ≠ lA
  oAB : oA ≠ lB
  oBc : oB ≠ c
  oBg : oB ≠ gl
  oBA : oB ≠ lA
  oBB : oB ≠ lB
  vc : vl ≠ c
  vg : vl ≠ gl
  vA : vl ≠ lA
  vB : vl ≠ lB
  wc : wl ≠ c
  wg : wl ≠ gl
  wA : wl ≠ lA
  wB : wl ≠ lB
  mc : ml ≠ c
  mg : ml ≠ gl
  mA : ml ≠ lA
  mB : ml ≠ lB
  pp : pA ≠ pB
  qq : qA ≠ qB
  dA : d ≠ qA
  dB : d ≠ qB
theorem Sep.symm {c gl vl wl ml d lA lB oA oB pA pB qA qB : Addr} (s : Sep c gl vl wl ml d lA lB oA oB pA pB qA qB) : Sep c gl vl wl ml d lB lA oB oA pB pA qB qA :=
  ⟨s.cg, s.cB, s.cA, s.gB, s.gA, s.AB.symm, s.oBc, s.oBg, s.oBB, s.oBA, s.oAc, s.oAg, s.oAB, s.oAA, s.vc, s.vg, s.vB, s.vA, s.wc, s.wg, s.wB, s.wA, s.mc, s.mg, s.mB, s.mA, s.pp.symm, s.qq.symm, s.dB, s.dA⟩
structure Wd (C N d c ml gl vl wl : Addr) (mx gs : List V) (gd : List D) (vv ww : List V) (n : Nat) (A B : Pl) (H : Hp) : Prop where
  dr : Dr H d c
  m : H ml = some (.lst mx)
  im : IsA C H mx measD
  g : H gl = some (.lst gs)
  ig : IsA C H gs gd
  gk : ∀ e ∈ gd, ChD e
  gn : gd.length ≤ n
  v : H vl = some (.lst vv)
  w : H wl = some (.lst ww)
  a : PlAt C N n A H
  b : PlAt C N n B H
  s : Sep c gl vl wl ml d A.l B.l A.ol B.ol A.p B.p A.q B.q
section
variable {C N d c ml gl vl wl : Addr} {mx gs : List V} {gd : List D} {vv ww : List V} {n : Nat} {A B : Pl} {H H' : Hp}
theorem Wd.symm (h : Wd C N d c ml gl vl wl mx gs gd vv ww n A B H) : Wd C N d c ml gl vl wl mx gs gd vv ww n B A H := ⟨h.dr, h.m, h.im, h.g, h.ig, h.gk, h.gn, h.v, h.w, h.b, h.a, h.s.symm⟩
theorem Wd.same (h : Wd C N d c ml gl vl wl mx gs gd vv ww n A B H) (e : Same H H') : Wd C N d c ml gl vl wl mx gs gd vv ww n A B H' :=
  ⟨h.dr.same e, e _ _ h.m, h.im.same e, e _ _ h.g, h.ig.same e, h.gk, h.gn, e _ _ h.v, e _ _ h.w, h.a.fr (Keep.of e) fun b o x _ => e b o x, h.b.fr (Keep.of e) fun b o x _ => e b o x, h.s⟩
theorem kindL {H : Hp} {a b : Addr} {xs : List V} {o : HO} (h1 : H a = some (.lst xs)) (h2 : H b = some o) (k : ∀ ys, o ≠ .lst ys) : a ≠ b := fun z => by rw [z, h2] at h1; exact k _ (Option.some.inj h1)
theorem kindD {H : Hp} {a b : Addr} {xs : List (Key × V)} {o : HO} (h1 : H a = some (.dK xs)) (h2 : H b = some o) (k : ∀ ys, o ≠ .dK ys) : a ≠ b := fun z => by rw [z, h2] at h1; exact k _ (Option.some.inj h1)
theorem kindI {H : Hp} {a b C dx : Addr} {fs : List (Str × V)} {o : HO} (h1 : H a = some (.ins C dx fs)) (h2 : H b = some o) (k : ∀ C' dx' fs', o ≠ .ins C' dx' fs') : a ≠ b := fun z => by rw [z, h2] at h1; exact k _ _ _ (Option.some.inj h1)
/-- all but some cells stays: a player's -/
theorem Wd.draw (h : Wd C N d c ml gl vl wl mx gs gd vv ww n A B H) (D' : Dr H' d c) (b : Bu2 d c H H') : Wd C N d c ml gl vl wl mx gs gd vv ww n A B H' := by
  obtain ⟨⟨r, m, hd⟩, nsx, _, hc⟩ := id h.dr
  have k : Keep C H H' := h.dr.keep b
  have pl : ∀ {P : Pl}, PlAt C N n P H → d ≠ P.q → c ≠ P.l → P.ol ≠ c → PlAt C N n P H' := fun {P} hp n1 n2 n3 => hp.fr k fun x o e hx => by
    obtain ⟨dx, hv⟩ := hp.v
    refine b x o e ?_ ?_
    · rcases hx with rfl | rfl | rfl | rfl
      · exact kindI hv hd (fun _ _ _ z => nomatch z)
      · exact n1.symm
      · exact kindL hp.a hd (fun _ z => nomatch z)
      · exact kindL hp.b hd (fun _ z => nomatch z)
    · rcases hx with rfl | rfl | rfl | rfl
      · exact kindI hv hc (fun _ _ _ z => nomatch z)
      · exact kindD hp.m hc (fun _ z => nomatch z)
      · exact n2.symm
      · exact n3
  have ls : ∀ {x : Addr} {zs : List V}, H x = some (.lst zs) → x ≠ c → H' x = some (.lst zs) := fun {x zs} e nc => b _ _ e (kindL e hd (fun _ z => nomatch z)) nc
  exact ⟨D', ls h.m h.s.mc, IsA.keep k (by decide +kernel) h.im, ls h.g h.s.cg.symm, IsA.keep k (chs_cln h.gk) h.ig, h.gk, h.gn, ls h.v h.s.vc, ls h.w h.s.wc, pl h.a h.s.dA h.s.cA h.s.oAc, pl h.b h.s.dB h.s.cB h.s.oBc, h.s⟩
/-- a challenge of A was given -/
theorem Wd.chal (hNC : N ≠ C) (h : Wd C N d c ml gl vl wl mx gs gd vv ww n A B H) {x y ol' : Addr} {e : D} (ce : ChD e) (hol : H ol' = none)
    (fr : ∀ b o, H b = some o → b ≠ A.p → b ≠ A.l → b ≠ A.q → b ≠ gl → H' b = some o) (v' : Vf N H' A.p A.nm A.mo A.me (A.g + 1) A.l) (a' : H' A.l = some (.lst (A.xs ++ [.ref x]))) (q' : H' A.q = some (.dK (kM A.mo A.me ol' A.nm (A.g + 1)))) (o' : H' ol' = some (.lst (A.xs2 ++ [.ref y]))) (g' : H' gl = some (.lst (gs ++ [.ref y])))
    (ix : Is C H' (.ref x) e) (iy : Is C H' (.ref y) e) : ∃ A', A'.p = A.p ∧ A'.q = A.q ∧ Wd C N d c ml gl vl wl mx (gs ++ [.ref y]) (gd ++ [e]) vv ww (n + 1) A' B H' := by
  obtain ⟨⟨r, m, hd⟩, nsx, hnx, hc⟩ := id h.dr
  obtain ⟨dx, hv⟩ := h.a.v
  obtain ⟨dy, hv2⟩ := h.b.v
  have ge : H gl = some (.lst gs) := h.g
  have k : Keep C H H' := ⟨fun b us e => fr b _ e (fun z => by rw [z, hv] at e; cases e) (fun z => by rw [z, h.a.a] at e; cases e) (fun z => by rw [z, h.a.m] at e; cases e) (fun z => by rw [z, ge] at e; cases e),
    fun b dz fs e => fr b _ e (fun z => by rw [z, hv] at e; exact hNC (by cases e; rfl)) (fun z => by rw [z, h.a.a] at e; cases e) (fun z => by rw [z, h.a.m] at e; cases e) (fun z => by rw [z, ge] at e; cases e)⟩
  have ls : ∀ {x : Addr} {zs : List V}, H x = some (.lst zs) → x ≠ A.l → x ≠ gl → H' x = some (.lst zs) := fun {x zs} e n1 n2 => fr _ _ e (kindL e hv (fun _ z => nomatch z)) n1 (kindL e h.a.m (fun _ z => nomatch z)) n2
  have dd : ∀ {x : Addr} {zs : List (Key × V)}, H x = some (.dK zs) → x ≠ A.q → H' x = some (.dK zs) := fun {x zs} e n1 => fr _ _ e (kindD e hv (fun _ z => nomatch z)) (kindD e h.a.a (fun _ z => nomatch z)) n1 (kindD e ge (fun _ z => nomatch z))
  have nf : ∀ {z : Addr} {o : HO}, H z = some o → ol' ≠ z := fun {z o} e q => by rw [q, e] at hol; cases hol
  have chn : ∀ d ∈ A.ds ++ [e], ChD d := fun d hd => by
    rcases List.mem_append.mp hd with hd | hd
    · exact h.a.ch d hd
    · rw [List.mem_singleton.mp hd]; exact ce
  refine ⟨{ A with g := A.g + 1, ol := ol', xs := A.xs ++ [.ref x], xs2 := A.xs2 ++ [.ref y], ds := A.ds ++ [e] }, rfl, rfl, ?_⟩
  refine ⟨⟨⟨r, m, dd hd h.s.dA⟩, nsx, hnx, ls hc h.s.cA h.s.cg⟩, ls h.m h.s.mA h.s.mg, IsA.keep k (by decide +kernel) h.im, g', (IsA.keep k (chs_cln h.gk) h.ig).app (.cons iy .nil), fun d hd => ?_, by have := h.gn; simp; omega, ls h.v h.s.vA h.s.vg, ls h.w h.s.wA h.s.wg, ?_, ?_, ?_⟩
  · rcases List.mem_append.mp hd with hd | hd
    · exact h.gk d hd
    · rw [List.mem_singleton.mp hd]; exact ce
  · exact ⟨v', a', (IsA.keep k (chs_cln h.a.ch) h.a.i).app (.cons ix .nil), q', o', (IsA.keep k (chs_cln h.a.ch) h.a.j).app (.cons iy .nil), k.tup _ _ h.a.mo, k.tup _ _ h.a.me, IsA.keep k h.a.cl h.a.im, h.a.nmk, by have := h.a.g0; show 0 ≤ A.g + 1; omega, by have := h.a.g1; show A.g + 1 ≤ ((n + 1 : Nat) : Int); omega, by have := h.a.dl; show (A.ds ++ [e]).length ≤ n + 1; simp; omega, chn, h.a.pl, h.a.dp, h.a.cl⟩
  · refine (h.b.fr k fun x o e hx => ?_).up (by omega)
    refine fr x o e ?_ ?_ ?_ ?_
    · rcases hx with rfl | rfl | rfl | rfl
      · exact h.s.pp.symm
      · exact kindD h.b.m hv (fun _ z => nomatch z)
      · exact kindL h.b.a hv (fun _ z => nomatch z)
      · exact kindL h.b.b hv (fun _ z => nomatch z)
    · rcases hx with rfl | rfl | rfl | rfl
      · exact kindI hv2 h.a.a (fun _ _ _ z => nomatch z)
      · exact kindD h.b.m h.a.a (fun _ z => nomatch z)
      · exact h.s.AB.symm
      · exact h.s.oBA
    · rcases hx with rfl | rfl | rfl | rfl
      · exact kindI hv2 h.a.m (fun _ _ _ z => nomatch z)
      · exact h.s.qq.symm
      · exact kindL h.b.a h.a.m (fun _ z => nomatch z)
      · exact kindL h.b.b h.a.m (fun _ z => nomatch z)
    · rcases hx with rfl | rfl | rfl | rfl
      · exact kindI hv2 ge (fun _ _ _ z => nomatch z)
      · exact kindD h.b.m ge (fun _ z => nomatch z)
      · exact h.s.gB.symm
      · exact h.s.oBg
  · exact { h.s with oAc := nf hc, oAg := nf ge, oAA := nf h.a.a, oAB := nf h.b.a }
/-- a word was taken by A -/
theorem Wd.took (hNC : N ≠ C) (h : Wd C N d c ml gl vl wl mx gs gd vv ww n A B H) {l' ol' : Addr} {zs zs2 : List V} {es : List D} (hsub : ∀ e ∈ es, e ∈ A.ds) (hlen : es.length ≤ A.ds.length) (hl : H l' = none) (hol : H ol' = none) (hne : ol' ≠ l')
    (fr : ∀ b o, H b = some o → b ≠ A.p → b ≠ A.q → H' b = some o) (v' : Vf N H' A.p A.nm A.mo A.me A.g l') (a' : H' l' = some (.lst zs)) (q' : H' A.q = some (.dK (kM A.mo A.me ol' A.nm A.g))) (o' : H' ol' = some (.lst zs2)) (iz : IsA C H' zs es) (iz2 : IsA C H' zs2 es) :
    ∃ A', A'.p = A.p ∧ A'.q = A.q ∧ Wd C N d c ml gl vl wl mx gs gd vv ww n A' B H' := by
  obtain ⟨⟨r, m, hd⟩, nsx, hnx, hc⟩ := id h.dr
  obtain ⟨dx, hv⟩ := h.a.v
  obtain ⟨dy, hv2⟩ := h.b.v
  have k : Keep C H H' := ⟨fun b us e => fr b _ e (fun z => by rw [z, hv] at e; cases e) (fun z => by rw [z, h.a.m] at e; cases e),
    fun b dz fs e => fr b _ e (fun z => by rw [z, hv] at e; exact hNC (by cases e; rfl)) (fun z => by rw [z, h.a.m] at e; cases e)⟩
  have ls : ∀ {x : Addr} {zs : List V}, H x = some (.lst zs) → H' x = some (.lst zs) := fun {x zs} e => fr _ _ e (kindL e hv (fun _ z => nomatch z)) (kindL e h.a.m (fun _ z => nomatch z))
  have dd : ∀ {x : Addr} {zs : List (Key × V)}, H x = some (.dK zs) → x ≠ A.q → H' x = some (.dK zs) := fun {x zs} e n1 => fr _ _ e (kindD e hv (fun _ z => nomatch z)) n1
  have nf : ∀ {y z : Addr} {o : HO}, H y = none → H z = some o → y ≠ z := fun {y z o} hy e q => by rw [q, e] at hy; cases hy
  refine ⟨{ A with l := l', ol := ol', xs := zs, xs2 := zs2, ds := es }, rfl, rfl, ?_⟩
  refine ⟨⟨⟨r, m, dd hd h.s.dA⟩, nsx, hnx, ls hc⟩, ls h.m, IsA.keep k (by decide +kernel) h.im, ls h.g, IsA.keep k (chs_cln h.gk) h.ig, h.gk, h.gn, ls h.v, ls h.w, ?_, ?_, ?_⟩
  · exact ⟨v', a', iz, q', o', iz2, k.tup _ _ h.a.mo, k.tup _ _ h.a.me, IsA.keep k h.a.cl h.a.im, h.a.nmk, h.a.g0, h.a.g1, Nat.le_trans hlen h.a.dl, fun e he => h.a.ch e (hsub e he), h.a.pl, h.a.dp, h.a.cl⟩
  · refine h.b.fr k fun x o e hx => fr x o e ?_ ?_
    · rcases hx with rfl | rfl | rfl | rfl
      · exact h.s.pp.symm
      · exact kindD h.b.m hv (fun _ z => nomatch z)
      · exact kindL h.b.a hv (fun _ z => nomatch z)
      · exact kindL h.b.b hv (fun _ z => nomatch z)
    · rcases hx with rfl | rfl | rfl | rfl
      · exact kindI hv2 h.a.m (fun _ _ _ z => nomatch z)
      · exact h.s.qq.symm
      · exact kindL h.b.a h.a.m (fun _ z => nomatch z)
      · exact kindL h.b.b h.a.m (fun _ z => nomatch z)
  · exact { h.s with cA := (nf hl hc).symm, gA := (nf hl h.g).symm, AB := nf hl h.b.a, oBA := (nf hl h.b.b).symm, vA := (nf hl h.v).symm, wA := (nf hl h.w).symm, mA := (nf hl h.m).symm, oAc := nf hol hc, oAg := nf hol h.g, oAA := hne, oAB := nf hol h.b.a }
end
end Hc

set_option maxHeartbeats 8000000
namespace Hr
open PySem PySem.Spec PyProof.Rows L2
/-- a call without arguments -/
theorem pe_c0 {X : Cx} {k j : Nat} {x : Str} {sp : Sp} {dvs : List V} {q1 q2 : Pos} (c : C8.Cal X.prog X.w X.K X.mg X.base k x sp dvs) (hr : Room j X.A) (hk : k ≤ j) (hg : Gl X x) (hdb : (x == ("__debug__" : Str)) = false := by decide) : PE X (.Call (.Name x q1) [] [] q2) (tCall sp dvs C8.E0 tNil) := by
  obtain ⟨f, fd, ps, ds, F, hm, kp, b, d⟩ := c.ex
  exact pe_call0 F (hr.mono hk) hg hm kp b d C8.pass0 hdb
end Hr
namespace Hc
open PySem PySem.Spec PyProof.Rows L2 Hr
def spLaw (K : PySem.W.Frag) : Sp := fun vs H Q _ => ∃ (a : Addr) (ns : List Int), vs = [.ref a] ∧ SqL K H a (ns.map V.int) ∧ ns.length ≤ 1000 ∧ ∀ H', Q (.bl true) H'
theorem isA_strs {C : Addr} {H : Hp} : ∀ {ms : List Str} {zs : List V}, IsA C H zs (ms.map D.str) → zs = ms.map V.str
  | [], _, .nil => rfl
  | _ :: _, _, .cons h t => by cases h; rw [isA_strs t]; rfl
structure Pre (C N d c ml vl wl : Addr) (mx : List V) (ps : List Pl) (H : Hp) : Prop where
  dr : Dr H d c
  m : H ml = some (.lst mx)
  im : IsA C H mx measD
  v : H vl = some (.lst (ps.map fun P => V.ref P.p))
  w : H wl = some (.lst (ps.map fun P => V.ref P.q))
  n1 : vl ≠ wl
  n2 : vl ≠ c
  n3 : wl ≠ c
  n4 : ml ≠ vl
  n5 : ml ≠ wl
  n6 : ml ≠ c
  pl : ∀ P ∈ ps, PlAt C N 0 P H ∧ P.l ≠ c ∧ P.l ≠ vl ∧ P.l ≠ wl ∧ P.l ≠ ml ∧ P.ol ≠ c ∧ P.ol ≠ vl ∧ P.ol ≠ wl ∧ P.ol ≠ P.l ∧ d ≠ P.q
  pw : ps.Pairwise fun P Q => P.l ≠ Q.l ∧ P.ol ≠ Q.l ∧ Q.ol ≠ P.l ∧ P.p ≠ Q.p ∧ P.q ≠ Q.q
theorem Pre.same {C N d c ml vl wl : Addr} {mx : List V} {ps : List Pl} {H H' : Hp} (h : Pre C N d c ml vl wl mx ps H) (e : Same H H') : Pre C N d c ml vl wl mx ps H' :=
  ⟨h.dr.same e, e _ _ h.m, h.im.same e, e _ _ h.v, e _ _ h.w, h.n1, h.n2, h.n3, h.n4, h.n5, h.n6, fun P hP => ⟨(h.pl P hP).1.fr (Keep.of e) fun b o x _ => e b o x, (h.pl P hP).2⟩, h.pw⟩
theorem Pre.draw {C N d c ml vl wl : Addr} {mx : List V} {ps : List Pl} {H H' : Hp} (h : Pre C N d c ml vl wl mx ps H) (D' : Dr H' d c) (b : Bu2 d c H H') : Pre C N d c ml vl wl mx ps H' := by
  obtain ⟨⟨r, m, hd⟩, nsx, _, hc⟩ := id h.dr
  have k : Keep C H H' := h.dr.keep b
  have ls : ∀ {x : Addr} {zs : List V}, H x = some (.lst zs) → x ≠ c → H' x = some (.lst zs) := fun {x zs} e nc => b _ _ e (kindL e hd (fun _ z => nomatch z)) nc
  refine ⟨D', ls h.m h.n6, IsA.keep k (by decide +kernel) h.im, ls h.v h.n2, ls h.w h.n3, h.n1, h.n2, h.n3, h.n4, h.n5, h.n6, fun P hP => ?_, h.pw⟩
  obtain ⟨hp, q1, q2, q3, q4, q5, q6, q7, q8, q9⟩ := h.pl P hP
  refine ⟨hp.fr k fun x o e hx => ?_, q1, q2, q3, q4, q5, q6, q7, q8, q9⟩
  obtain ⟨dx, hv⟩ := hp.v
  refine b x o e ?_ ?_
  · rcases hx with rfl | rfl | rfl | rfl
    · exact kindI hv hd (fun _ _ _ z => nomatch z)
    · exact q9.symm
    · exact kindL hp.a hd (fun _ z => nomatch z)
    · exact kindL hp.b hd (fun _ z => nomatch z)
  · rcases hx with rfl | rfl | rfl | rfl
    · exact kindI hv hc (fun _ _ _ z => nomatch z)
    · exact kindD hp.m hc (fun _ z => nomatch z)
    · exact q1
    · exact q5
/-- one more player, all of it new -/
theorem Pre.add {C N d c ml vl wl : Addr} {mx : List V} {ps : List Pl} {H H' : Hp} (h : Pre C N d c ml vl wl mx ps H) {P : Pl} (fr : ∀ b o, H b = some o → b ≠ vl → b ≠ wl → H' b = some o) (hv : H' vl = some (.lst ((ps ++ [P]).map fun P => V.ref P.p))) (hw : H' wl = some (.lst ((ps ++ [P]).map fun P => V.ref P.q)))
    (hP : PlAt C N 0 P H') (f1 : H P.l = none) (f2 : H P.ol = none) (f3 : H P.p = none) (f4 : H P.q = none) (f5 : P.ol ≠ P.l) : Pre C N d c ml vl wl mx (ps ++ [P]) H' := by
  obtain ⟨⟨r, m, hd⟩, nsx, hnx, hc⟩ := id h.dr
  have k : Keep C H H' := ⟨fun b us e => fr b _ e (fun z => by rw [z, h.v] at e; cases e) (fun z => by rw [z, h.w] at e; cases e), fun b dz fs e => fr b _ e (fun z => by rw [z, h.v] at e; cases e) (fun z => by rw [z, h.w] at e; cases e)⟩
  have nf : ∀ {y z : Addr} {o : HO}, H y = none → H z = some o → y ≠ z := fun {y z o} hy e q => by rw [q, e] at hy; cases hy
  refine ⟨⟨⟨r, m, fr _ _ hd (kindD hd h.v (fun _ z => nomatch z)) (kindD hd h.w (fun _ z => nomatch z))⟩, nsx, hnx, fr _ _ hc h.n2.symm h.n3.symm⟩, fr _ _ h.m h.n4 h.n5, IsA.keep k (by decide +kernel) h.im, hv, hw, h.n1, h.n2, h.n3, h.n4, h.n5, h.n6, fun Q hQ => ?_, ?_⟩
  · rcases List.mem_append.mp hQ with hQ | hQ
    · obtain ⟨hp, q1, q2, q3, q4, q5, q6, q7, q8, q9⟩ := h.pl Q hQ
      refine ⟨hp.fr k fun x o e hx => ?_, q1, q2, q3, q4, q5, q6, q7, q8, q9⟩
      obtain ⟨dx, hv0⟩ := hp.v
      refine fr x o e ?_ ?_
      · rcases hx with rfl | rfl | rfl | rfl
        · exact kindI hv0 h.v (fun _ _ _ z => nomatch z)
        · exact kindD hp.m h.v (fun _ z => nomatch z)
        · exact q2
        · exact q6
      · rcases hx with rfl | rfl | rfl | rfl
        · exact kindI hv0 h.w (fun _ _ _ z => nomatch z)
        · exact kindD hp.m h.w (fun _ z => nomatch z)
        · exact q3
        · exact q7
    · rw [List.mem_singleton.mp hQ]
      exact ⟨hP, nf f1 hc, nf f1 h.v, nf f1 h.w, nf f1 h.m, nf f2 hc, nf f2 h.v, nf f2 h.w, f5, (nf f4 hd).symm⟩
  · refine List.pairwise_append.mpr ⟨h.pw, List.pairwise_singleton _ _, fun Q hQ R hR => ?_⟩
    rw [List.mem_singleton.mp hR]
    obtain ⟨hp, _⟩ := h.pl Q hQ
    obtain ⟨dx, hv0⟩ := hp.v
    exact ⟨(nf f1 hp.a).symm, (nf f1 hp.b).symm, nf f2 hp.a, (nf f3 hv0).symm, (nf f4 hp.m).symm⟩
theorem Wd.up {C N d c ml gl vl wl : Addr} {mx gs : List V} {gd : List D} {vv ww : List V} {n m : Nat} {A B : Pl} {H : Hp} (h : Wd C N d c ml gl vl wl mx gs gd vv ww n A B H) (k : n ≤ m) : Wd C N d c ml gl vl wl mx gs gd vv ww m A B H :=
  ⟨h.dr, h.m, h.im, h.g, h.ig, h.gk, Nat.le_trans h.gn k, h.v, h.w, h.a.up k, h.b.up k, h.s⟩
theorem takes_no {ms : List Str} {Ms ds : List D} {m : Str} {md ch : D} : takes ms Ms (ds.filter fun e => !eqD e ch) (.atom "token" [.str m, md, ch]) = false := by
  have e : ((ds.filter fun e => !eqD e ch).any fun e => eqD e ch) = false := by
    refine Bool.eq_false_iff.mpr fun z => ?_
    obtain ⟨e, he, hee⟩ := List.any_eq_true.mp z
    have := (List.mem_filter.mp he).2
    rw [hee] at this
    exact Bool.noConfusion this
  simp only [takes, e, Bool.and_false]
section
variable {P : Program} {w : World} {K : PySem.W.Frag} {mg : Str → Option Value} {base : Heap} {f : Addr} {fd : FuncData} {C N : Addr}
abbrev s_law : Stmt := top 38
theorem sc_law : FnScope ["script", "draws", "measures", "verifiers", "models", "name", "monitors", "asked", "given", "turn", "k", "model", "due", "word", "told", "one", "at", "bad"] ["script"] (C8.fnScope s_law) := C8.fnScope_by (by decide +kernel)
theorem fn_law (F : C8.Fun K "law" "law" s_law f fd) (b : Binds K fd ["script"] []) (T : Txt K mg w C) (G : VrC K mg N) (hNC : N ≠ C) (O : OwnS P w K mg base 4 C (spEqG C)) (o : Oth K C) (k_Atom : C8.Mak P w K mg base 5 "Atom" C (spInit C) []) (k_Verifier : C8.Mak P w K mg base 2 "Verifier" N (spVI N) [])
    (c__law_begin : C8.Cal P w K mg base 1 "_law_begin" (fun vs H Q _ => ∃ (a : Addr) (ns : List Int), vs = [.ref a] ∧ SqL K H a (ns.map V.int) ∧ ns.length ≤ 1000 ∧ ∀ H' d c, Same H H' → H d = none → H c = none → Dr H' d c → Q (.ref d) H') [])
    (c__law_draw : C8.Cal P w K mg base 1 "_law_draw" spDraw []) (c__law_pick : C8.Cal P w K mg base 2 "_law_pick" spPick []) (c__law_measures : C8.Cal P w K mg base 1 "_law_measures" (spMeas C) []) (c__law_offer : C8.Cal P w K mg base 8 "_law_offer" (spOffer C) []) (c__law_due : C8.Cal P w K mg base 6 "_law_due" (spDue C) [])
    (c_token_parts : C8.Cal P w K mg base 1 "token_parts" (spTokP C) []) (c__law_parts : C8.Cal P w K mg base 1 "_law_parts" (spTokP C) []) (c__law_right : C8.Cal P w K mg base 7 "_law_right" (spRight C N) []) (c__law_refused : C8.Cal P w K mg base 8 "_law_refused" (spRfd C) [])
    (m_challenge : C8.Met P w K mg base 7 N "challenge" (spVC N C) []) (m_take : C8.Met P w K mg base 7 N "take" (spVT N C) []) : FnOk P w K mg base C8.CX0 41 f fd ["script"] (spLaw K) := by
  refine C8.fn0 F sc_law (fun vs H Q E h => ?_) (fun cdv A outer s H vs Q E hr h => ?_)
  · obtain ⟨a, ns, rfl, _⟩ := h; rfl
  obtain ⟨a, ns, rfl, ha, hns, q⟩ := h
  refine ⟨_, (pss_cons (ps_set (i := 1) sc_law.nd rfl (Or.inl rfl) (C8.pe_c c__law_begin hr (by first | decide | omega) rfl (pa_cons (pv 0) pa_nil)))
      (pss_cons (ps_set (i := 2) sc_law.nd rfl (Or.inl rfl) (Hr.pe_c0 c__law_measures hr (by first | decide | omega) rfl))
      (pss_cons (ps_set (i := 3) sc_law.nd rfl (Or.inl rfl) (pe_lst pa_nil))
      (pss_cons (ps_set (i := 4) sc_law.nd rfl (Or.inl rfl) (pe_lst pa_nil))
      (pss_cons (ps_for PassesOwn.never rfl (pi_list (pe_lst (pa_cons pe_str (pa_cons pe_str pa_nil)))) (pg_name (i := 5) sc_law.nd rfl (Or.inl rfl))
      (pss_cons (ps_set (i := 6) sc_law.nd rfl (Or.inl rfl) (C8.pe_c c__law_pick hr (by first | decide | omega) rfl (pa_cons (pv 1) (pa_cons (pe_lst (pa_cons (pe_tup (pa_cons pe_str pa_nil)) (pa_cons (pe_tup (pa_cons pe_str (pa_cons pe_str pa_nil))) (pa_cons (pe_tup pa_nil) (pa_cons (pe_tup (pa_cons pe_str (pa_cons pe_str (pa_cons pe_str pa_nil)))) pa_nil))))) pa_nil))))
      (pss_cons (ps_set (i := 7) sc_law.nd rfl (Or.inl rfl) (pe_callTy call_tuple_of rfl T.z_tuple bt_tuple (pa_cons (C8.pe_c c__law_pick hr (by first | decide | omega) rfl (pa_cons (pv 1) (pa_cons (pe_lst (pa_cons (pe_slice sl_list (pv 2) po_none (po_some pe_int)) (pa_cons (pe_slice sl_list (pv 2) (po_some pe_int) (po_some pe_int)) (pa_cons (pe_slice sl_list (pv 2) (po_some pe_int) po_none) (pa_cons (pv 2) (pa_cons (pe_lst pa_nil) pa_nil)))))) pa_nil))) pa_nil)))
      (pss_cons (ps_expr (pe_bm PySem.F.plainAttrs_list PySem.F.slot_list_append PySem.F.type_list_append mt_append (pv 3) (pa_cons (C8.pe_mk k_Verifier hr (by first | decide | omega) rfl (pa_cons (pv 5) (pa_cons (pv 6) (pa_cons (pv 7) pa_nil)))) pa_nil)))
      (pss_one (ps_expr (pe_bm PySem.F.plainAttrs_list PySem.F.slot_list_append PySem.F.type_list_append mt_append (pv 4) (pa_cons (pe_disp (pps_cons pe_str (pv 6) (pps_cons pe_str (pv 7) (pps_cons pe_str (pe_lst pa_nil) (pps_cons pe_str (pv 5) (pps_cons pe_str pe_int pps_nil))))) rfl rfl (List.cons_ne_nil _ _) (by decide)) pa_nil))))))))
      (pss_cons (ps_set (i := 8) sc_law.nd rfl (Or.inl rfl) (pe_lst pa_nil))
      (pss_cons (ps_for PassesOwn.never rfl (pi_range1 rfl T.z_range (pa_cons (pe_op op_add pe_int (C8.pe_c c__law_draw hr (by first | decide | omega) rfl (pa_cons (pv 1) (pa_cons pe_int pa_nil)))) pa_nil)) (pg_name (i := 9) sc_law.nd rfl (Or.inl rfl))
      (pss_cons (ps_set (i := 10) sc_law.nd rfl (Or.inl rfl) (C8.pe_c c__law_draw hr (by first | decide | omega) rfl (pa_cons (pv 1) (pa_cons pe_int pa_nil))))
      (pss_cons (ps_set (i := 11) sc_law.nd rfl (Or.inl rfl) (pe_ix ix_list (pv 4) (pv 10) (fun _ _ => rfl)))
      (C8.pss_cut (ps_if (pt_cmpR op_eq (C8.pe_c c__law_draw hr (by first | decide | omega) rfl (pa_cons (pv 1) (pa_cons pe_int pa_nil))) pe_int (nomark _)) (pss_cons (ps_set (i := 12) sc_law.nd rfl (Or.inl rfl) (C8.pe_mk k_Atom hr (by first | decide | omega) rfl (pa_cons pe_str (pa_cons (pe_tup (pa_cons (pe_dget (ru hr) (pv 11) pe_str (fun _ _ => rfl)) (pa_cons (pe_dget (ru hr) (pv 11) pe_str (fun _ _ => rfl)) pa_nil))) pa_nil))))
      (pss_cons (ps_if (pt_cmpR (op_neW (N := 0) O o (hr.mono (by decide))) (C8.pe_mt0 m_challenge hr (by first | decide | omega) (pe_ix ix_list (pv 3) (pv 10) (fun _ _ => rfl))) (pv 12) (nomark _)) (pss_one (ps_ret pe_bl)) pss_nil)
      (pss_cons (ps_dput (ru hr) (pv 11) pe_str (pe_op op_add (pe_dget (ru hr) (pv 11) pe_str (fun _ _ => rfl)) pe_int) rfl)
      (pss_cons (ps_dput (ru hr) (pv 11) pe_str (pe_op op_cat (pe_dget (ru hr) (pv 11) pe_str (fun _ _ => rfl)) (pe_lst (pa_cons (pv 12) pa_nil))) rfl)
      (pss_one (ps_expr (pe_bm PySem.F.plainAttrs_list PySem.F.slot_list_append PySem.F.type_list_append mt_append (pv 8) (pa_cons (pv 12) pa_nil)))))))) (pss_cons (ps_set (i := 13) sc_law.nd rfl (Or.inr rfl) (C8.pe_c c__law_offer hr (by first | decide | omega) rfl (pa_cons (pv 1) (pa_cons (pv 8) (pa_cons (pv 2) pa_nil)))))
      (pss_cons (ps_set (i := 12) sc_law.nd rfl (Or.inl rfl) (C8.pe_c c__law_due hr (by first | decide | omega) rfl (pa_cons (pv 11) (pa_cons (pv 13) pa_nil))))
      (pss_cons (ps_set (i := 14) sc_law.nd rfl (Or.inl rfl) (C8.pe_mt m_take hr (by first | decide | omega) (pe_ix ix_list (pv 3) (pv 10) (fun _ _ => rfl)) (pa_cons (pv 13) pa_nil)))
      (pss_cons (ps_if (PW.pt (pw_or (pt_not (pt_val (pe_callB (call_isiA T.cl) rfl T.z_isinstance bt_isinstance (pa_cons (pv 14) (pa_cons (pe_bltn (v := .ty "bool") rfl T.z_bool bt_bool rfl) pa_nil))))) (pw_or (pt_cmpR op_ne (pv 14) (pv 12) (nomark _)) (pw_or1 (pt_cmpR (op_neW (N := 30) O o (hr.mono (by decide))) (C8.pe_c c_token_parts hr (by first | decide | omega) rfl (pa_cons (pv 13) pa_nil)) (C8.pe_c c__law_parts hr (by first | decide | omega) rfl (pa_cons (pv 13) pa_nil)) (nomark _)))))) (pss_one (ps_ret pe_bl)) pss_nil)
      (pss_cons (ps_if (pt_val (pv 12)) (pss_one (ps_dput (ru hr) (pv 11) pe_str (pe_lc (own := [("one", 15)]) (tt := tTest (tOp (rNeW C 0) (tVar 15) (tOp (rIxT K) (tFld K (tVar 13) "term") (tC (.int 2))))) (g := gName 15) rfl sc_law.nd (pi_list (pe_dget (ru hr) (pv 11) pe_str (fun _ _ => rfl))) (blkOk_by (own := [("one", 15)]) (N := ["script", "draws", "measures", "verifiers", "models", "name", "monitors", "asked", "given", "turn", "k", "model", "due", "word", "told", "one", "at", "bad"]) (sc := C8.fnScope s_law) (by decide +kernel)) (fun _ _ _ _ _ => (pg_name (i := 15) sc_law.nd rfl (Or.inl rfl))) (fun _ _ _ _ _ => (pts_one (pt_cmpR (op_neW (N := 0) O o (hr.mono (by decide))) (pv 15) (pe_ix ix_tup (pe_fld (pv 13) rfl) pe_int (fun _ _ => rfl)) (nomark _)))) (fun _ _ _ _ _ => (pv 15))) rfl)) pss_nil)
      (pss_one (ps_if (PW.pt (pw_and (pt_val (pv 12)) (pw_and1 (pt_cmpR op_isnot_bl (C8.pe_mt m_take hr (by first | decide | omega) (pe_ix ix_list (pv 3) (pv 10) (fun _ _ => rfl)) (pa_cons (pv 13) pa_nil)) pe_bl (nomark _))))) (pss_one (ps_ret pe_bl)) pss_nil))))))))
      (pss_one (ps_for PassesOwn.never rfl (pi_range1 rfl T.z_range (pa_cons pe_int pa_nil)) (pg_name (i := 16) sc_law.nd rfl (Or.inl rfl))
      (pss_one (ps_if (pt_not (pt_val (C8.pe_c c__law_right hr (by first | decide | omega) rfl (pa_cons (pe_ix ix_list (pv 3) (pv 16) (fun _ _ => rfl)) (pa_cons (pe_ix ix_list (pv 4) (pv 16) (fun _ _ => rfl)) (pa_cons (pv 8) pa_nil)))))) (pss_one (ps_ret pe_bl)) pss_nil))))))))
      (pss_cons (ps_set (i := 17) sc_law.nd rfl (Or.inl rfl) (pe_lst (pa_cons (pe_tup (pa_cons pe_str (pa_cons pe_int (pa_cons (pe_tup pa_nil) (pa_cons pe_int pa_nil))))) (pa_cons (pe_tup (pa_cons pe_str (pa_cons pe_str (pa_cons pe_int (pa_cons pe_int pa_nil))))) (pa_cons (pe_tup (pa_cons pe_str (pa_cons pe_str (pa_cons (pe_tup pa_nil) (pa_cons pe_bl pa_nil))))) (pa_cons (pe_tup (pa_cons pe_str (pa_cons pe_str (pa_cons (pe_tup (pa_cons (pe_lst pa_nil) pa_nil)) (pa_cons pe_int pa_nil))))) (pa_cons (pe_tup (pa_cons pe_str (pa_cons pe_non (pa_cons (pe_tup pa_nil) (pa_cons pe_int pa_nil))))) pa_nil)))))))
      (pss_cons (ps_set (i := 17) sc_law.nd rfl (Or.inl rfl) (pe_op op_cat (pv 17) (pe_lst (pa_cons (pe_tup (pa_cons pe_str (pa_cons pe_int pa_nil))) (pa_cons (pe_tup (pa_cons pe_str (pa_cons pe_non pa_nil))) (pa_cons (pe_tup (pa_cons pe_str (pa_cons (pe_tup (pa_cons pe_str pa_nil)) pa_nil))) pa_nil))))))
      (pss_one (ps_ret (C8.pe_c c__law_refused hr (by first | decide | omega) rfl (pa_cons (C8.pe_c c__law_pick hr (by first | decide | omega) rfl (pa_cons (pv 1) (pa_cons (pv 17) pa_nil))) pa_nil))))))))))))), ?_⟩
  refine ⟨_, rfl, a, ns, rfl, ha, hns, fun H1 d c s1 hd0 hc0 hD => ?_⟩
  refine ⟨rfl, fun H2 ml mx s2 hml0 hml imx => ?_⟩
  refine ⟨(by show 0 ≤ sizeLine; decide), fun vl hvl => ?_⟩
  have nvm : ml ≠ vl := ne_of_none hml hvl
  have sv := same_new (o := .lst []) hvl
  have ev : upd H2 vl (.lst []) vl = some (.lst []) := upd_same
  have hD2 := (hD.same s2)
  have nvc := (hD2.off hvl).2
  have hD3 := hD2.same sv
  have hml := sv _ _ hml
  have imx := imx.same sv
  generalize upd H2 vl (.lst []) = H3 at *
  refine ⟨(by show 0 ≤ sizeLine; decide), fun wl hwl => ?_⟩
  have nwm : ml ≠ wl := ne_of_none hml hwl
  have nvw : vl ≠ wl := ne_of_none ev hwl
  have sw := same_new (o := .lst []) hwl
  have ew : upd H3 wl (.lst []) wl = some (.lst []) := upd_same
  have nwc := (hD3.off hwl).2
  have hD4 := hD3.same sw
  have hml := sw _ _ hml
  have imx := imx.same sw
  have ev := sw _ _ ev
  have nmc : ml ≠ c := (hD.off hml0).2
  generalize upd H3 wl (.lst []) = H4 at *
  have pr0 : Pre C N d c ml vl wl mx [] H4 := ⟨hD4, hml, imx, ev, ew, nvw, nvc, nwc, nvm, nwm, nmc, (fun P hP => nomatch hP), .nil⟩
  obtain ⟨a0, a1, a2, a3, rfl⟩ : ∃ a0 a1 a2 a3, mx = [a0, a1, a2, a3] := by
    have hl : mx.length = 4 := imx.len
    match mx, hl with
    | [a0, a1, a2, a3], _ => exact ⟨a0, a1, a2, a3, rfl⟩
  refine ⟨(by show 2 ≤ sizeLine; decide), fun ln hln => ?_⟩
  have sn := same_new (o := .lst [.str "v", .str "w"]) hln
  have en : upd H4 ln (.lst [.str "v", .str "w"]) ln = some (.lst [.str "v", .str "w"]) := upd_same
  have nnc := (hD4.off hln).2
  have nnd := (hD4.off hln).1
  have nnv : ln ≠ vl := (ne_of_none ev hln).symm
  have nnw : ln ≠ wl := (ne_of_none ew hln).symm
  have pr1 := pr0.same sn
  generalize upd H4 ln (.lst [.str "v", .str "w"]) = H5 at *
  refine ⟨ln, rfl, ⟨_, SqL.of en⟩, for_it (walk_list (xs := [.str "v", .str "w"])) (fun i σ H' => ∃ v5 v6 v7 ps, σ = [some (.ref a), some (.ref d), some (.ref ml), some (.ref vl), some (.ref wl), v5, v6, v7, none, none, none, none, none, none, none, none, none, none] ∧ ps.length = i ∧ Pre C N d c ml vl wl [a0, a1, a2, a3] ps H' ∧ H' ln = some (.lst [.str "v", .str "w"])) ⟨none, none, none, [], rfl, rfl, pr1, en⟩ (fun i σ H' _ h => by obtain ⟨_, _, _, _, _, _, _, e⟩ := h; exact SqL.of e) ?_ ?_⟩
  · rintro i y σ H6 H7 hi ⟨v5, v6, v7, ps, rfl, hps, pr, en6⟩ ⟨rfl, hy⟩
    obtain ⟨nm, rfl, hnm⟩ : ∃ nm, y = .str nm ∧ (nm = "v" ∨ nm = "w") := by
      have hm := List.mem_of_getElem? hy
      simp only [List.mem_cons, List.not_mem_nil, or_false] at hm
      rcases hm with rfl | rfl
      · exact ⟨_, rfl, .inl rfl⟩
      · exact ⟨_, rfl, .inr rfl⟩
    have htx : txtOk nm = true := by rcases hnm with rfl | rfl <;> decide +kernel
    have hnl : nm.length ≤ sizeLine := by rcases hnm with rfl | rfl <;> decide +kernel
    -- the monitors
    refine ⟨_, rfl, (by show 1 ≤ sizeLine; decide), fun t1 h1 => ?_⟩
    have s1 := same_new (o := .tup [.str "m"]) h1
    have i1 : Is C (upd H7 t1 (.tup [.str "m"])) (.ref t1) (.tup ([("m" : Str)].map D.str)) := .tup upd_same (.cons (.str _) .nil)
    generalize upd H7 t1 (.tup [.str "m"]) = J1 at *
    refine ⟨(by show 2 ≤ sizeLine; decide), fun t2 h2 => ?_⟩
    have s2' := same_new (o := .tup [.str "m", .str "n"]) h2
    have i1 := i1.same s2'
    have i2 : Is C (upd J1 t2 (.tup [.str "m", .str "n"])) (.ref t2) (.tup ([("m" : Str), "n"].map D.str)) := .tup upd_same (.cons (.str _) (.cons (.str _) .nil))
    generalize upd J1 t2 (.tup [.str "m", .str "n"]) = J2 at *
    refine ⟨(by show 0 ≤ sizeLine; decide), fun t3 h3 => ?_⟩
    have s3' := same_new (o := .tup []) h3
    have i1 := i1.same s3'
    have i2 := i2.same s3'
    have i3 : Is C (upd J2 t3 (.tup [])) (.ref t3) (.tup (([] : List Str).map D.str)) := .tup upd_same .nil
    generalize upd J2 t3 (.tup []) = J3 at *
    refine ⟨(by show 3 ≤ sizeLine; decide), fun t4 h4 => ?_⟩
    have s4' := same_new (o := .tup [.str "o", .str "n", .str "m"]) h4
    have i1 := i1.same s4'
    have i2 := i2.same s4'
    have i3 := i3.same s4'
    have i4 : Is C (upd J3 t4 (.tup [.str "o", .str "n", .str "m"])) (.ref t4) (.tup ([("o" : Str), "n", "m"].map D.str)) := .tup upd_same (.cons (.str _) (.cons (.str _) (.cons (.str _) .nil)))
    generalize upd J3 t4 (.tup [.str "o", .str "n", .str "m"]) = J4 at *
    refine ⟨(by show 4 ≤ sizeLine; decide), fun L hL => ?_⟩
    have s5' := same_new (o := .lst [.ref t1, .ref t2, .ref t3, .ref t4]) hL
    have eL : upd J4 L (.lst [.ref t1, .ref t2, .ref t3, .ref t4]) L = some (.lst [.ref t1, .ref t2, .ref t3, .ref t4]) := upd_same
    have s15 := s1.trans (s2'.trans (s3'.trans (s4'.trans s5')))
    have iL : IsA C (upd J4 L (.lst [.ref t1, .ref t2, .ref t3, .ref t4])) [.ref t1, .ref t2, .ref t3, .ref t4] [.tup ([("m" : Str)].map D.str), .tup ([("m" : Str), "n"].map D.str), .tup (([] : List Str).map D.str), .tup ([("o" : Str), "n", "m"].map D.str)] := .cons (i1.same s5') (.cons (i2.same s5') (.cons (i3.same s5') (.cons (i4.same s5') .nil)))
    have nLc := ((pr.same (s1.trans (s2'.trans (s3'.trans s4')))).dr.off hL).2
    generalize upd J4 L (.lst [.ref t1, .ref t2, .ref t3, .ref t4]) = J5 at *
    have pr5 := pr.same s15
    refine ⟨d, c, L, _, rfl, pr5.dr, eL, nLc, by show 0 < 4; decide, by show 4 < 1000000; decide, fun J6 i6 x6 D6 b6 hx6 => ?_⟩
    have pr6 := pr5.draw D6 b6
    obtain ⟨e6, he6, hi6⟩ := (IsA.keep (pr5.dr.keep b6) (by decide +kernel) iL).at hx6
    obtain ⟨mo, ms, rfl, hmo⟩ : ∃ mo, ∃ ms : List Str, x6 = .ref mo ∧ J6 mo = some (.tup (ms.map V.str)) := by
      have hm := List.mem_of_getElem? he6
      simp only [List.mem_cons, List.not_mem_nil, or_false] at hm
      rcases hm with rfl | rfl | rfl | rfl <;> cases hi6 with
      | tup e t => exact ⟨_, _, rfl, by rw [e, isA_strs t]⟩
    have en6' : J6 ln = some (.lst [.str "v", .str "w"]) := b6 _ _ (s15 _ _ en6) nnd nnc
    -- the measures asked for
    have im6 := pr6.im
    cases im6 with
    | @cons _ _ _ _ ia0 im6 => cases im6 with
    | @cons _ _ _ _ ia1 im6 => cases im6 with
    | @cons _ _ _ _ ia2 im6 => cases im6 with
    | @cons _ _ _ _ ia3 im6 =>
    refine ⟨_, rfl, _, rfl, 1, rfl, ml, _, rfl, SqL.of pr6.m, fun k1 hk1 => ?_⟩
    rw [show cutV [a0, a1, a2, a3] none (some (1 : Int)) = [a0] from rfl]
    have z1 := same_new (o := .lst [a0]) hk1
    have ek1 : upd J6 k1 (.lst [a0]) k1 = some (.lst [a0]) := upd_same
    have pr7 := pr6.same z1
    have hmo := z1 _ _ hmo
    have en7 := z1 _ _ en6'
    have ja0 := ia0.same z1
    have ja1 := ia1.same z1
    have ja2 := ia2.same z1
    have ja3 := ia3.same z1
    generalize upd J6 k1 (.lst [a0]) = J7 at *
    refine ⟨_, rfl, 1, rfl, 3, rfl, ml, _, rfl, SqL.of pr7.m, fun k2 hk2 => ?_⟩
    rw [show cutV [a0, a1, a2, a3] (some (1 : Int)) (some (3 : Int)) = [a1, a2] from rfl]
    have z2 := same_new (o := .lst [a1, a2]) hk2
    have ek2 : upd J7 k2 (.lst [a1, a2]) k2 = some (.lst [a1, a2]) := upd_same
    have pr8 := pr7.same z2
    have hmo := z2 _ _ hmo
    have en7 := z2 _ _ en7
    have ek1 := z2 _ _ ek1
    have ja0 := ja0.same z2
    have ja1 := ja1.same z2
    have ja2 := ja2.same z2
    have ja3 := ja3.same z2
    generalize upd J7 k2 (.lst [a1, a2]) = J8 at *
    refine ⟨_, rfl, 3, rfl, ml, _, rfl, SqL.of pr8.m, fun k3 hk3 => ?_⟩
    rw [show cutV [a0, a1, a2, a3] (some (3 : Int)) none = [a3] from rfl]
    have z3 := same_new (o := .lst [a3]) hk3
    have ek3 : upd J8 k3 (.lst [a3]) k3 = some (.lst [a3]) := upd_same
    have pr9 := pr8.same z3
    have hmo := z3 _ _ hmo
    have en7 := z3 _ _ en7
    have ek1 := z3 _ _ ek1
    have ek2 := z3 _ _ ek2
    have ja0 := ja0.same z3
    have ja1 := ja1.same z3
    have ja2 := ja2.same z3
    have ja3 := ja3.same z3
    generalize upd J8 k3 (.lst [a3]) = J9 at *
    refine ⟨_, rfl, (by show 0 ≤ sizeLine; decide), fun k4 hk4 => ?_⟩
    have z4 := same_new (o := .lst []) hk4
    have ek4 : upd J9 k4 (.lst []) k4 = some (.lst []) := upd_same
    have prA := pr9.same z4
    have hmo := z4 _ _ hmo
    have en7 := z4 _ _ en7
    have ek1 := z4 _ _ ek1
    have ek2 := z4 _ _ ek2
    have ek3 := z4 _ _ ek3
    have ja0 := ja0.same z4
    have ja1 := ja1.same z4
    have ja2 := ja2.same z4
    have ja3 := ja3.same z4
    have nk4 := (pr9.dr.off hk4)
    have nk3 := (pr8.dr.off hk3)
    have nk2 := (pr7.dr.off hk2)
    have nk1 := (pr6.dr.off hk1)
    generalize upd J9 k4 (.lst []) = JA at *
    refine ⟨(by show 5 ≤ sizeLine; decide), fun M hM => ?_⟩
    have z5 := same_new (o := .lst [.ref k1, .ref k2, .ref k3, .ref ml, .ref k4]) hM
    have eM : upd JA M (.lst [.ref k1, .ref k2, .ref k3, .ref ml, .ref k4]) M = some (.lst [.ref k1, .ref k2, .ref k3, .ref ml, .ref k4]) := upd_same
    have prB := prA.same z5
    have nMc := (prA.dr.off hM).2
    have hmo := z5 _ _ hmo
    have en7 := z5 _ _ en7
    have ek1 := z5 _ _ ek1
    have ek2 := z5 _ _ ek2
    have ek3 := z5 _ _ ek3
    have ek4 := z5 _ _ ek4
    have ja0 := ja0.same z5
    have ja1 := ja1.same z5
    have ja2 := ja2.same z5
    have ja3 := ja3.same z5
    generalize upd JA M (.lst [.ref k1, .ref k2, .ref k3, .ref ml, .ref k4]) = JB at *
    refine ⟨d, c, M, _, rfl, prB.dr, eM, nMc, by show 0 < 5; decide, by show 5 < 1000000; decide, fun JC iC xC DC bC hxC => ?_⟩
    have prC := prB.draw DC bC
    have kC : Keep C JB JC := prB.dr.keep bC
    have hmo := kC.tup _ _ hmo
    have en7 := bC _ _ en7 nnd nnc
    have ja0 := Is.keep kC (by decide +kernel) ja0
    have ja1 := Is.keep kC (by decide +kernel) ja1
    have ja2 := Is.keep kC (by decide +kernel) ja2
    have ja3 := Is.keep kC (by decide +kernel) ja3
    have ek1 := bC _ _ ek1 nk1.1 nk1.2
    have ek2 := bC _ _ ek2 nk2.1 nk2.2
    have ek3 := bC _ _ ek3 nk3.1 nk3.2
    have ek4 := bC _ _ ek4 nk4.1 nk4.2
    obtain ⟨kx, zs, Ms, rfl, hkx, iMs, hMp, hMd, hMc⟩ : ∃ kx zs Ms, xC = .ref kx ∧ JC kx = some (.lst zs) ∧ IsA C JC zs Ms ∧ plnL Ms = true ∧ dptL Ms ≤ 60 ∧ clnL Ms = true := by
      have hm := List.mem_of_getElem? hxC
      simp only [List.mem_cons, List.not_mem_nil, or_false] at hm
      rcases hm with rfl | rfl | rfl | rfl | rfl
      · exact ⟨k1, _, _, rfl, ek1, .cons ja0 .nil, by decide +kernel, by decide +kernel, by decide +kernel⟩
      · exact ⟨k2, _, _, rfl, ek2, .cons ja1 (.cons ja2 .nil), by decide +kernel, by decide +kernel, by decide +kernel⟩
      · exact ⟨k3, _, _, rfl, ek3, .cons ja3 .nil, by decide +kernel, by decide +kernel, by decide +kernel⟩
      · exact ⟨ml, _, _, rfl, prC.m, prC.im, by decide +kernel, by decide +kernel, by decide +kernel⟩
      · exact ⟨k4, _, _, rfl, ek4, .nil, by decide +kernel, by decide +kernel, by decide +kernel⟩
    refine ⟨kx, zs, rfl, .inl ⟨SqL.of hkx, fun me hme => ?_⟩⟩
    have zD := same_new (o := .tup zs) hme
    have eme : upd JC me (.tup zs) me = some (.tup zs) := upd_same
    have prD := prC.same zD
    have hmo := zD _ _ hmo
    have en7 := zD _ _ en7
    have iMs := iMs.same zD
    generalize upd JC me (.tup zs) = JD at *
    -- the verifier
    refine ⟨_, rfl, .inl ⟨rfl, _, SqL.of prD.v⟩, _, rfl, _, rfl, _, rfl, ?_⟩
    intro p dx hp0 hdx hne
    refine ⟨p, dx, nm, mo, me, rfl, upd_same, htx, hnl, fun JE l hl0 hl hvf oth => ⟨rfl, ?_⟩⟩
    have zE : Same JD (upd (upd JD dx (.own p)) p (.ins N dx [])) := same_put (same_new hdx) hp0
    have zE' : Same JD JE := fun b u e => oth b u (zE _ _ e) (ne_of_none e hp0)
    have hl00 : JD l = none := zE.free hl0
    have prE := prD.same zE'
    have hmo := zE' _ _ hmo
    have en7 := zE' _ _ en7
    have eme := zE' _ _ eme
    have iMs := iMs.same zE'
    have hpl2 : ps.length ≤ 2 := by have : i < 2 := hi; omega
    refine ⟨vl, _, .ref p, rfl, rfl, prE.v, small1000 (by rw [List.length_map]; omega), ?_⟩
    have nlv : l ≠ vl := fun z => by rw [z, prD.v] at hl00; cases hl00
    have nlw : l ≠ wl := fun z => by rw [z, prD.w] at hl00; cases hl00
    have npv : p ≠ vl := fun z => by rw [z, prD.v] at hp0; cases hp0
    have npw : p ≠ wl := fun z => by rw [z, prD.w] at hp0; cases hp0
    have nmov : mo ≠ vl := fun z => by rw [z, prE.v] at hmo; cases hmo
    have nmow : mo ≠ wl := fun z => by rw [z, prE.w] at hmo; cases hmo
    have nmev : me ≠ vl := fun z => by rw [z, prE.v] at eme; cases eme
    have nmew : me ≠ wl := fun z => by rw [z, prE.w] at eme; cases eme
    obtain ⟨dv, hvf⟩ := hvf
    have F1 : upd JE vl (.lst ((ps.map fun P => V.ref P.p) ++ [.ref p])) p = some (.ins N dv (vrF nm mo me 0 l)) := by rw [upd_ne npv]; exact hvf
    have F2 : upd JE vl (.lst ((ps.map fun P => V.ref P.p) ++ [.ref p])) l = some (.lst []) := by rw [upd_ne nlv]; exact hl
    have F3 : upd JE vl (.lst ((ps.map fun P => V.ref P.p) ++ [.ref p])) wl = some (.lst (ps.map fun P => V.ref P.q)) := by rw [upd_ne prE.n1.symm]; exact prE.w
    have F4 : upd JE vl (.lst ((ps.map fun P => V.ref P.p) ++ [.ref p])) vl = some (.lst ((ps.map fun P => V.ref P.p) ++ [.ref p])) := upd_same
    have F5 : upd JE vl (.lst ((ps.map fun P => V.ref P.p) ++ [.ref p])) mo = some (.tup (ms.map V.str)) := by rw [upd_ne nmov]; exact hmo
    have F6 : upd JE vl (.lst ((ps.map fun P => V.ref P.p) ++ [.ref p])) me = some (.tup zs) := by rw [upd_ne nmev]; exact eme
    have F7 : upd JE vl (.lst ((ps.map fun P => V.ref P.p) ++ [.ref p])) ln = some (.lst [.str "v", .str "w"]) := by rw [upd_ne nnv]; exact en7
    have kF : Keep C JE (upd JE vl (.lst ((ps.map fun P => V.ref P.p) ++ [.ref p]))) := Keep.lst prE.v
    have frF : ∀ b o, JD b = some o → b ≠ vl → upd JE vl (.lst ((ps.map fun P => V.ref P.p) ++ [.ref p])) b = some o := fun b o e n => by rw [upd_ne n]; exact zE' _ _ e
    have iMs := IsA.keep kF hMc iMs
    generalize upd JE vl (.lst ((ps.map fun P => V.ref P.p) ++ [.ref p])) = JF at *
    refine ⟨_, rfl, .inl ⟨rfl, _, SqL.of F3⟩, ?_⟩
    intro q' hq
    refine ⟨_, rfl, _, rfl, (by show 0 ≤ sizeLine; decide), fun ol hol => ⟨_, rfl, ?_⟩⟩
    have nqo : q' ≠ ol := fun z => by rw [← z, upd_same] at hol; cases hol
    refine ⟨by rw [upd_ne nqo]; exact upd_same, kM mo me ol nm 0, rfl, by show 5 ≤ 15; decide, ?_⟩
    have emg : mergeK [] (kM mo me ol nm 0) = kM mo me ol nm 0 := by simp [kM, mergeK, putK, n_1, n_2, n_3, n_4, n_5, n_6, n_7, n_8, n_9, n_10]
    rw [emg]
    have frG : ∀ b o, JF b = some o → upd (upd (upd JF q' (.dK [])) ol (.lst [])) q' (.dK (kM mo me ol nm 0)) b = some o := fun b o e => by
      have n1 : b ≠ q' := ne_of_none e hq
      have n2 : b ≠ ol := ne_of_none (same_new hq _ _ e) hol
      rw [upd_ne n1, upd_ne n2, upd_ne n1]; exact e
    refine ⟨wl, _, .ref q', rfl, rfl, frG _ _ F3, small1000 (by rw [List.length_map]; omega), ?_⟩
    have nqw : q' ≠ wl := (ne_of_none F3 hq).symm
    have now_ : ol ≠ wl := fun z => by rw [z, same_new hq _ _ F3] at hol; cases hol
    have frH : ∀ b o, JF b = some o → b ≠ wl → upd (upd (upd (upd JF q' (.dK [])) ol (.lst [])) q' (.dK (kM mo me ol nm 0))) wl (.lst ((ps.map fun P => V.ref P.q) ++ [.ref q'])) b = some o := fun b o e n => by rw [upd_ne n]; exact frG _ _ e
    have kH : Keep C JF (upd (upd (upd (upd JF q' (.dK [])) ol (.lst [])) q' (.dK (kM mo me ol nm 0))) wl (.lst ((ps.map fun P => V.ref P.q) ++ [.ref q']))) := ⟨fun b us e => frH b _ e (fun z => by rw [z, F3] at e; cases e), fun b dz fs e => frH b _ e (fun z => by rw [z, F3] at e; cases e)⟩
    have hqJD : JD q' = none := by
      cases e : JD q' with
      | none => rfl
      | some u =>
        by_cases z : q' = vl
        · rw [z, F4] at hq; cases hq
        · rw [frF _ _ e z] at hq; cases hq
    have holJD : JD ol = none := by
      cases e : JD ol with
      | none => rfl
      | some u =>
        by_cases z : ol = vl
        · rw [z, same_new hq _ _ F4] at hol; cases hol
        · rw [same_new hq _ _ (frF _ _ e z)] at hol; cases hol
    have nol : ol ≠ l := fun z => by rw [z, same_new hq _ _ F2] at hol; cases hol
    refine ⟨_, _, _, ps ++ [⟨p, q', mo, me, l, ol, nm, 0, [], [], [], ms, zs, Ms⟩], rfl, by simp [hps], ?_, frH _ _ F7 nnw⟩
    refine prD.add (P := ⟨p, q', mo, me, l, ol, nm, 0, [], [], [], ms, zs, Ms⟩) (fun b o e n1 n2 => frH _ _ (frF _ _ e n1) n2) (by rw [frH _ _ F4 nvw, List.map_append]; rfl) (by rw [upd_same, List.map_append]; rfl) ?_ hl00 holJD hp0 hqJD nol
    exact ⟨⟨dv, frH _ _ F1 npw⟩, frH _ _ F2 nlw, .nil, by rw [upd_ne nqw]; exact upd_same, by rw [upd_ne now_, upd_ne nqo.symm]; exact upd_same, .nil, frH _ _ F5 nmow, frH _ _ F6 nmew, IsA.keep kH hMc iMs, hnm, Int.le_refl 0, Int.le_refl 0, Nat.le_refl 0, (fun e he => nomatch he), hMp, hMd, hMc⟩
  · rintro σ H6 ⟨v5, v6, v7, ps, rfl, hps, pr, en6⟩
    obtain ⟨A0, B0, rfl⟩ : ∃ A B, ps = [A, B] := by
      match ps, hps with
      | [A, B], _ => exact ⟨A, B, rfl⟩
    refine ⟨(by show 0 ≤ sizeLine; decide), fun gl hgl => ?_⟩
    obtain ⟨hA, qa1, qa2, qa3, qa4, qa5, qa6, qa7, qa8, qa9⟩ := pr.pl A0 (by simp)
    obtain ⟨hB, qb1, qb2, qb3, qb4, qb5, qb6, qb7, qb8, qb9⟩ := pr.pl B0 (by simp)
    have hpw := pr.pw
    simp only [List.pairwise_cons, List.mem_singleton, forall_eq, List.not_mem_nil, false_implies, implies_true, List.Pairwise.nil, and_true] at hpw
    obtain ⟨w1, w2, w3, w4, w5⟩ := hpw
    obtain ⟨⟨r0, m0, hd0'⟩, nsx, hnx, hc0'⟩ := id pr.dr
    have nf : ∀ {z : Addr} {o : HO}, H6 z = some o → gl ≠ z := fun {z o} e q => by rw [q, e] at hgl; cases hgl
    have wd0 : Wd C N d c ml gl vl wl [a0, a1, a2, a3] [] [] [.ref A0.p, .ref B0.p] [.ref A0.q, .ref B0.q] 0 A0 B0 (upd H6 gl (.lst [])) := by
      have sg := same_new (o := .lst []) hgl
      have pg := pr.same sg
      exact ⟨pg.dr, pg.m, pg.im, upd_same, .nil, (fun e he => nomatch he), Nat.le_refl 0, pg.v, pg.w, (pg.pl A0 (by simp)).1, (pg.pl B0 (by simp)).1,
        ⟨(nf hc0').symm, qa1.symm, qb1.symm, nf hA.a, nf hB.a, w1, qa5, (nf hA.b).symm, qa8, w2, qb5, (nf hB.b).symm, w3, qb8, pr.n2, (nf pr.v).symm, qa2.symm, qb2.symm, pr.n3, (nf pr.w).symm, qa3.symm, qb3.symm, pr.n6, (nf pr.m).symm, qa4.symm, qb4.symm, w4, w5, qa9, qb9⟩⟩
    generalize upd H6 gl (.lst []) = H7 at *
    refine ⟨_, rfl, d, c, 16, rfl, wd0.dr, by decide, by decide, fun H8 tn D8 b8 tn0 tn1 => ⟨_, _, rfl, rfl, _, rfl, by omega, by omega, ?_⟩⟩
    have wd1 := wd0.draw D8 b8
    refine for_it (walk_range (lo := 0) (n := (1 + tn).toNat)) (fun i σ H' => ∃ v9 v10 v11 v12 v13 v14 v16 gs gd A B, σ = [some (.ref a), some (.ref d), some (.ref ml), some (.ref vl), some (.ref wl), v5, v6, v7, some (.ref gl), v9, v10, v11, v12, v13, v14, none, v16, none] ∧ Wd C N d c ml gl vl wl [a0, a1, a2, a3] gs gd [.ref A0.p, .ref B0.p] [.ref A0.q, .ref B0.q] i A B H' ∧ A.p = A0.p ∧ A.q = A0.q ∧ B.p = B0.p ∧ B.q = B0.q) ⟨none, none, none, none, none, none, none, [], [], A0, B0, rfl, wd1, rfl, rfl, rfl, rfl⟩ (fun _ _ _ _ _ => trivial) ?_ ?_
    · rintro i y σ H9 Ha hi ⟨v9, v10, v11, v12, v13, v14, v16, gs, gd, A, B, rfl, wd, hAp, hAq, hBp, hBq⟩ ⟨rfl, rfl⟩
      have hi20 : i ≤ 20 := by omega
      refine ⟨_, rfl, d, c, 2, rfl, wd.dr, by decide, by decide, fun Hb r Db bb g0 g1 => ?_⟩
      have wd := wd.draw Db bb
      obtain ⟨P, R, wd, hvk, hwk, back⟩ : ∃ P R, Wd C N d c ml gl vl wl [a0, a1, a2, a3] gs gd [.ref A0.p, .ref B0.p] [.ref A0.q, .ref B0.q] i P R Hb ∧ atI [V.ref A0.p, .ref B0.p] r = some (.ref P.p) ∧ atI [V.ref A0.q, .ref B0.q] r = some (.ref P.q) ∧
          ∀ gs' gd' n' H' P', P'.p = P.p → P'.q = P.q → Wd C N d c ml gl vl wl [a0, a1, a2, a3] gs' gd' [.ref A0.p, .ref B0.p] [.ref A0.q, .ref B0.q] n' P' R H' → ∃ A' B', Wd C N d c ml gl vl wl [a0, a1, a2, a3] gs' gd' [.ref A0.p, .ref B0.p] [.ref A0.q, .ref B0.q] n' A' B' H' ∧ A'.p = A0.p ∧ A'.q = A0.q ∧ B'.p = B0.p ∧ B'.q = B0.q := by
        have : r = 0 ∨ r = 1 := by omega
        rcases this with rfl | rfl
        · exact ⟨A, B, wd, by rw [hAp]; exact atI_nat (j := 0) rfl, by rw [hAq]; exact atI_nat (j := 0) rfl, fun gs' gd' n' H' P' e1 e2 w => ⟨P', B, w, by rw [e1, hAp], by rw [e2, hAq], hBp, hBq⟩⟩
        · exact ⟨B, A, wd.symm, by rw [hBp]; exact atI_nat (j := 1) rfl, by rw [hBq]; exact atI_nat (j := 1) rfl, fun gs' gd' n' H' P' e1 e2 w => ⟨A, P', w.symm, hAp, hAq, by rw [e1, hBp], by rw [e2, hBq]⟩⟩
      refine ⟨_, rfl, _, rfl, wl, _, r, _, rfl, rfl, SqL.of wd.w, hwk, ?_⟩
      refine ⟨fun σ' H' => ∃ v12 v13 v14 gs gd A B, σ' = [some (.ref a), some (.ref d), some (.ref ml), some (.ref vl), some (.ref wl), v5, v6, v7, some (.ref gl), some (.int (0 + (i : Int))), some (.int r), some (.ref P.q), v12, v13, v14, none, v16, none] ∧ Wd C N d c ml gl vl wl [a0, a1, a2, a3] gs gd [.ref A0.p, .ref B0.p] [.ref A0.q, .ref B0.q] (i + 1) A B H' ∧ A.p = A0.p ∧ A.q = A0.q ∧ B.p = B0.p ∧ B.q = B0.q, ?_, ?_⟩
      · refine ⟨_, rfl, d, c, 3, rfl, wd.dr, by decide, by decide, fun Hc' r3 Dc bc k0 k1 => ⟨rfl, _, rfl, ?_⟩⟩
        have wd := wd.draw Dc bc
        have hPtx : txtOk P.nm = true := by rcases wd.a.nmk with h | h <;> rw [h] <;> decide +kernel
        have hPnl : P.nm.length ≤ sizeLine := by rcases wd.a.nmk with h | h <;> rw [h] <;> decide +kernel
        have hPg := wd.a.g1
        have hPl := wd.a.dl
        have hxl := wd.a.i.len
        have hx2l := wd.a.j.len
        have hwrd := chs_wrd wd.a.ch
        have hdep := chs_dep wd.a.ch
        have hszl := chs_sz wd.a.ch
        obtain ⟨dx, hvf⟩ := id wd.a.v
        have cut : ∀ {A B : Prop}, (r3 = 0 → A) → (r3 ≠ 0 → B) → if decide (V.int r3 = V.int 0) = true then A else B := fun {A B} h1 h2 => by
          by_cases z : r3 = 0
          · exact ifT (by rw [z]) (h1 z)
          · exact ifF (fun q => z (V.int.inj q)) (h2 z)
        refine cut (fun _ => ?_) (fun _ => ?_)
        · -- a challenge
          have hcd : ChD (.atom "challenge" [.str P.nm, .int P.g]) := ⟨P.nm, P.g, rfl, by rcases wd.a.nmk with h | h <;> simp [h], wd.a.g0, by omega⟩
          obtain ⟨c1, c2, c3⟩ := ch_ok (nm := P.nm) (g := P.g) hPtx wd.a.g0 (by omega) hPnl
          refine ⟨_, rfl, P.q, _, rfl, mg_nm wd.a.m, _, rfl, P.q, _, rfl, mg_g wd.a.m, (by show 2 ≤ sizeLine; decide), fun t ht0 => ?_⟩
          have w1 := wd.same (same_new (o := .tup [.str P.nm, .int P.g]) ht0)
          have i1 : Is C (upd Hc' t (.tup [.str P.nm, .int P.g])) (.ref t) (.tup [.str P.nm, .int P.g]) := .tup upd_same (.cons (.str _) (.cons (.int _) .nil))
          generalize upd Hc' t (.tup [.str P.nm, .int P.g]) = Hd at *
          intro oo do_ ho hdo hne
          refine ⟨oo, do_, "challenge", t, _, rfl, upd_same, at_pre i1 ho hdo, c1, c2, c3, fun He hat oth => ⟨rfl, ?_⟩⟩
          obtain ⟨sde, iat⟩ := at_post i1 ho hdo hat oth
          have we := w1.same sde
          obtain ⟨dx, hvf⟩ := id we.a.v
          refine ⟨_, rfl, _, rfl, vl, _, r, _, rfl, rfl, SqL.of we.v, hvk, P.p, dx, _, rfl, hvf, rfl, P.p, P.nm, P.mo, P.me, P.g, P.l, P.xs, rfl, ⟨dx, hvf⟩, we.a.a, by omega, hPtx, hPnl, wd.a.g0, by omega, fun Hf x hx0 ix vf' hl' bu => ?_⟩
          obtain ⟨wch, _, _, szc, _, _, _, dch⟩ := hcd.ok
          have kF : Keep C He Hf := ⟨fun b us e => bu b _ e (fun z => by rw [z, hvf] at e; cases e) (fun z => by rw [z, we.a.a] at e; cases e), fun b dz fs e => bu b _ e (fun z => by rw [z, hvf] at e; exact hNC (by cases e; rfl)) (fun z => by rw [z, we.a.a] at e; cases e)⟩
          have iof := Is.keep kF (wrd_cln wch) iat
          refine ⟨_, rfl, _, _, ⟨ix, iof, wch, wch, by omega, by omega⟩, by omega, fun Hg sg => ⟨_, rfl, bF (by rw [eqD_refl wch]; rfl) ?_⟩⟩
          have hq0 : Hg P.q = some (.dK (kM P.mo P.me P.ol P.nm P.g)) := sg _ _ (bu _ _ we.a.m (kindD we.a.m hvf (fun _ z => nomatch z)) (kindD we.a.m we.a.a (fun _ z => nomatch z)))
          have hol0 : Hg P.ol = some (.lst P.xs2) := sg _ _ (bu _ _ we.a.b (kindL we.a.b hvf (fun _ z => nomatch z)) we.s.oAA)
          have hgl0 : Hg gl = some (.lst gs) := sg _ _ (bu _ _ we.g (kindL we.g hvf (fun _ z => nomatch z)) we.s.gA)
          obtain ⟨dx2, hvf2⟩ := vf'
          have hv0 := sg _ _ hvf2
          have hl0 := sg _ _ hl'
          have nqv : P.q ≠ P.p := kindD we.a.m hvf (fun _ z => nomatch z)
          have nql : P.q ≠ P.l := kindD we.a.m we.a.a (fun _ z => nomatch z)
          have nqo : P.q ≠ P.ol := kindD we.a.m we.a.b (fun _ z => nomatch z)
          have nqg : P.q ≠ gl := kindD we.a.m we.g (fun _ z => nomatch z)
          have ngp : gl ≠ P.p := kindL we.g hvf (fun _ z => nomatch z)
          refine ⟨_, rfl, P.q, _, rfl, mg_g hq0, _, _, rfl, rfl, _, rfl, P.q, _, rfl, mp_g hq0, ?_⟩
          refine ⟨_, rfl, P.q, _, rfl, mg_ol upd_same, _, rfl, (by show 1 ≤ sizeLine; decide), fun L1 hL1 => ?_⟩
          have e1 : ∀ b o, Hg b = some o → b ≠ P.q → upd (upd Hg P.q (.dK (kM P.mo P.me P.ol P.nm (P.g + 1)))) L1 (.lst [.ref oo]) b = some o := fun b o e n => same_new hL1 _ _ (by rw [upd_ne n]; exact e)
          have e2 : upd (upd Hg P.q (.dK (kM P.mo P.me P.ol P.nm (P.g + 1)))) L1 (.lst [.ref oo]) P.q = some (.dK (kM P.mo P.me P.ol P.nm (P.g + 1))) := same_new hL1 _ _ upd_same
          have e3 : upd (upd Hg P.q (.dK (kM P.mo P.me P.ol P.nm (P.g + 1)))) L1 (.lst [.ref oo]) L1 = some (.lst [.ref oo]) := upd_same
          generalize upd (upd Hg P.q (.dK (kM P.mo P.me P.ol P.nm (P.g + 1)))) L1 (.lst [.ref oo]) = Hh at *
          refine ⟨P.ol, L1, P.xs2, _, rfl, rfl, e1 _ _ hol0 nqo.symm, e3, Nat.le_of_lt (small1000 (by simp; omega)), fun r1 hr1 => ⟨_, rfl, P.q, _, rfl, mp_ol (same_new hr1 _ _ e2), ?_⟩⟩
          have nr : ∀ b o, Hg b = some o → b ≠ P.q → b ≠ r1 := fun b o e n => ne_of_none (e1 _ _ e n) hr1
          have nrq : P.q ≠ r1 := ne_of_none e2 hr1
          have f1 : ∀ b o, Hg b = some o → b ≠ P.q → upd (upd Hh r1 (.lst (P.xs2 ++ [.ref oo]))) P.q (.dK (kM P.mo P.me r1 P.nm (P.g + 1))) b = some o := fun b o e n => by rw [upd_ne n, upd_ne (nr _ _ e n)]; exact e1 _ _ e n
          have f2 : upd (upd Hh r1 (.lst (P.xs2 ++ [.ref oo]))) P.q (.dK (kM P.mo P.me r1 P.nm (P.g + 1))) r1 = some (.lst (P.xs2 ++ [.ref oo])) := by rw [upd_ne nrq.symm]; exact upd_same
          have f3 : upd (upd Hh r1 (.lst (P.xs2 ++ [.ref oo]))) P.q (.dK (kM P.mo P.me r1 P.nm (P.g + 1))) P.q = some (.dK (kM P.mo P.me r1 P.nm (P.g + 1))) := upd_same
          generalize upd (upd Hh r1 (.lst (P.xs2 ++ [.ref oo]))) P.q (.dK (kM P.mo P.me r1 P.nm (P.g + 1))) = Hi at *
          have hgl := wd.ig.len
          have hgn := wd.gn
          refine ⟨_, rfl, .inl ⟨rfl, _, SqL.of (f1 _ _ hgl0 nqg.symm)⟩, _, rfl, gl, gs, .ref oo, rfl, rfl, f1 _ _ hgl0 nqg.symm, small1000 (by omega), ?_⟩
          have ngr : gl ≠ r1 := nr _ _ hgl0 nqg.symm
          have kG : Keep C Hg (upd Hi gl (.lst (gs ++ [.ref oo]))) := ⟨fun b us e => by rw [upd_ne (fun z => by rw [z, hgl0] at e; cases e)]; exact f1 _ _ e (fun z => by rw [z, hq0] at e; cases e), fun b dz fs e => by rw [upd_ne (fun z => by rw [z, hgl0] at e; cases e)]; exact f1 _ _ e (fun z => by rw [z, hq0] at e; cases e)⟩
          have hr0 : He r1 = none := by
            cases e : He r1 with
            | none => rfl
            | some u =>
              exfalso
              by_cases z1 : r1 = P.p
              · exact nr _ _ hv0 nqv.symm z1.symm
              by_cases z2 : r1 = P.l
              · exact nr _ _ hl0 nql.symm z2.symm
              exact nr _ _ (sg _ _ (bu _ _ e z1 z2)) (fun z => nrq z.symm) rfl
          obtain ⟨A', q1, q2, wn⟩ := we.chal (H' := upd Hi gl (.lst (gs ++ [.ref oo]))) (x := x) (y := oo) (ol' := r1) hNC hcd hr0 (fun b o e n1 n2 n3 n4 => by rw [upd_ne n4]; exact f1 _ _ (sg _ _ (bu _ _ e n1 n2)) n3) ⟨dx2, by rw [upd_ne ngp.symm]; exact f1 _ _ hv0 nqv.symm⟩ (by rw [upd_ne we.s.gA.symm]; exact f1 _ _ hl0 nql.symm) (by rw [upd_ne nqg]; exact f3) (by rw [upd_ne ngr.symm]; exact f2) upd_same (Is.keep kG (wrd_cln wch) (ix.same sg)) (Is.keep kG (wrd_cln wch) (iof.same sg))
          obtain ⟨A2, B2, w2, p1, p2, p3, p4⟩ := back _ _ _ _ A' q1 q2 wn
          exact ⟨_, _, _, _, _, A2, B2, rfl, w2, p1, p2, p3, p4⟩
        · -- a word
          refine ⟨_, rfl, _, rfl, _, rfl, d, c, gl, gs, gd, ml, _, rfl, wd.dr, wd.g, wd.ig, wd.gk, (by have := wd.ig.len; have := wd.gn; omega), wd.s.cg.symm, wd.m, wd.im, wd.s.mc, fun Hd x e Dd bd ix hok => ?_⟩
          have we := wd.draw Dd bd
          refine ⟨_, rfl, _, rfl, P.q, x, P.mo, P.me, P.ol, P.nm, P.g, P.xs2, P.ds, e, P.ms, P.ys, P.Ms, rfl, we.a.m, we.a.b, we.a.j, (fun e he => (we.a.ch e he).ok.2.2.2.2.2.1), ix, hwrd, hdep, by omega, hok.1, we.a.mo, we.a.me, we.a.im, we.a.pl, we.a.dp, fun He s1 => ?_⟩
          have w1 := we.same s1
          have ix1 := ix.same s1
          obtain ⟨dx, hvf⟩ := id w1.a.v
          have wtk : ∀ es, e = .atom "token" es → wrd (.tup es) = true ∧ sz (.tup es) ≤ 1000000 ∧ dep (.tup es) ≤ 30 := fun es z => by
            obtain ⟨u1, u2, u3, u4⟩ := hok.2 _ z
            exact ⟨by simp only [wrd]; exact u1, by simp only [sz]; omega, by simp only [dep]; omega⟩
          refine ⟨_, rfl, _, rfl, vl, _, r, _, rfl, rfl, SqL.of w1.v, hvk, P.p, dx, _, rfl, hvf, rfl, _, rfl, P.p, P.nm, P.mo, P.me, P.g, P.l, x, P.xs, P.ds, e, P.ms, P.ys, P.Ms, rfl, ⟨dx, hvf⟩, w1.a.a, w1.a.i, ix1, hwrd, hdep, by omega, by omega, hok.1, w1.a.mo, w1.a.me, w1.a.im, w1.a.pl, w1.a.dp, fun hF Hf sf => ?_, fun m md ch hd hT Hf l' zs hl' vf' hlz iz fr => ?_⟩
          · refine ⟨_, rfl, _, .bl _, _, _, _, rfl, .bl _, .ty _, kitBo T _, _, rfl, bF rfl ⟨_, rfl, _, rfl, rfl, _, rfl, bF (by rw [hF]; rfl) ?_⟩⟩
            refine ⟨_, rfl, x, e, rfl, ix1.same sf, fun hno => ⟨_, rfl, x, e, rfl, ix1.same sf, fun _ => ⟨.non, .non, ⟨.non, .non, rfl, rfl, by decide, by decide⟩, by decide, fun Hg sg => ⟨_, rfl, bF rfl ?_⟩⟩, fun es t z _ => ?_⟩, fun es t z it => ⟨_, rfl, x, e, rfl, ix1.same sf, fun hno => ?_, fun es2 t2 z2 it2 => ?_⟩⟩
            · skip
              have wf := (w1.same sf).same sg
              refine ⟨_, rfl, _, rfl, bF hF ?_⟩
              refine ⟨_, rfl, _, rfl, bF hF ?_⟩
              obtain ⟨A2, B2, w2, p1, p2, p3, p4⟩ := back _ _ _ _ P rfl rfl (wf.up (m := i + 1) (by omega))
              exact ⟨_, _, _, _, _, A2, B2, rfl, w2, p1, p2, p3, p4⟩
            · rw [z] at hno; simp [tokD] at hno
            · rw [z] at hno; simp [tokD] at hno
            · rw [z] at z2
              cases z2
              obtain ⟨v1, v2, v3⟩ := wtk _ z
              refine ⟨.tup es, .tup es, ⟨it, it2, v1, v1, v2, v2⟩, v3, fun Hg sg => ⟨_, rfl, bF (by rw [eqD_refl v1]; rfl) ?_⟩⟩
              have wf := (w1.same sf).same sg
              refine ⟨_, rfl, _, rfl, bF hF ?_⟩
              refine ⟨_, rfl, _, rfl, bF hF ?_⟩
              obtain ⟨A2, B2, w2, p1, p2, p3, p4⟩ := back _ _ _ _ P rfl rfl (wf.up (m := i + 1) (by omega))
              exact ⟨_, _, _, _, _, A2, B2, rfl, w2, p1, p2, p3, p4⟩
          · subst hd
            refine ⟨_, rfl, _, .bl _, _, _, _, rfl, .bl _, .ty _, kitBo T _, _, rfl, bF rfl ⟨_, rfl, _, rfl, rfl, _, rfl, bF (by rw [hT]; rfl) ?_⟩⟩
            have kF : Keep C He Hf := ⟨fun b us e => fr b _ e (fun z => by rw [z, hvf] at e; cases e), fun b dz fs e => fr b _ e (fun z => by rw [z, hvf] at e; exact hNC (by cases e; rfl))⟩
            have cle : cln (.atom "token" [.str m, md, ch]) = true := by
              obtain ⟨u1, _⟩ := hok.2 _ rfl
              simp only [cln]; exact wrdL_cln u1
            have ixf := Is.keep kF cle ix1
            refine ⟨_, rfl, x, _, rfl, ixf, fun hno => absurd hno (by simp [tokD]), fun es t z it => ⟨_, rfl, x, _, rfl, ixf, fun hno => absurd hno (by simp [tokD]), fun es2 t2 z2 it2 => ?_⟩⟩
            cases z
            cases z2
            obtain ⟨v1, v2, v3⟩ := wtk _ rfl
            refine ⟨.tup [.str m, md, ch], .tup [.str m, md, ch], ⟨it, it2, v1, v1, v2, v2⟩, v3, fun Hg sg => ⟨_, rfl, bF (by rw [eqD_refl v1]; rfl) ?_⟩⟩
            have ixg := ixf.same sg
            obtain ⟨m', md', ch', z0, z1, z2, z3, wch, zch⟩ := hok.1 rfl
            cases z0
            cases ixg with
            | @atom aw dw tw _ ts _ hw1 hw2 hw3 =>
            cases hw3 with
            | @cons x0 _ _ _ j0 hw3 => cases hw3 with
            | @cons x1 _ _ _ j1 hw3 => cases hw3 with
            | @cons x2 _ _ _ j2 hw3 =>
            cases j0
            cases hw3
            have hq0 : Hg P.q = some (.dK (kM P.mo P.me P.ol P.nm P.g)) := sg _ _ (fr _ _ w1.a.m (kindD w1.a.m hvf (fun _ z => nomatch z)))
            have hol0 : Hg P.ol = some (.lst P.xs2) := sg _ _ (fr _ _ w1.a.b (kindL w1.a.b hvf (fun _ z => nomatch z)))
            have ij0 : IsA C Hg P.xs2 P.ds := (IsA.keep kF (chs_cln w1.a.ch) w1.a.j).same sg
            refine ⟨_, rfl, _, rfl, bT hT ?_⟩
            refine ⟨_, rfl, P.q, _, rfl, mg_ol hq0, P.ol, rfl, ⟨P.xs2, SqL.of hol0⟩, fun Dl hDl => ?_⟩
            refine lc_it (walk_list (K := K) (a := P.ol) (xs := P.xs2)) (fun j H' => Same Hg H' ∧ ∃ zs2, H' Dl = some (.lst zs2) ∧ zs2.length ≤ j ∧ IsA C H' zs2 ((P.ds.take j).filter fun e => !eqD e ch)) ⟨same_new hDl, [], upd_same, Nat.zero_le _, .nil⟩ (fun i H3 _ h => SqL.of (h.1 _ _ hol0)) ?_ ?_
            · rintro j yj H3 H4 hj ⟨s3, zs2, hz, hzl, iz2⟩ ⟨rfl, hy⟩
              obtain ⟨ej, hej, hyj⟩ := ij0.at hy
              have mej := List.mem_of_getElem? hej
              obtain ⟨wj, _, _, sj, _, _, _, dj⟩ := (w1.a.ch ej mej).ok
              refine ⟨rfl, ?_⟩
              refine ⟨_, rfl, _, rfl, aw, C, dw, _, .ref tw, rfl, s3 _ _ hw1, T.cl.cl, T.cl.nT, rfl, tw, _, 2, x2, rfl, rfl, SqT.of (s3 _ _ hw2), atI_nat (j := 2) rfl, ej, ch, ⟨hyj.same s3, j2.same s3, wj, wch, by omega, zch⟩, by omega, fun H5 s5 => ⟨_, rfl, ?_⟩⟩
              have hz5 := s5 _ _ hz
              have hft : (P.ds.take (j + 1)).filter (fun e => !eqD e ch) = (P.ds.take j).filter (fun e => !eqD e ch) ++ [ej].filter (fun e => !eqD e ch) := by
                rw [List.take_add_one, hej, List.filter_append]; rfl
              cases hfd : eqD ej ch with
              | true =>
                refine iteF ⟨s3.trans s5, zs2, hz5, by omega, ?_⟩
                rw [hft]
                simpa [hfd] using iz2.same s5
              | false =>
                have hx2l' := w1.a.j.len
                refine iteT ⟨_, rfl, zs2, hz5, small1000 (by omega), same_put (s3.trans s5) hDl, zs2 ++ [yj], upd_same, by simp; omega, ?_⟩
                rw [hft]
                have kq : Keep C H5 (upd H5 Dl (.lst (zs2 ++ [yj]))) := Keep.lst hz5
                have cl1 : clnL ((P.ds.take j).filter fun e => !eqD e ch) = true := chs_cln fun z hz' => w1.a.ch z (List.mem_of_mem_take (List.mem_filter.mp hz').1)
                have h1 := (IsA.keep kq cl1 (iz2.same s5)).app (.cons (Is.keep kq (wrd_cln wj) ((hyj.same s3).same s5)) .nil)
                simpa [hfd] using h1
            · rintro H3 ⟨s3, zs2, hz, hzl, iz2⟩
              rw [List.take_of_length_le (by have := w1.a.j.len; omega)] at iz2
              refine ⟨_, rfl, P.q, _, rfl, mp_ol (s3 _ _ hq0), ?_⟩
              have nDq : Dl ≠ P.q := (ne_of_none hq0 hDl).symm
              obtain ⟨dx2, hvf2⟩ := vf'
              have nlq : l' ≠ P.q := kindL (sg _ _ hlz) hq0 (fun _ z => nomatch z)
              have npq : P.p ≠ P.q := kindI (sg _ _ hvf2) hq0 (fun _ _ _ z => nomatch z)
              have kQ : Keep C H3 (upd H3 P.q (.dK (kM P.mo P.me Dl P.nm P.g))) := ⟨fun b us e => by rw [upd_ne (fun z => by rw [z, s3 _ _ hq0] at e; cases e)]; exact e, fun b dz fs e => by rw [upd_ne (fun z => by rw [z, s3 _ _ hq0] at e; cases e)]; exact e⟩
              have chf : ∀ e ∈ P.ds.filter (fun e => !eqD e ch), ChD e := fun e he => w1.a.ch e (List.mem_filter.mp he).1
              have flen : (P.ds.filter fun e => !eqD e ch).length ≤ P.ds.length := List.length_filter_le _ _
              have g1 : upd H3 P.q (.dK (kM P.mo P.me Dl P.nm P.g)) P.p = some (.ins N dx2 (vrF P.nm P.mo P.me P.g l')) := by rw [upd_ne npq]; exact s3 _ _ (sg _ _ hvf2)
              have g2 : upd H3 P.q (.dK (kM P.mo P.me Dl P.nm P.g)) l' = some (.lst zs) := by rw [upd_ne nlq]; exact s3 _ _ (sg _ _ hlz)
              have g3 := IsA.keep kQ (chs_cln chf) ((iz.same sg).same s3)
              have g4 := IsA.keep kQ (chs_cln chf) iz2
              have hDe : He Dl = none := by
                cases e : He Dl with
                | none => rfl
                | some u =>
                  by_cases z : Dl = P.p
                  · rw [z, sg _ _ hvf2] at hDl; cases hDl
                  · rw [sg _ _ (fr _ _ e z)] at hDl; cases hDl
              have hle : He l' = none := hl'
              obtain ⟨A', q1, q2, wn⟩ := w1.took (H' := upd H3 P.q (.dK (kM P.mo P.me Dl P.nm P.g))) (l' := l') (ol' := Dl) (zs := zs) (zs2 := zs2) hNC (fun e he => (List.mem_filter.mp he).1) flen hle hDe (ne_of_none (sg _ _ hlz) hDl).symm (fun b o e n1 n2 => by rw [upd_ne n2]; exact s3 _ _ (sg _ _ (fr _ _ e n1))) ⟨dx2, g1⟩ g2 upd_same (by rw [upd_ne nDq]; exact hz) g3 g4
              have iw := Is.keep kQ cle ((ixf.same sg).same s3)
              refine ⟨_, rfl, _, rfl, bT hT ?_⟩
              refine ⟨_, rfl, _, rfl, vl, _, r, _, rfl, rfl, SqL.of wn.v, hvk, P.p, dx2, _, rfl, g1, rfl, _, rfl, P.p, P.nm, P.mo, P.me, P.g, l', _, zs, _, _, P.ms, P.ys, P.Ms, rfl, ⟨dx2, g1⟩, g2, g3, iw, chs_wrd chf, chs_dep chf, (by have := chs_sz chf; omega), (by omega), hok.1, kQ.tup _ _ (s3 _ _ (sg _ _ (kF.tup _ _ w1.a.mo))), kQ.tup _ _ (s3 _ _ (sg _ _ (kF.tup _ _ w1.a.me))), IsA.keep kQ w1.a.cl (((IsA.keep kF w1.a.cl w1.a.im).same sg).same s3), w1.a.pl, w1.a.dp, fun _ Hz sz => ⟨_, _, rfl, rfl, _, rfl, bF rfl ?_⟩, fun m2 md2 ch2 hd2 hT2 => ?_⟩
              · obtain ⟨A2, B2, w2, p1, p2, p3, p4⟩ := back _ _ _ _ A' q1 q2 ((wn.same sz).up (m := i + 1) (by omega))
                exact ⟨_, _, _, _, _, A2, B2, rfl, w2, p1, p2, p3, p4⟩
              · rw [takes_no] at hT2; cases hT2
      · rintro σ' Hb' ⟨v12', v13', v14', gs', gd', A', B', rfl, wd', p1, p2, p3, p4⟩
        refine ⟨2, rfl, by decide, by decide, ?_⟩
        refine for_it (walk_range (lo := 0) (n := 2)) (fun j σ H' => ∃ v16', σ = [some (.ref a), some (.ref d), some (.ref ml), some (.ref vl), some (.ref wl), v5, v6, v7, some (.ref gl), some (.int (0 + (i : Int))), some (.int r), some (.ref P.q), v12', v13', v14', none, v16', none] ∧ Same Hb' H') ⟨_, rfl, Same.refl Hb'⟩ (fun _ _ _ _ _ => trivial) ?_ ?_
        · rintro j yj σ Hx Hy hj ⟨v16', rfl, sx⟩ ⟨rfl, rfl⟩
          have wx := wd'.same sx
          have : j = 0 ∨ j = 1 := by omega
          rcases this with rfl | rfl
          · refine ⟨_, rfl, _, rfl, vl, _, _, _, rfl, rfl, SqL.of wx.v, atI_nat (j := 0) rfl, _, rfl, _, rfl, wl, _, _, _, rfl, rfl, SqL.of wx.w, atI_nat (j := 0) rfl, _, rfl, ?_⟩
            rw [← p1, ← p2]
            have hl1 := wx.a.dl
            have hg1 := wx.gn
            have hg2 := wx.ig.len
            exact ⟨A'.p, A'.q, gl, A'.nm, A'.mo, A'.me, A'.g, A'.l, A'.xs, A'.mo, A'.me, A'.nm, A'.g, A'.ol, A'.xs2, A'.ds, gs', gd', rfl, wx.a.v, wx.a.a, wx.a.i, wx.a.m, wx.a.b, wx.a.j, chs_wrd wx.a.ch, chs_dep wx.a.ch, (by have := chs_sz wx.a.ch; omega), (fun e he => (wx.a.ch e he).ok.2.2.2.2.2.1), wx.g, wx.ig, chs_wrd wx.gk, (fun e he => by have := (wx.gk e he).ok.2.2.2.1; omega), by omega, fun H'' s'' => ⟨_, rfl, bF rfl ⟨_, rfl, sx.trans s''⟩⟩⟩
          · refine ⟨_, rfl, _, rfl, vl, _, _, _, rfl, rfl, SqL.of wx.v, atI_nat (j := 1) rfl, _, rfl, _, rfl, wl, _, _, _, rfl, rfl, SqL.of wx.w, atI_nat (j := 1) rfl, _, rfl, ?_⟩
            rw [← p3, ← p4]
            have wy := wx.symm
            have hl1 := wy.a.dl
            have hg1 := wy.gn
            have hg2 := wy.ig.len
            exact ⟨B'.p, B'.q, gl, B'.nm, B'.mo, B'.me, B'.g, B'.l, B'.xs, B'.mo, B'.me, B'.nm, B'.g, B'.ol, B'.xs2, B'.ds, gs', gd', rfl, wy.a.v, wy.a.a, wy.a.i, wy.a.m, wy.a.b, wy.a.j, chs_wrd wy.a.ch, chs_dep wy.a.ch, (by have := chs_sz wy.a.ch; omega), (fun e he => (wy.a.ch e he).ok.2.2.2.2.2.1), wy.g, wy.ig, chs_wrd wy.gk, (fun e he => by have := (wy.gk e he).ok.2.2.2.1; omega), by omega, fun H'' s'' => ⟨_, rfl, bF rfl ⟨_, rfl, sx.trans s''⟩⟩⟩
        · rintro σ Hx ⟨v16', rfl, sx⟩
          exact ⟨_, _, _, _, _, _, _, gs', gd', A', B', rfl, wd'.same sx, p1, p2, p3, p4⟩
    · rintro σ H9 ⟨v9, v10, v11, v12, v13, v14, v16, gs, gd, A, B, rfl, wd, _, _, _, _⟩
      have tot := Same.refl H9
      refine ⟨(by show 0 ≤ sizeLine; decide), fun e1 h_e1 => ?_⟩
      have s_e1 := same_new (o := .tup []) h_e1
      have i_e1 : Is C (upd H9 e1 (.tup [])) (.ref e1) (.tup []) := .tup upd_same .nil
      have tot := tot.trans s_e1
      generalize upd H9 e1 (.tup []) = G1 at *
      refine ⟨(by show 4 ≤ sizeLine; decide), fun b1 h_b1 => ?_⟩
      have s_b1 := same_new (o := .tup [.str "token", .int 5, .ref e1, .int 1]) h_b1
      have i_b1 : Is C (upd G1 b1 (.tup [.str "token", .int 5, .ref e1, .int 1])) (.ref b1) (.tup [.str "token", .int 5, .tup [], .int 1]) := .tup upd_same (.cons (.str _) (.cons (.int _) (.cons (i_e1.same s_b1) (.cons (.int _) .nil))))
      have i_e1 := i_e1.same s_b1
      have tot := tot.trans s_b1
      generalize upd G1 b1 (.tup [.str "token", .int 5, .ref e1, .int 1]) = G2 at *
      refine ⟨(by show 4 ≤ sizeLine; decide), fun b2 h_b2 => ?_⟩
      have s_b2 := same_new (o := .tup [.str "token", .str "m", .int 5, .int 1]) h_b2
      have i_b2 : Is C (upd G2 b2 (.tup [.str "token", .str "m", .int 5, .int 1])) (.ref b2) (.tup [.str "token", .str "m", .int 5, .int 1]) := .tup upd_same (.cons (.str _) (.cons (.str _) (.cons (.int _) (.cons (.int _) .nil))))
      have i_e1 := i_e1.same s_b2
      have i_b1 := i_b1.same s_b2
      have tot := tot.trans s_b2
      generalize upd G2 b2 (.tup [.str "token", .str "m", .int 5, .int 1]) = G3 at *
      refine ⟨(by show 0 ≤ sizeLine; decide), fun e3 h_e3 => ?_⟩
      have s_e3 := same_new (o := .tup []) h_e3
      have i_e3 : Is C (upd G3 e3 (.tup [])) (.ref e3) (.tup []) := .tup upd_same .nil
      have i_e1 := i_e1.same s_e3
      have i_b1 := i_b1.same s_e3
      have i_b2 := i_b2.same s_e3
      have tot := tot.trans s_e3
      generalize upd G3 e3 (.tup []) = G4 at *
      refine ⟨(by show 4 ≤ sizeLine; decide), fun b3 h_b3 => ?_⟩
      have s_b3 := same_new (o := .tup [.str "token", .str "m", .ref e3, .bl true]) h_b3
      have i_b3 : Is C (upd G4 b3 (.tup [.str "token", .str "m", .ref e3, .bl true])) (.ref b3) (.tup [.str "token", .str "m", .tup [], .bl true]) := .tup upd_same (.cons (.str _) (.cons (.str _) (.cons (i_e3.same s_b3) (.cons (.bl _) .nil))))
      have i_e1 := i_e1.same s_b3
      have i_b1 := i_b1.same s_b3
      have i_b2 := i_b2.same s_b3
      have i_e3 := i_e3.same s_b3
      have tot := tot.trans s_b3
      generalize upd G4 b3 (.tup [.str "token", .str "m", .ref e3, .bl true]) = G5 at *
      refine ⟨(by show 0 ≤ sizeLine; decide), fun ql h_ql => ?_⟩
      have s_ql := same_new (o := .lst []) h_ql
      have nqlc := ((wd.same tot).dr.off h_ql)
      have i_ql : Is C (upd G5 ql (.lst [])) (.ref ql) (.lst []) := .lst upd_same .nil
      have e_ql : upd G5 ql (.lst []) ql = some (.lst []) := upd_same
      have i_e1 := i_e1.same s_ql
      have i_b1 := i_b1.same s_ql
      have i_b2 := i_b2.same s_ql
      have i_e3 := i_e3.same s_ql
      have i_b3 := i_b3.same s_ql
      have tot := tot.trans s_ql
      generalize upd G5 ql (.lst []) = Gq at *
      refine ⟨(by show 1 ≤ sizeLine; decide), fun e4 h_e4 => ?_⟩
      have s_e4 := same_new (o := .tup [.ref ql]) h_e4
      have E_e4 : upd Gq e4 (.tup [.ref ql]) e4 = some (.tup [.ref ql]) := upd_same
      have i_e4 : Is C (upd Gq e4 (.tup [.ref ql])) (.ref e4) (.tup [.lst []]) := .tup upd_same (.cons (i_ql.same s_e4) .nil)
      have i_e1 := i_e1.same s_e4
      have i_b1 := i_b1.same s_e4
      have i_b2 := i_b2.same s_e4
      have i_e3 := i_e3.same s_e4
      have i_b3 := i_b3.same s_e4
      have i_ql := i_ql.same s_e4
      have tot := tot.trans s_e4
      have e_ql := s_e4 _ _ e_ql
      generalize upd Gq e4 (.tup [.ref ql]) = G6 at *
      have e_e4 := E_e4
      refine ⟨(by show 4 ≤ sizeLine; decide), fun b4 h_b4 => ?_⟩
      have s_b4 := same_new (o := .tup [.str "token", .str "m", .ref e4, .int 1]) h_b4
      have E_b4 : upd G6 b4 (.tup [.str "token", .str "m", .ref e4, .int 1]) b4 = some (.tup [.str "token", .str "m", .ref e4, .int 1]) := upd_same
      have i_b4 : Is C (upd G6 b4 (.tup [.str "token", .str "m", .ref e4, .int 1])) (.ref b4) (.tup [.str "token", .str "m", .tup [.lst []], .int 1]) := .tup upd_same (.cons (.str _) (.cons (.str _) (.cons (i_e4.same s_b4) (.cons (.int _) .nil))))
      have i_e1 := i_e1.same s_b4
      have i_b1 := i_b1.same s_b4
      have i_b2 := i_b2.same s_b4
      have i_e3 := i_e3.same s_b4
      have i_b3 := i_b3.same s_b4
      have i_ql := i_ql.same s_b4
      have i_e4 := i_e4.same s_b4
      have tot := tot.trans s_b4
      have e_ql := s_b4 _ _ e_ql
      have e_e4 := s_b4 _ _ e_e4
      generalize upd G6 b4 (.tup [.str "token", .str "m", .ref e4, .int 1]) = G7 at *
      have e_b4 := E_b4
      refine ⟨(by show 0 ≤ sizeLine; decide), fun e5 h_e5 => ?_⟩
      have s_e5 := same_new (o := .tup []) h_e5
      have i_e5 : Is C (upd G7 e5 (.tup [])) (.ref e5) (.tup []) := .tup upd_same .nil
      have i_e1 := i_e1.same s_e5
      have i_b1 := i_b1.same s_e5
      have i_b2 := i_b2.same s_e5
      have i_e3 := i_e3.same s_e5
      have i_b3 := i_b3.same s_e5
      have i_ql := i_ql.same s_e5
      have i_e4 := i_e4.same s_e5
      have i_b4 := i_b4.same s_e5
      have tot := tot.trans s_e5
      have e_ql := s_e5 _ _ e_ql
      have e_e4 := s_e5 _ _ e_e4
      have e_b4 := s_e5 _ _ e_b4
      generalize upd G7 e5 (.tup []) = G8 at *
      refine ⟨(by show 4 ≤ sizeLine; decide), fun b5 h_b5 => ?_⟩
      have s_b5 := same_new (o := .tup [.str "token", .non, .ref e5, .int 1]) h_b5
      have i_b5 : Is C (upd G8 b5 (.tup [.str "token", .non, .ref e5, .int 1])) (.ref b5) (.tup [.str "token", .non, .tup [], .int 1]) := .tup upd_same (.cons (.str _) (.cons .non (.cons (i_e5.same s_b5) (.cons (.int _) .nil))))
      have i_e1 := i_e1.same s_b5
      have i_b1 := i_b1.same s_b5
      have i_b2 := i_b2.same s_b5
      have i_e3 := i_e3.same s_b5
      have i_b3 := i_b3.same s_b5
      have i_ql := i_ql.same s_b5
      have i_e4 := i_e4.same s_b5
      have i_b4 := i_b4.same s_b5
      have i_e5 := i_e5.same s_b5
      have tot := tot.trans s_b5
      have e_ql := s_b5 _ _ e_ql
      have e_e4 := s_b5 _ _ e_e4
      have e_b4 := s_b5 _ _ e_b4
      generalize upd G8 b5 (.tup [.str "token", .non, .ref e5, .int 1]) = G9 at *
      refine ⟨(by show 5 ≤ sizeLine; decide), fun la h_la => ?_⟩
      have s_la := same_new (o := .lst [.ref b1, .ref b2, .ref b3, .ref b4, .ref b5]) h_la
      have e_la : upd G9 la (.lst [.ref b1, .ref b2, .ref b3, .ref b4, .ref b5]) la = some (.lst [.ref b1, .ref b2, .ref b3, .ref b4, .ref b5]) := upd_same
      have i_e1 := i_e1.same s_la
      have i_b1 := i_b1.same s_la
      have i_b2 := i_b2.same s_la
      have i_e3 := i_e3.same s_la
      have i_b3 := i_b3.same s_la
      have i_ql := i_ql.same s_la
      have i_e4 := i_e4.same s_la
      have i_b4 := i_b4.same s_la
      have i_e5 := i_e5.same s_la
      have i_b5 := i_b5.same s_la
      have e_ql := s_la _ _ e_ql
      have e_e4 := s_la _ _ e_e4
      have e_b4 := s_la _ _ e_b4
      have tot := tot.trans s_la
      generalize upd G9 la (.lst [.ref b1, .ref b2, .ref b3, .ref b4, .ref b5]) = K_la at *
      refine ⟨_, rfl, (by show 2 ≤ sizeLine; decide), fun b6 h_b6 => ?_⟩
      have s_b6 := same_new (o := .tup [.str "verifier", .int 5]) h_b6
      have i_b6 : Is C (upd K_la b6 (.tup [.str "verifier", .int 5])) (.ref b6) (.tup [.str "verifier", .int 5]) := .tup upd_same (.cons (.str _) (.cons (.int _) .nil))
      have i_e1 := i_e1.same s_b6
      have i_b1 := i_b1.same s_b6
      have i_b2 := i_b2.same s_b6
      have i_e3 := i_e3.same s_b6
      have i_b3 := i_b3.same s_b6
      have i_ql := i_ql.same s_b6
      have i_e4 := i_e4.same s_b6
      have i_b4 := i_b4.same s_b6
      have i_e5 := i_e5.same s_b6
      have i_b5 := i_b5.same s_b6
      have tot := tot.trans s_b6
      have e_ql := s_b6 _ _ e_ql
      have e_e4 := s_b6 _ _ e_e4
      have e_b4 := s_b6 _ _ e_b4
      have e_la := s_b6 _ _ e_la
      generalize upd K_la b6 (.tup [.str "verifier", .int 5]) = G10 at *
      refine ⟨(by show 2 ≤ sizeLine; decide), fun b7 h_b7 => ?_⟩
      have s_b7 := same_new (o := .tup [.str "verifier", .non]) h_b7
      have i_b7 : Is C (upd G10 b7 (.tup [.str "verifier", .non])) (.ref b7) (.tup [.str "verifier", .non]) := .tup upd_same (.cons (.str _) (.cons .non .nil))
      have i_e1 := i_e1.same s_b7
      have i_b1 := i_b1.same s_b7
      have i_b2 := i_b2.same s_b7
      have i_e3 := i_e3.same s_b7
      have i_b3 := i_b3.same s_b7
      have i_ql := i_ql.same s_b7
      have i_e4 := i_e4.same s_b7
      have i_b4 := i_b4.same s_b7
      have i_e5 := i_e5.same s_b7
      have i_b5 := i_b5.same s_b7
      have i_b6 := i_b6.same s_b7
      have tot := tot.trans s_b7
      have e_ql := s_b7 _ _ e_ql
      have e_e4 := s_b7 _ _ e_e4
      have e_b4 := s_b7 _ _ e_b4
      have e_la := s_b7 _ _ e_la
      generalize upd G10 b7 (.tup [.str "verifier", .non]) = G11 at *
      refine ⟨(by show 1 ≤ sizeLine; decide), fun e8 h_e8 => ?_⟩
      have s_e8 := same_new (o := .tup [.str "v"]) h_e8
      have i_e8 : Is C (upd G11 e8 (.tup [.str "v"])) (.ref e8) (.tup [.str "v"]) := .tup upd_same (.cons (.str _) .nil)
      have i_e1 := i_e1.same s_e8
      have i_b1 := i_b1.same s_e8
      have i_b2 := i_b2.same s_e8
      have i_e3 := i_e3.same s_e8
      have i_b3 := i_b3.same s_e8
      have i_ql := i_ql.same s_e8
      have i_e4 := i_e4.same s_e8
      have i_b4 := i_b4.same s_e8
      have i_e5 := i_e5.same s_e8
      have i_b5 := i_b5.same s_e8
      have i_b6 := i_b6.same s_e8
      have i_b7 := i_b7.same s_e8
      have tot := tot.trans s_e8
      have e_ql := s_e8 _ _ e_ql
      have e_e4 := s_e8 _ _ e_e4
      have e_b4 := s_e8 _ _ e_b4
      have e_la := s_e8 _ _ e_la
      generalize upd G11 e8 (.tup [.str "v"]) = G12 at *
      refine ⟨(by show 2 ≤ sizeLine; decide), fun b8 h_b8 => ?_⟩
      have s_b8 := same_new (o := .tup [.str "verifier", .ref e8]) h_b8
      have i_b8 : Is C (upd G12 b8 (.tup [.str "verifier", .ref e8])) (.ref b8) (.tup [.str "verifier", .tup [.str "v"]]) := .tup upd_same (.cons (.str _) (.cons (i_e8.same s_b8) .nil))
      have i_e1 := i_e1.same s_b8
      have i_b1 := i_b1.same s_b8
      have i_b2 := i_b2.same s_b8
      have i_e3 := i_e3.same s_b8
      have i_b3 := i_b3.same s_b8
      have i_ql := i_ql.same s_b8
      have i_e4 := i_e4.same s_b8
      have i_b4 := i_b4.same s_b8
      have i_e5 := i_e5.same s_b8
      have i_b5 := i_b5.same s_b8
      have i_b6 := i_b6.same s_b8
      have i_b7 := i_b7.same s_b8
      have i_e8 := i_e8.same s_b8
      have tot := tot.trans s_b8
      have e_ql := s_b8 _ _ e_ql
      have e_e4 := s_b8 _ _ e_e4
      have e_b4 := s_b8 _ _ e_b4
      have e_la := s_b8 _ _ e_la
      generalize upd G12 b8 (.tup [.str "verifier", .ref e8]) = G13 at *
      refine ⟨(by show 3 ≤ sizeLine; decide), fun lb h_lb => ?_⟩
      have s_lb := same_new (o := .lst [.ref b6, .ref b7, .ref b8]) h_lb
      have e_lb : upd G13 lb (.lst [.ref b6, .ref b7, .ref b8]) lb = some (.lst [.ref b6, .ref b7, .ref b8]) := upd_same
      have i_e1 := i_e1.same s_lb
      have i_b1 := i_b1.same s_lb
      have i_b2 := i_b2.same s_lb
      have i_e3 := i_e3.same s_lb
      have i_b3 := i_b3.same s_lb
      have i_ql := i_ql.same s_lb
      have i_e4 := i_e4.same s_lb
      have i_b4 := i_b4.same s_lb
      have i_e5 := i_e5.same s_lb
      have i_b5 := i_b5.same s_lb
      have i_b6 := i_b6.same s_lb
      have i_b7 := i_b7.same s_lb
      have i_e8 := i_e8.same s_lb
      have i_b8 := i_b8.same s_lb
      have e_ql := s_lb _ _ e_ql
      have e_e4 := s_lb _ _ e_e4
      have e_b4 := s_lb _ _ e_b4
      have e_la := s_lb _ _ e_la
      have tot := tot.trans s_lb
      generalize upd G13 lb (.lst [.ref b6, .ref b7, .ref b8]) = K_lb at *
      refine ⟨la, lb, _, _, rfl, rfl, e_la, e_lb, (by show 8 ≤ sizeLine; decide), fun lc h_lc => ?_⟩
      have s_lc := same_new (o := .lst ([.ref b1, .ref b2, .ref b3, .ref b4, .ref b5] ++ [.ref b6, .ref b7, .ref b8])) h_lc
      have e_lc : upd K_lb lc (.lst ([.ref b1, .ref b2, .ref b3, .ref b4, .ref b5] ++ [.ref b6, .ref b7, .ref b8])) lc = some (.lst ([.ref b1, .ref b2, .ref b3, .ref b4, .ref b5] ++ [.ref b6, .ref b7, .ref b8])) := upd_same
      have nlcc := ((wd.same tot).dr.off h_lc).2
      have i_e1 := i_e1.same s_lc
      have i_b1 := i_b1.same s_lc
      have i_b2 := i_b2.same s_lc
      have i_e3 := i_e3.same s_lc
      have i_b3 := i_b3.same s_lc
      have i_ql := i_ql.same s_lc
      have i_e4 := i_e4.same s_lc
      have i_b4 := i_b4.same s_lc
      have i_e5 := i_e5.same s_lc
      have i_b5 := i_b5.same s_lc
      have i_b6 := i_b6.same s_lc
      have i_b7 := i_b7.same s_lc
      have i_e8 := i_e8.same s_lc
      have i_b8 := i_b8.same s_lc
      have e_ql := s_lc _ _ e_ql
      have e_e4 := s_lc _ _ e_e4
      have e_b4 := s_lc _ _ e_b4
      have e_la := s_lc _ _ e_la
      have e_lb := s_lc _ _ e_lb
      have tot := tot.trans s_lc
      generalize upd K_lb lc (.lst ([.ref b1, .ref b2, .ref b3, .ref b4, .ref b5] ++ [.ref b6, .ref b7, .ref b8])) = Z0 at *
      have wz := wd.same tot
      obtain ⟨⟨rz, mz, hdz⟩, nsz, _, hcz⟩ := id wz.dr
      refine ⟨_, rfl, _, rfl, d, c, lc, _, rfl, wz.dr, e_lc, nlcc, by show 0 < 8; decide, by show 8 < 1000000; decide, fun Z1 iz x Dz bz hx => ?_⟩
      have kz : Keep C Z0 Z1 := wz.dr.keep bz
      have tupz : ∀ b us, Z0 b = some (.tup us) → Z1 b = some (.tup us) := kz.tup
      have hx2 : ∃ t cs, x = .ref t ∧ Is C Z1 (.ref t) (.tup cs) ∧ badC cs := by
        have hm := List.mem_of_getElem? hx
        simp only [List.cons_append, List.nil_append, List.mem_cons, List.not_mem_nil, or_false] at hm
        have tx : ("m" : Str).length ≤ sizeLine := by decide +kernel
        rcases hm with rfl | rfl | rfl | rfl | rfl | rfl | rfl | rfl
        · exact ⟨_, _, rfl, Is.keep kz (by decide +kernel) i_b1, .inl ⟨_, _, _, rfl, by decide +kernel, ⟨by decide, by simp [txl, txlL]⟩⟩⟩
        · exact ⟨_, _, rfl, Is.keep kz (by decide +kernel) i_b2, .inl ⟨_, _, _, rfl, by decide +kernel, ⟨by decide, by simp [txl, txlL, tx]⟩⟩⟩
        · exact ⟨_, _, rfl, Is.keep kz (by decide +kernel) i_b3, .inl ⟨_, _, _, rfl, by decide +kernel, ⟨by decide, by simp [txl, txlL, tx]⟩⟩⟩
        · exact ⟨_, _, rfl, .tup (tupz _ _ e_b4) (.cons (.str _) (.cons (.str _) (.cons (.tup (tupz _ _ e_e4) (.cons (.lst (bz _ _ e_ql nqlc.1 nqlc.2) .nil) .nil)) (.cons (.int _) .nil)))), .inl ⟨_, _, _, rfl, by decide +kernel, ⟨by decide, by simp [txl, txlL, tx]⟩⟩⟩
        · exact ⟨_, _, rfl, Is.keep kz (by decide +kernel) i_b5, .inl ⟨_, _, _, rfl, by decide +kernel, ⟨by decide, by simp [txl, txlL]⟩⟩⟩
        · exact ⟨_, _, rfl, Is.keep kz (by decide +kernel) i_b6, .inr ⟨_, rfl, rfl, fun s z => nomatch z⟩⟩
        · exact ⟨_, _, rfl, Is.keep kz (by decide +kernel) i_b7, .inr ⟨_, rfl, rfl, fun s z => nomatch z⟩⟩
        · exact ⟨_, _, rfl, Is.keep kz (by decide +kernel) i_b8, .inr ⟨_, rfl, rfl, fun s z => nomatch z⟩⟩
      obtain ⟨tx, cs, rfl, icx, hbx⟩ := hx2
      exact ⟨tx, cs, rfl, icx, hbx, fun Z2 _ => q Z2⟩
end
end Hc

namespace Hc
open PySem PySem.Spec PyProof.Rows L2 Hr
theorem all_mk {l : PySem.W.OpenLaw} {w : World} {K : PySem.W.Frag} {h : Heap} {mg : Str → Option Value} {fa C Vr N E0 Fo tt1 tt2 tt3 tt4 tt5 f1 f2 f3 f4 f5 f6 f7 f8 f9 f10 f11 f12 f13 f14 f15 f16 f17 f18 f19 f20 f21 f22 f23 f24 f25 f26 f27 f28 f29 f30 f31 : Addr} (X : K.In h) (G : h.Ns mainGlobals mg) (hfa : mg "law" = some (.ref fa))
    {od1 od2 od3 od4 od5 od6 od7 od8 od9 od10 od11 od12 od13 od14 od15 od16 od17 od18 od19 od20 od21 od22 od23 od24 od25 od26 od27 od28 od29 od30 od31 an1 an2 an3 an4 an5 an6 an7 an8 an9 an10 an11 an12 an13 an14 an15 an16 an17 an18 an19 an20 an21 an22 an23 an24 an25 an26 an27 an28 an29 an30 an31 : Option Addr} {sl1 sl2 sl3 sl4 sl5 sl6 sl7 sl8 sl9 sl10 sl11 sl12 sl13 sl14 sl15 sl16 sl17 sl18 sl19 sl20 sl21 sl22 sl23 sl24 sl25 sl26 sl27 sl28 sl29 sl30 sl31 : Array (Option Value)} {oc1 oc2 oc3 oc4 oc5 oc6 oc7 oc8 oc9 oc10 oc11 oc12 oc13 oc14 oc15 oc16 oc17 oc18 oc19 oc20 oc21 oc22 oc23 oc24 oc25 oc26 oc27 oc28 oc29 oc30 oc31 kV1 kV2 kV3 kV4 kV5 kV6 kV7 kV8 kV9 kV10 kV11 kV12 kV13 kV14 kV15 kV16 kV17 kV18 kV19 kV20 kV21 kV22 kV23 kV24 kV25 kV26 kV27 kV28 kV29 kV30 kV31 dc1 dc2 dc3 dc4 dc5 dc6 dc7 dc8 dc9 dc10 dc11 dc12 dc13 dc14 dc15 dc16 dc17 dc18 dc19 dc20 dc21 dc22 dc23 dc24 dc25 dc26 dc27 dc28 dc29 dc30 dc31 pm1 pm2 pm3 pm4 pm5 pm6 pm7 pm8 pm9 pm10 pm11 pm12 pm13 pm14 pm15 pm16 pm17 pm18 pm19 pm20 pm21 pm22 pm23 pm24 pm25 pm26 pm27 pm28 pm29 pm30 pm31 cd1 cd2 cd3 cd4 cd5 cd6 cd7 cd8 cd9 cd10 cd11 cd12 cd13 cd14 cd15 cd16 cd17 cd18 cd19 cd20 cd21 cd22 cd23 cd24 cd25 cd26 cd27 cd28 cd29 cd30 cd31 ct1 ct2 ct3 ct4 ct5 ct6 ct7 ct8 ct9 ct10 ct11 ct12 ct13 ct14 ct15 ct16 ct17 ct18 ct19 ct20 ct21 ct22 ct23 ct24 ct25 ct26 ct27 ct28 ct29 ct30 ct31 : Value}
    {tLEAST tGREATEST tMOST_CHARACTERS tMOST_DEEP tMOST_RANK tMOST_RANK_HOST : Tok} {esF : Array DictEntry} {nF : Nat}
    {utt1_0 utt1_1 utt1_2 utt2_0 utt2_1 utt3_0 utt3_1 utt3_2 utt3_3 utt4_0 utt4_1 utt4_2 utt4_3 utt5_0 utt5_1 utt5_2 utt5_3 utt5_4 utt5_5 : Tok} {ntt1 ntt2 ntt3 ntt4 ntt5 : Nat} {dtt1 dtt2 dtt3 dtt4 dtt5 : Option Addr} {stt1 stt2 stt3 stt4 stt5 : Array (Option Value)}
    (a1 : PySem.W.nsIn K mainGlobals "is_number" = some (some (.ref f1)))
    (l1 : K.lookup f1 = some ⟨oc1, od1, .func (PySem.W.fnOf "is_number" "is_number" (C8.fnArgs s_is_number) (C8.fnBody s_is_number) (C8.fnScope s_is_number) .none kV1 dc1 pm1 an1 cd1 ct1), sl1⟩)
    (c1 : PySem.W.codeIn K cd1 "is_number" = true)
    (k1 : PySem.W.keepIn K (.ref f1) = true)
    (a2 : PySem.W.nsIn K mainGlobals "is_text" = some (some (.ref f2)))
    (l2 : K.lookup f2 = some ⟨oc2, od2, .func (PySem.W.fnOf "is_text" "is_text" (C8.fnArgs s_is_text) (C8.fnBody s_is_text) (C8.fnScope s_is_text) .none kV2 dc2 pm2 an2 cd2 ct2), sl2⟩)
    (c2 : PySem.W.codeIn K cd2 "is_text" = true)
    (k2 : PySem.W.keepIn K (.ref f2) = true)
    (a3 : PySem.W.nsIn K mainGlobals "_is_within" = some (some (.ref f3)))
    (l3 : K.lookup f3 = some ⟨oc3, od3, .func (PySem.W.fnOf "_is_within" "_is_within" (C8.fnArgs s__is_within) (C8.fnBody s__is_within) (C8.fnScope s__is_within) .none kV3 dc3 pm3 an3 cd3 ct3), sl3⟩)
    (c3 : PySem.W.codeIn K cd3 "_is_within" = true)
    (k3 : PySem.W.keepIn K (.ref f3) = true)
    (a4 : PySem.W.nsIn K mainGlobals "is_word" = some (some (.ref f4)))
    (l4 : K.lookup f4 = some ⟨oc4, od4, .func (PySem.W.fnOf "is_word" "is_word" (C8.fnArgs s_is_word) (C8.fnBody s_is_word) (C8.fnScope s_is_word) .none kV4 dc4 pm4 an4 cd4 ct4), sl4⟩)
    (c4 : PySem.W.codeIn K cd4 "is_word" = true)
    (k4 : PySem.W.keepIn K (.ref f4) = true)
    (a5 : PySem.W.nsIn K mainGlobals "_places_of_atoms" = some (some (.ref f5)))
    (l5 : K.lookup f5 = some ⟨oc5, od5, .func (PySem.W.fnOf "_places_of_atoms" "_places_of_atoms" (C8.fnArgs s__places_of_atoms) (C8.fnBody s__places_of_atoms) (C8.fnScope s__places_of_atoms) .none kV5 dc5 pm5 an5 cd5 ct5), sl5⟩)
    (c5 : PySem.W.codeIn K cd5 "_places_of_atoms" = true)
    (k5 : PySem.W.keepIn K (.ref f5) = true)
    (a6 : PySem.W.nsIn K mainGlobals "rank_of" = some (some (.ref f6)))
    (l6 : K.lookup f6 = some ⟨oc6, od6, .func (PySem.W.fnOf "rank_of" "rank_of" (C8.fnArgs s_rank_of) (C8.fnBody s_rank_of) (C8.fnScope s_rank_of) .none kV6 dc6 pm6 an6 cd6 ct6), sl6⟩)
    (c6 : PySem.W.codeIn K cd6 "rank_of" = true)
    (k6 : PySem.W.keepIn K (.ref f6) = true)
    (a7 : PySem.W.nsIn K mainGlobals "_rank_of_atom" = some (some (.ref f7)))
    (l7 : K.lookup f7 = some ⟨oc7, od7, .func (PySem.W.fnOf "_rank_of_atom" "_rank_of_atom" (C8.fnArgs s__rank_of_atom) (C8.fnBody s__rank_of_atom) (C8.fnScope s__rank_of_atom) .none kV7 dc7 pm7 an7 cd7 ct7), sl7⟩)
    (c7 : PySem.W.codeIn K cd7 "_rank_of_atom" = true)
    (k7 : PySem.W.keepIn K (.ref f7) = true)
    (a8 : PySem.W.nsIn K mainGlobals "_most_rank" = some (some (.ref f8)))
    (l8 : K.lookup f8 = some ⟨oc8, od8, .func (PySem.W.fnOf "_most_rank" "_most_rank" (C8.fnArgs s__most_rank) (C8.fnBody s__most_rank) (C8.fnScope s__most_rank) .none kV8 dc8 pm8 an8 cd8 ct8), sl8⟩)
    (c8 : PySem.W.codeIn K cd8 "_most_rank" = true)
    (k8 : PySem.W.keepIn K (.ref f8) = true)
    (a9 : PySem.W.nsIn K mainGlobals "_has_form" = some (some (.ref f9)))
    (l9 : K.lookup f9 = some ⟨oc9, od9, .func (PySem.W.fnOf "_has_form" "_has_form" (C8.fnArgs s__has_form) (C8.fnBody s__has_form) (C8.fnScope s__has_form) .none kV9 dc9 pm9 an9 cd9 ct9), sl9⟩)
    (c9 : PySem.W.codeIn K cd9 "_has_form" = true)
    (k9 : PySem.W.keepIn K (.ref f9) = true)
    (a10 : PySem.W.nsIn K mainGlobals "_is_term" = some (some (.ref f10)))
    (l10 : K.lookup f10 = some ⟨oc10, od10, .func (PySem.W.fnOf "_is_term" "_is_term" (C8.fnArgs s__is_term) (C8.fnBody s__is_term) (C8.fnScope s__is_term) .none kV10 dc10 pm10 an10 cd10 ct10), sl10⟩)
    (c10 : PySem.W.codeIn K cd10 "_is_term" = true)
    (k10 : PySem.W.keepIn K (.ref f10) = true)
    (a11 : PySem.W.nsIn K mainGlobals "_are_equal" = some (some (.ref f11)))
    (l11 : K.lookup f11 = some ⟨oc11, od11, .func (PySem.W.fnOf "_are_equal" "_are_equal" (C8.fnArgs s__are_equal) (C8.fnBody s__are_equal) (C8.fnScope s__are_equal) .none kV11 dc11 pm11 an11 cd11 ct11), sl11⟩)
    (c11 : PySem.W.codeIn K cd11 "_are_equal" = true)
    (k11 : PySem.W.keepIn K (.ref f11) = true)
    (a12 : PySem.W.nsIn K mainGlobals "token_of" = some (some (.ref f12)))
    (l12 : K.lookup f12 = some ⟨oc12, od12, .func (PySem.W.fnOf "token_of" "token_of" (C8.fnArgs s_token_of) (C8.fnBody s_token_of) (C8.fnScope s_token_of) .none kV12 dc12 pm12 an12 cd12 ct12), sl12⟩)
    (c12 : PySem.W.codeIn K cd12 "token_of" = true)
    (k12 : PySem.W.keepIn K (.ref f12) = true)
    (a13 : PySem.W.nsIn K mainGlobals "token_parts" = some (some (.ref f13)))
    (l13 : K.lookup f13 = some ⟨oc13, od13, .func (PySem.W.fnOf "token_parts" "token_parts" (C8.fnArgs s_token_parts) (C8.fnBody s_token_parts) (C8.fnScope s_token_parts) .none kV13 dc13 pm13 an13 cd13 ct13), sl13⟩)
    (c13 : PySem.W.codeIn K cd13 "token_parts" = true)
    (k13 : PySem.W.keepIn K (.ref f13) = true)
    (a14 : PySem.W.nsIn K mainGlobals "_law_begin" = some (some (.ref f14)))
    (l14 : K.lookup f14 = some ⟨oc14, od14, .func (PySem.W.fnOf "_law_begin" "_law_begin" (C8.fnArgs s__law_begin) (C8.fnBody s__law_begin) (C8.fnScope s__law_begin) .none kV14 dc14 pm14 an14 cd14 ct14), sl14⟩)
    (c14 : PySem.W.codeIn K cd14 "_law_begin" = true)
    (k14 : PySem.W.keepIn K (.ref f14) = true)
    (a15 : PySem.W.nsIn K mainGlobals "_law_draw" = some (some (.ref f15)))
    (l15 : K.lookup f15 = some ⟨oc15, od15, .func (PySem.W.fnOf "_law_draw" "_law_draw" (C8.fnArgs s__law_draw) (C8.fnBody s__law_draw) (C8.fnScope s__law_draw) .none kV15 dc15 pm15 an15 cd15 ct15), sl15⟩)
    (c15 : PySem.W.codeIn K cd15 "_law_draw" = true)
    (k15 : PySem.W.keepIn K (.ref f15) = true)
    (a16 : PySem.W.nsIn K mainGlobals "_law_pick" = some (some (.ref f16)))
    (l16 : K.lookup f16 = some ⟨oc16, od16, .func (PySem.W.fnOf "_law_pick" "_law_pick" (C8.fnArgs s__law_pick) (C8.fnBody s__law_pick) (C8.fnScope s__law_pick) .none kV16 dc16 pm16 an16 cd16 ct16), sl16⟩)
    (c16 : PySem.W.codeIn K cd16 "_law_pick" = true)
    (k16 : PySem.W.keepIn K (.ref f16) = true)
    (a17 : PySem.W.nsIn K mainGlobals "_law_measures" = some (some (.ref f17)))
    (l17 : K.lookup f17 = some ⟨oc17, od17, .func (PySem.W.fnOf "_law_measures" "_law_measures" (C8.fnArgs s__law_measures) (C8.fnBody s__law_measures) (C8.fnScope s__law_measures) .none kV17 dc17 pm17 an17 cd17 ct17), sl17⟩)
    (c17 : PySem.W.codeIn K cd17 "_law_measures" = true)
    (k17 : PySem.W.keepIn K (.ref f17) = true)
    (a18 : PySem.W.nsIn K mainGlobals "_law_offer" = some (some (.ref f18)))
    (l18 : K.lookup f18 = some ⟨oc18, od18, .func (PySem.W.fnOf "_law_offer" "_law_offer" (C8.fnArgs s__law_offer) (C8.fnBody s__law_offer) (C8.fnScope s__law_offer) .none kV18 dc18 pm18 an18 cd18 ct18), sl18⟩)
    (c18 : PySem.W.codeIn K cd18 "_law_offer" = true)
    (k18 : PySem.W.keepIn K (.ref f18) = true)
    (a19 : PySem.W.nsIn K mainGlobals "_law_parts" = some (some (.ref f19)))
    (l19 : K.lookup f19 = some ⟨oc19, od19, .func (PySem.W.fnOf "_law_parts" "_law_parts" (C8.fnArgs s__law_parts) (C8.fnBody s__law_parts) (C8.fnScope s__law_parts) .none kV19 dc19 pm19 an19 cd19 ct19), sl19⟩)
    (c19 : PySem.W.codeIn K cd19 "_law_parts" = true)
    (k19 : PySem.W.keepIn K (.ref f19) = true)
    (a20 : PySem.W.nsIn K mainGlobals "_law_due" = some (some (.ref f20)))
    (l20 : K.lookup f20 = some ⟨oc20, od20, .func (PySem.W.fnOf "_law_due" "_law_due" (C8.fnArgs s__law_due) (C8.fnBody s__law_due) (C8.fnScope s__law_due) .none kV20 dc20 pm20 an20 cd20 ct20), sl20⟩)
    (c20 : PySem.W.codeIn K cd20 "_law_due" = true)
    (k20 : PySem.W.keepIn K (.ref f20) = true)
    (a21 : PySem.W.nsIn K mainGlobals "_law_right" = some (some (.ref f21)))
    (l21 : K.lookup f21 = some ⟨oc21, od21, .func (PySem.W.fnOf "_law_right" "_law_right" (C8.fnArgs s__law_right) (C8.fnBody s__law_right) (C8.fnScope s__law_right) .none kV21 dc21 pm21 an21 cd21 ct21), sl21⟩)
    (c21 : PySem.W.codeIn K cd21 "_law_right" = true)
    (k21 : PySem.W.keepIn K (.ref f21) = true)
    (a22 : PySem.W.nsIn K mainGlobals "_law_refused" = some (some (.ref f22)))
    (l22 : K.lookup f22 = some ⟨oc22, od22, .func (PySem.W.fnOf "_law_refused" "_law_refused" (C8.fnArgs s__law_refused) (C8.fnBody s__law_refused) (C8.fnScope s__law_refused) .none kV22 dc22 pm22 an22 cd22 ct22), sl22⟩)
    (c22 : PySem.W.codeIn K cd22 "_law_refused" = true)
    (k22 : PySem.W.keepIn K (.ref f22) = true)
    (a23 : PySem.W.nsIn K mainGlobals "law" = some (some (.ref f23)))
    (l23 : K.lookup f23 = some ⟨oc23, od23, .func (PySem.W.fnOf "law" "law" (C8.fnArgs s_law) (C8.fnBody s_law) (C8.fnScope s_law) .none kV23 dc23 pm23 an23 cd23 ct23), sl23⟩)
    (c23 : PySem.W.codeIn K cd23 "law" = true)
    (k23 : PySem.W.keepIn K (.ref f23) = true)
    (aC : PySem.W.nsIn K mainGlobals "Atom" = some (some (.ref C)))
    (aV : PySem.W.nsIn K mainGlobals "Verifier" = some (some (.ref Vr)))
    (aN : PySem.W.nsIn K mainGlobals "NotValid" = some (some (.ref N)))
    (aE : PySem.W.nsIn K mainGlobals "HermitError" = some (some (.ref E0)))
    (hVC : Vr ≠ C)
    (eN : PySem.W.excIn K N [Value.type "ValueError", Value.type "Exception", Value.type "BaseException", Value.type "object"] "ValueError.__new__" = true)
    (kN : PySem.W.keepIn K (.ref N) = true)
    (sN : PySem.W.subIn K (.ref N) (.type "BaseException") = some true)
    (tN : PySem.W.typeIn K (.ref N) = some (.type "type"))
    (gN : PySem.W.findIn K (.ref N) "__getattribute__" = some (some (.builtin "BaseException.__getattribute__")))
    (hN : PySem.W.findIn K (.ref N) "__getattr__" = some none)
    (dN : PySem.W.hasDictIn K N = true)
    (caN : PySem.W.findIn K (.ref N) "__class__" = some (some (.builtin "object.__class__")))
    (moN : PySem.W.mroIn K N (.type "object") = some true)
    (sE : PySem.W.subIn K (.ref E0) (.type "BaseException") = some true)
    (dE : PySem.W.hasDictIn K E0 = true)
    (tE : PySem.W.typeIn K (.ref E0) = some (.type "type"))
    (sNE : PySem.W.subIn K (.ref N) (.ref E0) = some true)
    (kNN : PySem.W.kitOne K (.ref N) (.ref N) = some true)
    (onn : PySem.W.findIn K (.ref C) "__ne__" = some (some (.builtin "object.__ne__")))
    (oNoneType : PySem.W.subIn K (.ref C) (.type "NoneType") = some false)
    (oint : PySem.W.subIn K (.ref C) (.type "int") = some false)
    (ostr : PySem.W.subIn K (.ref C) (.type "str") = some false)
    (otuple : PySem.W.subIn K (.ref C) (.type "tuple") = some false)
    (a24 : PySem.W.findIn K (.ref C) "__init__" = some (some (.ref f24)))
    (i24 : PySem.W.isFn K (.ref f24) = true)
    (l24 : K.lookup f24 = some ⟨oc24, od24, .func (PySem.W.fnOf "__init__" "Atom.__init__" (C8.fnArgs s_Atom___init__) (C8.fnBody s_Atom___init__) (C8.fnScope s_Atom___init__) .none kV24 dc24 pm24 an24 cd24 ct24), sl24⟩)
    (c24 : PySem.W.codeIn K cd24 "Atom.__init__" = true)
    (k24 : PySem.W.keepIn K (.ref f24) = true)
    (a25 : PySem.W.findIn K (.ref C) "__eq__" = some (some (.ref f25)))
    (i25 : PySem.W.isFn K (.ref f25) = true)
    (l25 : K.lookup f25 = some ⟨oc25, od25, .func (PySem.W.fnOf "__eq__" "Atom.__eq__" (C8.fnArgs s_Atom___eq__) (C8.fnBody s_Atom___eq__) (C8.fnScope s_Atom___eq__) .none kV25 dc25 pm25 an25 cd25 ct25), sl25⟩)
    (c25 : PySem.W.codeIn K cd25 "Atom.__eq__" = true)
    (k25 : PySem.W.keepIn K (.ref f25) = true)
    (a26 : PySem.W.findIn K (.ref C) "is_same" = some (some (.ref f26)))
    (i26 : PySem.W.isFn K (.ref f26) = true)
    (l26 : K.lookup f26 = some ⟨oc26, od26, .func (PySem.W.fnOf "is_same" "Atom.is_same" (C8.fnArgs s_Atom_is_same) (C8.fnBody s_Atom_is_same) (C8.fnScope s_Atom_is_same) .none kV26 dc26 pm26 an26 cd26 ct26), sl26⟩)
    (c26 : PySem.W.codeIn K cd26 "Atom.is_same" = true)
    (k26 : PySem.W.keepIn K (.ref f26) = true)
    (a27 : PySem.W.findIn K (.ref Vr) "__init__" = some (some (.ref f27)))
    (i27 : PySem.W.isFn K (.ref f27) = true)
    (l27 : K.lookup f27 = some ⟨oc27, od27, .func (PySem.W.fnOf "__init__" "Verifier.__init__" (C8.fnArgs s_Verifier___init__) (C8.fnBody s_Verifier___init__) (C8.fnScope s_Verifier___init__) .none kV27 dc27 pm27 an27 cd27 ct27), sl27⟩)
    (c27 : PySem.W.codeIn K cd27 "Verifier.__init__" = true)
    (k27 : PySem.W.keepIn K (.ref f27) = true)
    (a28 : PySem.W.findIn K (.ref Vr) "challenge" = some (some (.ref f28)))
    (i28 : PySem.W.isFn K (.ref f28) = true)
    (l28 : K.lookup f28 = some ⟨oc28, od28, .func (PySem.W.fnOf "challenge" "Verifier.challenge" (C8.fnArgs s_Verifier_challenge) (C8.fnBody s_Verifier_challenge) (C8.fnScope s_Verifier_challenge) .none kV28 dc28 pm28 an28 cd28 ct28), sl28⟩)
    (c28 : PySem.W.codeIn K cd28 "Verifier.challenge" = true)
    (k28 : PySem.W.keepIn K (.ref f28) = true)
    (a29 : PySem.W.findIn K (.ref Vr) "is_open" = some (some (.ref f29)))
    (i29 : PySem.W.isFn K (.ref f29) = true)
    (l29 : K.lookup f29 = some ⟨oc29, od29, .func (PySem.W.fnOf "is_open" "Verifier.is_open" (C8.fnArgs s_Verifier_is_open) (C8.fnBody s_Verifier_is_open) (C8.fnScope s_Verifier_is_open) .none kV29 dc29 pm29 an29 cd29 ct29), sl29⟩)
    (c29 : PySem.W.codeIn K cd29 "Verifier.is_open" = true)
    (k29 : PySem.W.keepIn K (.ref f29) = true)
    (a30 : PySem.W.findIn K (.ref Vr) "open_ones" = some (some (.ref f30)))
    (i30 : PySem.W.isFn K (.ref f30) = true)
    (l30 : K.lookup f30 = some ⟨oc30, od30, .func (PySem.W.fnOf "open_ones" "Verifier.open_ones" (C8.fnArgs s_Verifier_open_ones) (C8.fnBody s_Verifier_open_ones) (C8.fnScope s_Verifier_open_ones) .none kV30 dc30 pm30 an30 cd30 ct30), sl30⟩)
    (c30 : PySem.W.codeIn K cd30 "Verifier.open_ones" = true)
    (k30 : PySem.W.keepIn K (.ref f30) = true)
    (a31 : PySem.W.findIn K (.ref Vr) "take" = some (some (.ref f31)))
    (i31 : PySem.W.isFn K (.ref f31) = true)
    (l31 : K.lookup f31 = some ⟨oc31, od31, .func (PySem.W.fnOf "take" "Verifier.take" (C8.fnArgs s_Verifier_take) (C8.fnBody s_Verifier_take) (C8.fnScope s_Verifier_take) .none kV31 dc31 pm31 an31 cd31 ct31), sl31⟩)
    (c31 : PySem.W.codeIn K cd31 "Verifier.take" = true)
    (k31 : PySem.W.keepIn K (.ref f31) = true)
    (pgC : PySem.W.plainGet K C Str.empty = true)
    (hdC : PySem.W.hasDictIn K C = true)
    (poC : PySem.W.plainOver K C = true)
    (saC : PySem.W.findIn K (.ref C) "__setattr__" = some (some (.builtin "object.__setattr__")))
    (mkC : PySem.W.makesIn K C = true)
    (kcC : PySem.W.keepIn K (.ref C) = true)
    (pgVr : PySem.W.plainGet K Vr Str.empty = true)
    (hdVr : PySem.W.hasDictIn K Vr = true)
    (poVr : PySem.W.plainOver K Vr = true)
    (saVr : PySem.W.findIn K (.ref Vr) "__setattr__" = some (some (.builtin "object.__setattr__")))
    (mkVr : PySem.W.makesIn K Vr = true)
    (kcVr : PySem.W.keepIn K (.ref Vr) = true)
    (ha : PySem.W.findIn K (.ref C) "__class__" = some (some (.builtin "object.__class__")))
    (hn : PySem.W.specialIn K (.builtin "object.__class__") "__get__" = some (some (.builtin "getset_descriptor.__get__")))
    (htk : PySem.W.takesIn K (.builtin "object.__class__") = some true)
    (hm : PySem.W.mroIn K C (.type "object") = some true)
    (me : PySem.W.kitOne K (.ref C) (.ref C) = some true)
    (nakind : PySem.W.findIn K (.ref C) "kind" = some none)
    (naterm : PySem.W.findIn K (.ref C) "term" = some none)
    (narank : PySem.W.findIn K (.ref C) "rank" = some none)
    (na_stripped : PySem.W.findIn K (.ref C) "_stripped" = some none)
    (nv_name : PySem.W.findIn K (.ref Vr) "_name" = some none)
    (nv_monitors : PySem.W.findIn K (.ref Vr) "_monitors" = some none)
    (nv_measures : PySem.W.findIn K (.ref Vr) "_measures" = some none)
    (nv_given : PySem.W.findIn K (.ref Vr) "_given" = some none)
    (nv_waiting : PySem.W.findIn K (.ref Vr) "_waiting" = some none)
    (qint : PySem.W.kitOne K (.ref C) (.type "int") = some false)
    (qstr : PySem.W.kitOne K (.ref C) (.type "str") = some false)
    (qtuple : PySem.W.kitOne K (.ref C) (.type "tuple") = some false)
    (qbool : PySem.W.kitOne K (.ref C) (.type "bool") = some false)
    (qlist : PySem.W.kitOne K (.ref C) (.type "list") = some false)
    (qdict : PySem.W.kitOne K (.ref C) (.type "dict") = some false)
    (rNoneType : PySem.W.kitOne K (.type "NoneType") (.ref C) = some false)
    (rbool : PySem.W.kitOne K (.type "bool") (.ref C) = some false)
    (rint : PySem.W.kitOne K (.type "int") (.ref C) = some false)
    (rstr : PySem.W.kitOne K (.type "str") (.ref C) = some false)
    (rtuple : PySem.W.kitOne K (.type "tuple") (.ref C) = some false)
    (rlist : PySem.W.kitOne K (.type "list") (.ref C) = some false)
    (rdict : PySem.W.kitOne K (.type "dict") (.ref C) = some false)
    (nLEAST : PySem.W.nsIn K mainGlobals "LEAST" = some (some (.int (-2147483648) tLEAST)))
    (nGREATEST : PySem.W.nsIn K mainGlobals "GREATEST" = some (some (.int (2147483647) tGREATEST)))
    (nMOST_CHARACTERS : PySem.W.nsIn K mainGlobals "MOST_CHARACTERS" = some (some (.int (24) tMOST_CHARACTERS)))
    (nMOST_DEEP : PySem.W.nsIn K mainGlobals "MOST_DEEP" = some (some (.int (40) tMOST_DEEP)))
    (nMOST_RANK : PySem.W.nsIn K mainGlobals "MOST_RANK" = some (some (.int (40) tMOST_RANK)))
    (nMOST_RANK_HOST : PySem.W.nsIn K mainGlobals "MOST_RANK_HOST" = some (some (.int (36) tMOST_RANK_HOST)))
    (ztype : PySem.W.nsIn K mainGlobals "type" = some none)
    (zint : PySem.W.nsIn K mainGlobals "int" = some none)
    (zstr : PySem.W.nsIn K mainGlobals "str" = some none)
    (zbool : PySem.W.nsIn K mainGlobals "bool" = some none)
    (ztuple : PySem.W.nsIn K mainGlobals "tuple" = some none)
    (zlist : PySem.W.nsIn K mainGlobals "list" = some none)
    (zrange : PySem.W.nsIn K mainGlobals "range" = some none)
    (zzip : PySem.W.nsIn K mainGlobals "zip" = some none)
    (zlen : PySem.W.nsIn K mainGlobals "len" = some none)
    (zall : PySem.W.nsIn K mainGlobals "all" = some none)
    (zmax : PySem.W.nsIn K mainGlobals "max" = some none)
    (zisinstance : PySem.W.nsIn K mainGlobals "isinstance" = some none)
    (zabs : PySem.W.nsIn K mainGlobals "abs" = some none)
    (aF : PySem.W.nsIn K mainGlobals "_FORMS" = some (some (.ref Fo)))
    (lF : K.lookup Fo = some ⟨.type "dict", none, .dict esF nF, #[]⟩)
    (kF : PySem.W.KeysLit w.params esF.toList)
    (oF : (Fo == sysModules) = false)
    (vtt1 : PySem.W.nsIn K Fo "token" = some (some (.ref tt1)))
    (wtt1 : K.lookup tt1 = some ⟨.type "tuple", dtt1, .seq #[.str "text" utt1_0, .str "tuple" utt1_1, .str "word" utt1_2] ntt1, stt1⟩)
    (vtt2 : PySem.W.nsIn K Fo "challenge" = some (some (.ref tt2)))
    (wtt2 : K.lookup tt2 = some ⟨.type "tuple", dtt2, .seq #[.str "text" utt2_0, .str "number" utt2_1] ntt2, stt2⟩)
    (vtt3 : PySem.W.nsIn K Fo "seal" = some (some (.ref tt3)))
    (wtt3 : K.lookup tt3 = some ⟨.type "tuple", dtt3, .seq #[.str "text" utt3_0, .str "number" utt3_1, .str "number" utt3_2, .str "hidden" utt3_3] ntt3, stt3⟩)
    (vtt4 : PySem.W.nsIn K Fo "page" = some (some (.ref tt4)))
    (wtt4 : K.lookup tt4 = some ⟨.type "tuple", dtt4, .seq #[.str "text" utt4_0, .str "number" utt4_1, .str "number" utt4_2, .str "hidden" utt4_3] ntt4, stt4⟩)
    (vtt5 : PySem.W.nsIn K Fo "ticket" = some (some (.ref tt5)))
    (wtt5 : K.lookup tt5 = some ⟨.type "tuple", dtt5, .seq #[.str "text" utt5_0, .str "number" utt5_1, .str "text" utt5_2, .str "tuple" utt5_3, .str "pages" utt5_4, .str "tuple" utt5_5] ntt5, stt5⟩)
    (vkey : PySem.W.nsIn K Fo "key" = some none)
    : ∃ fd : FuncData, (∀ (s : Shared) (v : Value), BindsTo s fd ⟨[v], []⟩ [("script", v)]) ∧ ∀ base : Heap, K.In base → base.Ns mainGlobals mg → FnOk l.prog w K mg base C8.CX0 41 fa fd ["script"] (spLaw K) := by
  have e := hfa.symm.trans (PySem.W.mg_of X G a23)
  cases e
  have clsC : Cls K C := ⟨pgC, hdC, poC, saC⟩
  have clsVr : Cls K Vr := ⟨pgVr, hdVr, poVr, saVr⟩
  have cl : Cl K C := ⟨clsC, ha, hn, htk, hm, me, mkC, nakind, naterm, narank, na_stripped⟩
  have GV : VrC K mg Vr := ⟨clsVr, PySem.W.mg_of X G aV, nv_name, nv_monitors, nv_measures, nv_given, nv_waiting⟩
  have kttt1 : KTup K tt1 ["text", "tuple", "word"] := fun H => .inr ⟨_, _, _, wtt1, rfl, rfl, (by show 3 ≤ sizeLine; decide), (.cons ⟨_, rfl⟩ (.cons ⟨_, rfl⟩ (.cons ⟨_, rfl⟩ .nil)))⟩
  have kttt2 : KTup K tt2 ["text", "number"] := fun H => .inr ⟨_, _, _, wtt2, rfl, rfl, (by show 2 ≤ sizeLine; decide), (.cons ⟨_, rfl⟩ (.cons ⟨_, rfl⟩ .nil))⟩
  have kttt3 : KTup K tt3 ["text", "number", "number", "hidden"] := fun H => .inr ⟨_, _, _, wtt3, rfl, rfl, (by show 4 ≤ sizeLine; decide), (.cons ⟨_, rfl⟩ (.cons ⟨_, rfl⟩ (.cons ⟨_, rfl⟩ (.cons ⟨_, rfl⟩ .nil))))⟩
  have kttt4 : KTup K tt4 ["text", "number", "number", "hidden"] := fun H => .inr ⟨_, _, _, wtt4, rfl, rfl, (by show 4 ≤ sizeLine; decide), (.cons ⟨_, rfl⟩ (.cons ⟨_, rfl⟩ (.cons ⟨_, rfl⟩ (.cons ⟨_, rfl⟩ .nil))))⟩
  have kttt5 : KTup K tt5 ["text", "number", "text", "tuple", "pages", "tuple"] := fun H => .inr ⟨_, _, _, wtt5, rfl, rfl, (by show 6 ≤ sizeLine; decide), (.cons ⟨_, rfl⟩ (.cons ⟨_, rfl⟩ (.cons ⟨_, rfl⟩ (.cons ⟨_, rfl⟩ (.cons ⟨_, rfl⟩ (.cons ⟨_, rfl⟩ .nil))))))⟩
  have kit : ∀ (d : D) (n : String), n ∈ ["int", "str", "tuple", "bool", "list", "dict"] → PySem.W.kitOne K (kyU C d) (.type n) = some (match d with | .int _ => n == "int" | .bl _ => n == "int" || n == "bool" | .str _ => n == "str" | .tup _ => n == "tuple" | .lst _ => n == "list" | .dct => n == "dict" | _ => false) := fun d n hn => by
    simp only [List.mem_cons, List.not_mem_nil, or_false] at hn
    rcases hn with rfl | rfl | rfl | rfl | rfl | rfl <;> cases d <;> dsimp only [kyU] <;> first
      | exact kit_ty (by decide +kernel)
      | exact qint
      | exact qstr
      | exact qtuple
      | exact qbool
      | exact qlist
      | exact qdict
  have kitC : ∀ d : D, PySem.W.kitOne K (kyU C d) (.ref C) = some (match d with | .atom _ _ => true | _ => false) := fun d => by
    cases d <;> first
      | exact me
      | exact rNoneType
      | exact rbool
      | exact rint
      | exact rstr
      | exact rtuple
      | exact rlist
      | exact rdict
  have KD : KDict K w Fo esF nF := ⟨lF, kF, oF⟩
  have T : Txt K mg w C := ⟨cl, PySem.W.mg_of X G aC, PySem.W.mg_none_of X G ztype, PySem.W.mg_none_of X G zint, PySem.W.mg_none_of X G zstr, PySem.W.mg_none_of X G zbool, PySem.W.mg_none_of X G ztuple, PySem.W.mg_none_of X G zlist, PySem.W.mg_none_of X G zrange, PySem.W.mg_none_of X G zzip, PySem.W.mg_none_of X G zlen, PySem.W.mg_none_of X G zall, PySem.W.mg_none_of X G zmax, PySem.W.mg_none_of X G zisinstance, PySem.W.mg_none_of X G zabs, ⟨_, PySem.W.mg_of X G nLEAST, ⟨_, rfl⟩⟩, ⟨_, PySem.W.mg_of X G nGREATEST, ⟨_, rfl⟩⟩, ⟨_, PySem.W.mg_of X G nMOST_CHARACTERS, ⟨_, rfl⟩⟩, ⟨_, PySem.W.mg_of X G nMOST_DEEP, ⟨_, rfl⟩⟩, ⟨_, PySem.W.mg_of X G nMOST_RANK, ⟨_, rfl⟩⟩, ⟨_, PySem.W.mg_of X G nMOST_RANK_HOST, ⟨_, rfl⟩⟩, ⟨Fo, tt1, tt2, tt3, tt4, tt5, ⟨_, PySem.W.mg_of X G aF, rfl⟩, ⟨esF, nF, KD⟩, ⟨esF, nF, _, lF, kF, vtt1, rfl⟩, ⟨esF, nF, _, lF, kF, vtt2, rfl⟩, ⟨esF, nF, _, lF, kF, vtt3, rfl⟩, ⟨esF, nF, _, lF, kF, vtt4, rfl⟩, ⟨esF, nF, _, lF, kF, vtt5, rfl⟩, vkey, kttt1, kttt2, kttt3, kttt4, kttt5⟩, kit, kitC⟩
  have oth : Oth K C := ⟨hm, onn, oNoneType, oint, ostr, otuple⟩
  have nv : NvOk K mg N _ _ := ⟨eN, PySem.W.mg_of X G aN, kN, sN, tN⟩
  have xc : ExcC K N := ⟨gN, hN, sN, dN, caN, hn, htk, moN⟩
  have hxm := PySem.W.exm_ref sE dE tE sNE
  have F1 : C8.Def K mg "is_number" s_is_number f1 _ := ⟨⟨⟨oc1, od1, .none, kV1, dc1, pm1, an1, cd1, ct1, sl1, rfl, l1, c1⟩⟩, PySem.W.mg_of X G a1, k1⟩
  have b1 : Binds K _ ["value"] [] := F1.fn.binds rfl (ps := ["value"]) fun _ _ _ _ _ _ us hl => match us, hl with | [_], _ => rfl
  have F2 : C8.Def K mg "is_text" s_is_text f2 _ := ⟨⟨⟨oc2, od2, .none, kV2, dc2, pm2, an2, cd2, ct2, sl2, rfl, l2, c2⟩⟩, PySem.W.mg_of X G a2, k2⟩
  have b2 : Binds K _ ["value"] [] := F2.fn.binds rfl (ps := ["value"]) fun _ _ _ _ _ _ us hl => match us, hl with | [_], _ => rfl
  have F3 : C8.Def K mg "_is_within" s__is_within f3 _ := ⟨⟨⟨oc3, od3, .none, kV3, dc3, pm3, an3, cd3, ct3, sl3, rfl, l3, c3⟩⟩, PySem.W.mg_of X G a3, k3⟩
  have b3 : Binds K _ ["value", "most_deep", "most_rank"] [] := F3.fn.binds rfl (ps := ["value", "most_deep", "most_rank"]) fun _ _ _ _ _ _ us hl => match us, hl with | [_, _, _], _ => rfl
  have F4 : C8.Def K mg "is_word" s_is_word f4 _ := ⟨⟨⟨oc4, od4, .none, kV4, dc4, pm4, an4, cd4, ct4, sl4, rfl, l4, c4⟩⟩, PySem.W.mg_of X G a4, k4⟩
  have b4 : Binds K _ ["value"] [] := F4.fn.binds rfl (ps := ["value"]) fun _ _ _ _ _ _ us hl => match us, hl with | [_], _ => rfl
  have F5 : C8.Def K mg "_places_of_atoms" s__places_of_atoms f5 _ := ⟨⟨⟨oc5, od5, .none, kV5, dc5, pm5, an5, cd5, ct5, sl5, rfl, l5, c5⟩⟩, PySem.W.mg_of X G a5, k5⟩
  have b5 : Binds K _ ["value"] [] := F5.fn.binds rfl (ps := ["value"]) fun _ _ _ _ _ _ us hl => match us, hl with | [_], _ => rfl
  have F6 : C8.Def K mg "rank_of" s_rank_of f6 _ := ⟨⟨⟨oc6, od6, .none, kV6, dc6, pm6, an6, cd6, ct6, sl6, rfl, l6, c6⟩⟩, PySem.W.mg_of X G a6, k6⟩
  have b6 : Binds K _ ["word"] [] := F6.fn.binds rfl (ps := ["word"]) fun _ _ _ _ _ _ us hl => match us, hl with | [_], _ => rfl
  have F7 : C8.Def K mg "_rank_of_atom" s__rank_of_atom f7 _ := ⟨⟨⟨oc7, od7, .none, kV7, dc7, pm7, an7, cd7, ct7, sl7, rfl, l7, c7⟩⟩, PySem.W.mg_of X G a7, k7⟩
  have b7 : Binds K _ ["kind", "term"] [] := F7.fn.binds rfl (ps := ["kind", "term"]) fun _ _ _ _ _ _ us hl => match us, hl with | [_, _], _ => rfl
  have F8 : C8.Def K mg "_most_rank" s__most_rank f8 _ := ⟨⟨⟨oc8, od8, .none, kV8, dc8, pm8, an8, cd8, ct8, sl8, rfl, l8, c8⟩⟩, PySem.W.mg_of X G a8, k8⟩
  have b8 : Binds K _ ["kind"] [] := F8.fn.binds rfl (ps := ["kind"]) fun _ _ _ _ _ _ us hl => match us, hl with | [_], _ => rfl
  have F9 : C8.Def K mg "_has_form" s__has_form f9 _ := ⟨⟨⟨oc9, od9, .none, kV9, dc9, pm9, an9, cd9, ct9, sl9, rfl, l9, c9⟩⟩, PySem.W.mg_of X G a9, k9⟩
  have b9 : Binds K _ ["part", "form"] [] := F9.fn.binds rfl (ps := ["part", "form"]) fun _ _ _ _ _ _ us hl => match us, hl with | [_, _], _ => rfl
  have F10 : C8.Def K mg "_is_term" s__is_term f10 _ := ⟨⟨⟨oc10, od10, .none, kV10, dc10, pm10, an10, cd10, ct10, sl10, rfl, l10, c10⟩⟩, PySem.W.mg_of X G a10, k10⟩
  have b10 : Binds K _ ["kind", "term"] [] := F10.fn.binds rfl (ps := ["kind", "term"]) fun _ _ _ _ _ _ us hl => match us, hl with | [_, _], _ => rfl
  have F11 : C8.Def K mg "_are_equal" s__are_equal f11 _ := ⟨⟨⟨oc11, od11, .none, kV11, dc11, pm11, an11, cd11, ct11, sl11, rfl, l11, c11⟩⟩, PySem.W.mg_of X G a11, k11⟩
  have b11 : Binds K _ ["ones", "others"] [] := F11.fn.binds rfl (ps := ["ones", "others"]) fun _ _ _ _ _ _ us hl => match us, hl with | [_, _], _ => rfl
  have F12 : C8.Def K mg "token_of" s_token_of f12 _ := ⟨⟨⟨oc12, od12, .none, kV12, dc12, pm12, an12, cd12, ct12, sl12, rfl, l12, c12⟩⟩, PySem.W.mg_of X G a12, k12⟩
  have b12 : Binds K _ ["monitor", "measure", "challenge"] [] := F12.fn.binds rfl (ps := ["monitor", "measure", "challenge"]) fun _ _ _ _ _ _ us hl => match us, hl with | [_, _, _], _ => rfl
  have F13 : C8.Def K mg "token_parts" s_token_parts f13 _ := ⟨⟨⟨oc13, od13, .none, kV13, dc13, pm13, an13, cd13, ct13, sl13, rfl, l13, c13⟩⟩, PySem.W.mg_of X G a13, k13⟩
  have b13 : Binds K _ ["word"] [] := F13.fn.binds rfl (ps := ["word"]) fun _ _ _ _ _ _ us hl => match us, hl with | [_], _ => rfl
  have F14 : C8.Def K mg "_law_begin" s__law_begin f14 _ := ⟨⟨⟨oc14, od14, .none, kV14, dc14, pm14, an14, cd14, ct14, sl14, rfl, l14, c14⟩⟩, PySem.W.mg_of X G a14, k14⟩
  have b14 : Binds K _ ["script"] [] := F14.fn.binds rfl (ps := ["script"]) fun _ _ _ _ _ _ us hl => match us, hl with | [_], _ => rfl
  have F15 : C8.Def K mg "_law_draw" s__law_draw f15 _ := ⟨⟨⟨oc15, od15, .none, kV15, dc15, pm15, an15, cd15, ct15, sl15, rfl, l15, c15⟩⟩, PySem.W.mg_of X G a15, k15⟩
  have b15 : Binds K _ ["draws", "many"] [] := F15.fn.binds rfl (ps := ["draws", "many"]) fun _ _ _ _ _ _ us hl => match us, hl with | [_, _], _ => rfl
  have F16 : C8.Def K mg "_law_pick" s__law_pick f16 _ := ⟨⟨⟨oc16, od16, .none, kV16, dc16, pm16, an16, cd16, ct16, sl16, rfl, l16, c16⟩⟩, PySem.W.mg_of X G a16, k16⟩
  have b16 : Binds K _ ["draws", "row"] [] := F16.fn.binds rfl (ps := ["draws", "row"]) fun _ _ _ _ _ _ us hl => match us, hl with | [_, _], _ => rfl
  have F17 : C8.Def K mg "_law_measures" s__law_measures f17 _ := ⟨⟨⟨oc17, od17, .none, kV17, dc17, pm17, an17, cd17, ct17, sl17, rfl, l17, c17⟩⟩, PySem.W.mg_of X G a17, k17⟩
  have b17 : Binds K _ [] [] := F17.fn.binds rfl (ps := []) fun _ _ _ _ _ _ us hl => match us, hl with | [], _ => rfl
  have F18 : C8.Def K mg "_law_offer" s__law_offer f18 _ := ⟨⟨⟨oc18, od18, .none, kV18, dc18, pm18, an18, cd18, ct18, sl18, rfl, l18, c18⟩⟩, PySem.W.mg_of X G a18, k18⟩
  have b18 : Binds K _ ["draws", "given", "measures"] [] := F18.fn.binds rfl (ps := ["draws", "given", "measures"]) fun _ _ _ _ _ _ us hl => match us, hl with | [_, _, _], _ => rfl
  have F19 : C8.Def K mg "_law_parts" s__law_parts f19 _ := ⟨⟨⟨oc19, od19, .none, kV19, dc19, pm19, an19, cd19, ct19, sl19, rfl, l19, c19⟩⟩, PySem.W.mg_of X G a19, k19⟩
  have b19 : Binds K _ ["word"] [] := F19.fn.binds rfl (ps := ["word"]) fun _ _ _ _ _ _ us hl => match us, hl with | [_], _ => rfl
  have F20 : C8.Def K mg "_law_due" s__law_due f20 _ := ⟨⟨⟨oc20, od20, .none, kV20, dc20, pm20, an20, cd20, ct20, sl20, rfl, l20, c20⟩⟩, PySem.W.mg_of X G a20, k20⟩
  have b20 : Binds K _ ["model", "word"] [] := F20.fn.binds rfl (ps := ["model", "word"]) fun _ _ _ _ _ _ us hl => match us, hl with | [_, _], _ => rfl
  have F21 : C8.Def K mg "_law_right" s__law_right f21 _ := ⟨⟨⟨oc21, od21, .none, kV21, dc21, pm21, an21, cd21, ct21, sl21, rfl, l21, c21⟩⟩, PySem.W.mg_of X G a21, k21⟩
  have b21 : Binds K _ ["verifier", "model", "strange"] [] := F21.fn.binds rfl (ps := ["verifier", "model", "strange"]) fun _ _ _ _ _ _ us hl => match us, hl with | [_, _, _], _ => rfl
  have F22 : C8.Def K mg "_law_refused" s__law_refused f22 _ := ⟨⟨⟨oc22, od22, .none, kV22, dc22, pm22, an22, cd22, ct22, sl22, rfl, l22, c22⟩⟩, PySem.W.mg_of X G a22, k22⟩
  have b22 : Binds K _ ["call"] [] := F22.fn.binds rfl (ps := ["call"]) fun _ _ _ _ _ _ us hl => match us, hl with | [_], _ => rfl
  have F23 : C8.Fun K "law" "law" s_law fa _ := ⟨⟨oc23, od23, .none, kV23, dc23, pm23, an23, cd23, ct23, sl23, rfl, l23, c23⟩⟩
  have b23 : Binds K _ ["script"] [] := F23.binds rfl (ps := ["script"]) fun _ _ _ _ _ _ us hl => match us, hl with | [_], _ => rfl
  have F24 : C8.Fun K "__init__" "Atom.__init__" s_Atom___init__ f24 _ := ⟨⟨oc24, od24, .none, kV24, dc24, pm24, an24, cd24, ct24, sl24, rfl, l24, c24⟩⟩
  have b24 : Binds K _ ["self", "kind", "term"] [] := F24.binds rfl (ps := ["self", "kind", "term"]) fun _ _ _ _ _ _ us hl => match us, hl with | [_, _, _], _ => rfl
  have mk24 : Mk K C f24 := ⟨mkC, a24, i24, kcC⟩
  have F25 : C8.Fun K "__eq__" "Atom.__eq__" s_Atom___eq__ f25 _ := ⟨⟨oc25, od25, .none, kV25, dc25, pm25, an25, cd25, ct25, sl25, rfl, l25, c25⟩⟩
  have b25 : Binds K _ ["self", "other"] [] := F25.binds rfl (ps := ["self", "other"]) fun _ _ _ _ _ _ us hl => match us, hl with | [_, _], _ => rfl
  have F26 : C8.Fun K "is_same" "Atom.is_same" s_Atom_is_same f26 _ := ⟨⟨oc26, od26, .none, kV26, dc26, pm26, an26, cd26, ct26, sl26, rfl, l26, c26⟩⟩
  have b26 : Binds K _ ["self", "other"] [] := F26.binds rfl (ps := ["self", "other"]) fun _ _ _ _ _ _ us hl => match us, hl with | [_, _], _ => rfl
  have me26 : Meth K C "is_same" f26 := ⟨a26, i26, k26⟩
  have F27 : C8.Fun K "__init__" "Verifier.__init__" s_Verifier___init__ f27 _ := ⟨⟨oc27, od27, .none, kV27, dc27, pm27, an27, cd27, ct27, sl27, rfl, l27, c27⟩⟩
  have b27 : Binds K _ ["self", "name", "monitors", "measures"] [] := F27.binds rfl (ps := ["self", "name", "monitors", "measures"]) fun _ _ _ _ _ _ us hl => match us, hl with | [_, _, _, _], _ => rfl
  have mk27 : Mk K Vr f27 := ⟨mkVr, a27, i27, kcVr⟩
  have F28 : C8.Fun K "challenge" "Verifier.challenge" s_Verifier_challenge f28 _ := ⟨⟨oc28, od28, .none, kV28, dc28, pm28, an28, cd28, ct28, sl28, rfl, l28, c28⟩⟩
  have b28 : Binds K _ ["self"] [] := F28.binds rfl (ps := ["self"]) fun _ _ _ _ _ _ us hl => match us, hl with | [_], _ => rfl
  have me28 : Meth K Vr "challenge" f28 := ⟨a28, i28, k28⟩
  have F29 : C8.Fun K "is_open" "Verifier.is_open" s_Verifier_is_open f29 _ := ⟨⟨oc29, od29, .none, kV29, dc29, pm29, an29, cd29, ct29, sl29, rfl, l29, c29⟩⟩
  have b29 : Binds K _ ["self", "word"] [] := F29.binds rfl (ps := ["self", "word"]) fun _ _ _ _ _ _ us hl => match us, hl with | [_, _], _ => rfl
  have me29 : Meth K Vr "is_open" f29 := ⟨a29, i29, k29⟩
  have F30 : C8.Fun K "open_ones" "Verifier.open_ones" s_Verifier_open_ones f30 _ := ⟨⟨oc30, od30, .none, kV30, dc30, pm30, an30, cd30, ct30, sl30, rfl, l30, c30⟩⟩
  have b30 : Binds K _ ["self"] [] := F30.binds rfl (ps := ["self"]) fun _ _ _ _ _ _ us hl => match us, hl with | [_], _ => rfl
  have me30 : Meth K Vr "open_ones" f30 := ⟨a30, i30, k30⟩
  have F31 : C8.Fun K "take" "Verifier.take" s_Verifier_take f31 _ := ⟨⟨oc31, od31, .none, kV31, dc31, pm31, an31, cd31, ct31, sl31, rfl, l31, c31⟩⟩
  have b31 : Binds K _ ["self", "word"] [] := F31.binds rfl (ps := ["self", "word"]) fun _ _ _ _ _ _ us hl => match us, hl with | [_, _], _ => rfl
  have me31 : Meth K Vr "take" f31 := ⟨a31, i31, k31⟩
  refine ⟨PySem.W.fnOf "law" "law" (C8.fnArgs s_law) (C8.fnBody s_law) (C8.fnScope s_law) .none kV23 dc23 pm23 an23 cd23 ct23, fun s v => .of_eq rfl, fun base _ _ => ?_⟩
  have C1 := ok_is_number (P := l.prog) (w := w) (base := base)  F1 b1 T  
  have C2 := ok_is_text (P := l.prog) (w := w) (base := base)  F2 b2 T  
  have C3 := ok__is_within (P := l.prog) (w := w) (base := base)  F3 b3 T C1 C2 
  have C4 := ok_is_word (P := l.prog) (w := w) (base := base)  F4 b4 T C3 
  have C5 := ok__places_of_atoms (P := l.prog) (w := w) (base := base)  F5 b5 T  
  have C6 := ok_rank_of (P := l.prog) (w := w) (base := base)  F6 b6 T C5 
  have C7 := ok__rank_of_atom (P := l.prog) (w := w) (base := base)  F7 b7 T C6 
  have C8 := ok__most_rank (P := l.prog) (w := w) (base := base)  F8 b8 T  
  have C9 := ok__has_form (P := l.prog) (w := w) (base := base)  F9 b9 T  
  have C10 := ok__is_term (P := l.prog) (w := w) (base := base)  F10 b10 T C4 C9 
  have kA := ok_init (P := l.prog) (w := w) (base := base) mk24 (PySem.W.mg_of X G aC) F24 b24 T C10 C7 C8
  have fN := ok_eqN (P := l.prog) (w := w) (base := base) F25 T
  have ON : OwnS l.prog w K mg base 1 C (spEqN C) := ⟨f25, _, _, fN, a25, i25, b25⟩
  have mSm := ok_is_same (P := l.prog) (w := w) (base := base) me26 T F26 b26
  have C11 := ok__are_equal (P := l.prog) (w := w) (base := base)  F11 b11 T ON oth mSm 
  have fG := ok_eq (P := l.prog) (w := w) (base := base) F25 T C11
  have OG : OwnS l.prog w K mg base 4 C (spEqG C) := ⟨f25, _, _, fG, a25, i25, b25⟩
  have C12 := ok_token_of (P := l.prog) (w := w) (base := base)  F12 b12 T kA 
  have C13 := ok_token_parts (P := l.prog) (w := w) (base := base)  F13 b13 T  
  have kV := ok_vinit (P := l.prog) (w := w) (base := base) mk27 GV T C2 F27 b27
  have mC := ok_challenge (P := l.prog) (w := w) (base := base) me28 GV T kA F28 b28
  have mO := ok_is_open (P := l.prog) (w := w) (base := base) me29 GV T OG oth F29 b29
  have mS := ok_open_ones (P := l.prog) (w := w) (base := base) me30 GV T F30 b30
  have mT := ok_take (P := l.prog) (w := w) (base := base) hVC me31 GV T OG oth mO C13 F31 b31
  have C14 := ok__law_begin (P := l.prog) (w := w) (base := base)  F14 b14 T  
  have C15 := ok__law_draw (P := l.prog) (w := w) (base := base)  F15 b15 T  
  have C16 := ok__law_pick (P := l.prog) (w := w) (base := base)  F16 b16 T C15 
  have C17 := ok__law_measures (P := l.prog) (w := w) (base := base)  F17 b17 T  
  have C18 := ok__law_offer (P := l.prog) (w := w) (base := base)  F18 b18 T kA C15 C16 C12 
  have C19 := ok__law_parts (P := l.prog) (w := w) (base := base)  F19 b19 T  
  have C20 := ok__law_due (P := l.prog) (w := w) (base := base)  F20 b20 T OG oth C19 
  have C21 := ok__law_right (P := l.prog) (w := w) (base := base)  F21 b21 T OG oth kA mS mO 
  have FX := ok_initX (P := l.prog) (w := w) (base := base) PySem.F.excBase_ValueError nv F24 T C10 C7 C8
  have FV := ok_vinitX (P := l.prog) (w := w) (base := base) (N := Vr) PySem.F.excBase_ValueError nv F27 T C2
  have FT := ok_token_ofX (P := l.prog) (w := w) (base := base) F12.fn T mk24 FX b24
  have C22 := ok__law_refused (P := l.prog) (w := w) (base := base) F22 b22 T GV nv xc (PySem.W.mg_of X G aE) hxm kNN mk27 FV b27 FT (PySem.W.mg_of X G a12) k12 b12
  exact fn_law F23 b23 T GV hVC OG oth kA kV C14 C15 C16 C17 C18 C20 C13 C19 C21 C22 mC mT
end Hc
open PySem PySem.W PyProof.Rows
set_option maxRecDepth 100000 in
set_option maxHeartbeats 0 in
theorem PySem.Challenge.cw_hermitcell_k63_verifiers_take_tokens_holds : PySem.Challenge.rw_hermitcell_k63_verifiers_take_tokens.Holds := by
  w_on; o_law; k_head; (case hw => w_witness2)
  k_fill
  refine L2.walk_of (l := PySem.Challenge.rw_hermitcell_k63_verifiers_take_tokens) (n := 63) (k := 41) (x := "script") (CX := fun _ => C8.CX0) (sp := fun w => Hc.spLaw _) rfl (by decide) rfl ⟨rfl, by decide, by decide⟩ (fun w h Y => PySem.W.kIn_of Y) ?F (fun _ _ a ns hl _ hS => ⟨a, ns, rfl, hS, Nat.le_trans hl (by decide), fun _ => rfl⟩) (fun _ _ _ _ _ h => h)
  case F =>
    intro w mg fa h KX G hmg
    refine' Hc.all_mk KX G hmg ?a1 ?l1 ?c1 ?k1 ?a2 ?l2 ?c2 ?k2 ?a3 ?l3 ?c3 ?k3 ?a4 ?l4 ?c4 ?k4 ?a5 ?l5 ?c5 ?k5 ?a6 ?l6 ?c6 ?k6 ?a7 ?l7 ?c7 ?k7 ?a8 ?l8 ?c8 ?k8 ?a9 ?l9 ?c9 ?k9 ?a10 ?l10 ?c10 ?k10 ?a11 ?l11 ?c11 ?k11 ?a12 ?l12 ?c12 ?k12 ?a13 ?l13 ?c13 ?k13 ?a14 ?l14 ?c14 ?k14 ?a15 ?l15 ?c15 ?k15 ?a16 ?l16 ?c16 ?k16 ?a17 ?l17 ?c17 ?k17 ?a18 ?l18 ?c18 ?k18 ?a19 ?l19 ?c19 ?k19 ?a20 ?l20 ?c20 ?k20 ?a21 ?l21 ?c21 ?k21 ?a22 ?l22 ?c22 ?k22 ?a23 ?l23 ?c23 ?k23 ?aC ?aV ?aN ?aE ?hVC ?eN ?kN ?sN ?tN ?gN ?hN ?dN ?caN ?moN ?sE ?dE ?tE ?sNE ?kNN ?onn ?oNoneType ?oint ?ostr ?otuple ?a24 ?i24 ?l24 ?c24 ?k24 ?a25 ?i25 ?l25 ?c25 ?k25 ?a26 ?i26 ?l26 ?c26 ?k26 ?a27 ?i27 ?l27 ?c27 ?k27 ?a28 ?i28 ?l28 ?c28 ?k28 ?a29 ?i29 ?l29 ?c29 ?k29 ?a30 ?i30 ?l30 ?c30 ?k30 ?a31 ?i31 ?l31 ?c31 ?k31 ?pgC ?hdC ?poC ?saC ?mkC ?kcC ?pgVr ?hdVr ?poVr ?saVr ?mkVr ?kcVr ?ha ?hn ?htk ?hm ?me ?nakind ?naterm ?narank ?na_stripped ?nv_name ?nv_monitors ?nv_measures ?nv_given ?nv_waiting ?qint ?qstr ?qtuple ?qbool ?qlist ?qdict ?rNoneType ?rbool ?rint ?rstr ?rtuple ?rlist ?rdict ?nLEAST ?nGREATEST ?nMOST_CHARACTERS ?nMOST_DEEP ?nMOST_RANK ?nMOST_RANK_HOST ?ztype ?zint ?zstr ?zbool ?ztuple ?zlist ?zrange ?zzip ?zlen ?zall ?zmax ?zisinstance ?zabs ?aF ?lF ?kF ?oF ?vtt1 ?wtt1 ?vtt2 ?wtt2 ?vtt3 ?wtt3 ?vtt4 ?wtt4 ?vtt5 ?wtt5 ?vkey
    (case a1 => k_is)
    (case l1 => k_is)
    (case c1 => k_is)
    (case k1 => k_is)
    (case a2 => k_is)
    (case l2 => k_is)
    (case c2 => k_is)
    (case k2 => k_is)
    (case a3 => k_is)
    (case l3 => k_is)
    (case c3 => k_is)
    (case k3 => k_is)
    (case a4 => k_is)
    (case l4 => k_is)
    (case c4 => k_is)
    (case k4 => k_is)
    (case a5 => k_is)
    (case l5 => k_is)
    (case c5 => k_is)
    (case k5 => k_is)
    (case a6 => k_is)
    (case l6 => k_is)
    (case c6 => k_is)
    (case k6 => k_is)
    (case a7 => k_is)
    (case l7 => k_is)
    (case c7 => k_is)
    (case k7 => k_is)
    (case a8 => k_is)
    (case l8 => k_is)
    (case c8 => k_is)
    (case k8 => k_is)
    (case a9 => k_is)
    (case l9 => k_is)
    (case c9 => k_is)
    (case k9 => k_is)
    (case a10 => k_is)
    (case l10 => k_is)
    (case c10 => k_is)
    (case k10 => k_is)
    (case a11 => k_is)
    (case l11 => k_is)
    (case c11 => k_is)
    (case k11 => k_is)
    (case a12 => k_is)
    (case l12 => k_is)
    (case c12 => k_is)
    (case k12 => k_is)
    (case a13 => k_is)
    (case l13 => k_is)
    (case c13 => k_is)
    (case k13 => k_is)
    (case a14 => k_is)
    (case l14 => k_is)
    (case c14 => k_is)
    (case k14 => k_is)
    (case a15 => k_is)
    (case l15 => k_is)
    (case c15 => k_is)
    (case k15 => k_is)
    (case a16 => k_is)
    (case l16 => k_is)
    (case c16 => k_is)
    (case k16 => k_is)
    (case a17 => k_is)
    (case l17 => k_is)
    (case c17 => k_is)
    (case k17 => k_is)
    (case a18 => k_is)
    (case l18 => k_is)
    (case c18 => k_is)
    (case k18 => k_is)
    (case a19 => k_is)
    (case l19 => k_is)
    (case c19 => k_is)
    (case k19 => k_is)
    (case a20 => k_is)
    (case l20 => k_is)
    (case c20 => k_is)
    (case k20 => k_is)
    (case a21 => k_is)
    (case l21 => k_is)
    (case c21 => k_is)
    (case k21 => k_is)
    (case a22 => k_is)
    (case l22 => k_is)
    (case c22 => k_is)
    (case k22 => k_is)
    (case a23 => k_is)
    (case l23 => k_is)
    (case c23 => k_is)
    (case k23 => k_is)
    (case aC => k_is)
    (case aV => k_is)
    (case aN => k_is)
    (case aE => k_is)
    (case hVC => decide)
    (case eN => k_exc)
    (case kN => k_is)
    (case sN => k_is)
    (case tN => k_is)
    (case gN => k_is)
    (case hN => k_is)
    (case dN => k_is)
    (case caN => k_is)
    (case moN => k_is)
    (case sE => k_is)
    (case dE => k_is)
    (case tE => k_is)
    (case sNE => k_is)
    (case kNN => kit_is)
    (case onn => k_is)
    (case oNoneType => k_is)
    (case oint => k_is)
    (case ostr => k_is)
    (case otuple => k_is)
    (case a24 => k_is)
    (case i24 => k_is)
    (case l24 => k_is)
    (case c24 => k_is)
    (case k24 => k_is)
    (case a25 => k_is)
    (case i25 => k_is)
    (case l25 => k_is)
    (case c25 => k_is)
    (case k25 => k_is)
    (case a26 => k_is)
    (case i26 => k_is)
    (case l26 => k_is)
    (case c26 => k_is)
    (case k26 => k_is)
    (case a27 => k_is)
    (case i27 => k_is)
    (case l27 => k_is)
    (case c27 => k_is)
    (case k27 => k_is)
    (case a28 => k_is)
    (case i28 => k_is)
    (case l28 => k_is)
    (case c28 => k_is)
    (case k28 => k_is)
    (case a29 => k_is)
    (case i29 => k_is)
    (case l29 => k_is)
    (case c29 => k_is)
    (case k29 => k_is)
    (case a30 => k_is)
    (case i30 => k_is)
    (case l30 => k_is)
    (case c30 => k_is)
    (case k30 => k_is)
    (case a31 => k_is)
    (case i31 => k_is)
    (case l31 => k_is)
    (case c31 => k_is)
    (case k31 => k_is)
    (case pgC => k_is)
    (case hdC => k_is)
    (case poC => k_is)
    (case saC => k_is)
    (case mkC => k_is)
    (case kcC => k_is)
    (case pgVr => k_is)
    (case hdVr => k_is)
    (case poVr => k_is)
    (case saVr => k_is)
    (case mkVr => k_is)
    (case kcVr => k_is)
    (case ha => k_is)
    (case hn => k_is)
    (case htk => k_is)
    (case hm => k_is)
    (case me => kit_is)
    (case nakind => k_is)
    (case naterm => k_is)
    (case narank => k_is)
    (case na_stripped => k_is)
    (case nv_name => k_is)
    (case nv_monitors => k_is)
    (case nv_measures => k_is)
    (case nv_given => k_is)
    (case nv_waiting => k_is)
    (case qint => kit_is)
    (case qstr => kit_is)
    (case qtuple => kit_is)
    (case qbool => kit_is)
    (case qlist => kit_is)
    (case qdict => kit_is)
    (case rNoneType => kit_is)
    (case rbool => kit_is)
    (case rint => kit_is)
    (case rstr => kit_is)
    (case rtuple => kit_is)
    (case rlist => kit_is)
    (case rdict => kit_is)
    (case nLEAST => k_is)
    (case nGREATEST => k_is)
    (case nMOST_CHARACTERS => k_is)
    (case nMOST_DEEP => k_is)
    (case nMOST_RANK => k_is)
    (case nMOST_RANK_HOST => k_is)
    (case ztype => k_is)
    (case zint => k_is)
    (case zstr => k_is)
    (case zbool => k_is)
    (case ztuple => k_is)
    (case zlist => k_is)
    (case zrange => k_is)
    (case zzip => k_is)
    (case zlen => k_is)
    (case zall => k_is)
    (case zmax => k_is)
    (case zisinstance => k_is)
    (case zabs => k_is)
    (case aF => k_is)
    (case lF => k_is)
    (case kF => k_keys)
    (case oF => decide)
    (case vtt1 => k_is)
    (case wtt1 => k_is)
    (case vtt2 => k_is)
    (case wtt2 => k_is)
    (case vtt3 => k_is)
    (case wtt3 => k_is)
    (case vtt4 => k_is)
    (case wtt4 => k_is)
    (case vtt5 => k_is)
    (case wtt5 => k_is)
    (case vkey => k_is)



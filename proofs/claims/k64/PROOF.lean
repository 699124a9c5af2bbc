import PyProof.Rows.All
import Wide.All
import OpenK.AllK
import Wide.FinOn
import HandS.ForMost
import HandS.Codes
import HandS.IsInst
import HandS.More
import HandS.OwnEq
import HandS.EndBits
import HandS.Style
import PyProof.Rows.CallKwBuiltin
import KE.KMinKey
import HandS.SortKw
import HandS.Dict
import HandS.Conv
import HandS.Zip
import HandS.Walk
import HandS.TupAny
import HandS.TupMul
import HandS.Exc
import HandS.ExcOwn
import HandS.Small
import HandS.WordsExc
import HandS.DictComp
import PyProof.StrBlock2
import PySem.Challenge.RW_hermitcell_k64_forms_of_moves
set_option Elab.async false
set_option maxRecDepth 100000
set_option maxHeartbeats 4000000
set_option linter.all false
/-! Rules that the layer lacks. -/
namespace Hr
open PySem PySem.SeqAt PyProof.Rows
open AutoSeq1 (wpAny_loadPart')
open MeetsSeq MeetsSeq2 MeetsSeq3 SeqRoads2
/-! ### x in l: the items' == may run code -/
section
variable {prog : Program} {w : World} {A : Around} {E : Value → Shared → Prop}
/-- the list stands still, its items are asked one by one -/
structure Asks (prog : Program) (w : World) (A : Around) (E : Value → Shared → Prop) (l : Addr) (x : Value) (J : Shared → Prop) (bs : List Bool) : Prop where
  at_ : ∀ s, J s → ∃ (items : Array Value) (n : Nat), s.heap.get? l = some { cls := .type "list", data := .seq items n } ∧ items.size = bs.length ∧
    ∀ (i : Nat) (h : i < items.size) (h2 : i < bs.length), wpAny (model prog w) A.in1 (eqBool items[i] x) (fun r s' => r = bs[i] ∧ J s') E s
theorem in_loop {R : Result → Shared → Prop} {l : Addr} {x : Value} {J : Shared → Prop} {bs : List Bool} (hl : Asks prog w A (fun e s' => R (.error e) s') l x J bs) (k : Nat) :
    ∀ i : Nat, bs.length - i = k → ∀ s, J s → (∀ s', J s' → R (.ok (.ret (.bool ((bs.drop i).any id)))) s') →
      wpAny (model prog w) A.in1 (Builtin.«list.__contains__.loop» ⟨[.ref l, x, rawInt i], []⟩) (GQ.FinOf prog w A R) (fun e s' => R (.error e) s') s := by
  induction k with
  | zero =>
    intro i hk s h fin
    obtain ⟨items, n, hg, hz, _⟩ := hl.at_ _ h
    have f := fin s h
    rw [List.drop_eq_nil_of_le (by omega)] at f
    obtain ⟨hp, g, d, tk, os⟩ := s
    wp_walk using wpAny_loadPart' hg
    have hi : items[((i : Nat) : Int).toNat]? = none := by simp; omega
    rw [hi]
    wp_walk
    exact f
  | succ k ih =>
    intro i hk s h fin
    obtain ⟨items, n, hg, hz, turn⟩ := hl.at_ _ h
    have h1 : i < items.size := by omega
    have h2 : i < bs.length := by omega
    have ht := turn i h1 h2
    obtain ⟨hp, g, d, tk, os⟩ := s
    wp_walk using wpAny_loadPart' hg
    have hi : items[((i : Nat) : Int).toNat]? = some items[i] := by simp [h1]
    have hd : (bs.drop i).any id = (bs[i] || (bs.drop (i + 1)).any id) := by rw [List.drop_eq_getElem_cons h2, List.any_cons]; rfl
    rw [hd] at fin
    rw [hi]
    refine wpAny_bind (wpAny_mono ht (fun r s2 q2 => ?_) fun _ _ z => z)
    obtain ⟨hr, j2⟩ := q2
    subst hr
    cases hb : bs[i] with
    | true =>
      rw [hb] at fin
      have f := fin s2 j2
      obtain ⟨hp2, g2, d2, tk2, os2⟩ := s2
      wp_walk
      exact f
    | false =>
      rw [hb] at fin
      have rec_ := ih (i + 1) (by omega) s2 j2 fin
      have hc : ((i : Int) + 1) = ((i + 1 : Nat) : Int) := by omega
      obtain ⟨hp2, g2, d2, tk2, os2⟩ := s2
      wp_walk
      rw [hc]
      exact ⟨plainId_quiet plain_contains_loop _, codeAny_builtin entry_contains_loop (by
        rw [Around.under_plainId plain_contains_loop _]
        exact rec_)⟩
theorem in_list {R : Result → Shared → Prop} {l : Addr} {x : Value} {J : Shared → Prop} {bs : List Bool} (hl : Asks prog w A (fun e s' => R (.error e) s') l x J bs) {s : Shared} (h : J s)
    (fin : ∀ s', J s' → R (.ok (.ret (.bool (bs.any id)))) s') :
    wpAny (model prog w) A.in1 (Builtin.«list.__contains__» ⟨[.ref l, x], []⟩) (GQ.FinOf prog w A R) (fun e s' => R (.error e) s') s := by
  obtain ⟨items, n, hg, hz, _⟩ := hl.at_ _ h
  have rec_ := in_loop (A := A) hl _ 0 rfl s h (by simpa using fin)
  obtain ⟨hp, g, d, tk, os⟩ := s
  wp_walk using wpAny_loadPart' hg
  exact ⟨plainId_quiet plain_contains_loop _, codeAny_builtin entry_contains_loop (by
    rw [Around.under_plainId plain_contains_loop _]
    exact rec_)⟩
theorem call_in {l : Addr} {x : Value} {J : Shared → Prop} {bs : List Bool} {Q : Value → Shared → Prop} (hl : Asks prog w A E l x J bs) {s : Shared} (h : J s) (fin : ∀ s', J s' → Q (.bool (bs.any id)) s') :
    wpAny (model prog w) A (call (.builtin "list.__contains__") [.ref l, x]) Q E s := by
  obtain ⟨items, n, hg, _, _⟩ := hl.at_ _ h
  exact GQ.call_here F.slot_list_contains ⟨_, hg, rfl⟩ F.entry_list_contains (F.args_list_contains_2 _ _) (in_list (R := wants Q E) hl h fin)
theorem op_in_ {l : Addr} {x : Value} {J : Shared → Prop} {bs : List Bool} {Q : Value → Shared → Prop} (hl : Asks prog w A E l x J bs) {s : Shared} (h : J s) (fin : ∀ s', J s' → Q (.bool (bs.any id)) s') :
    wpAny (model prog w) A (compareOp .In x (.ref l)) Q E s := by
  obtain ⟨items, n, hg, _, _⟩ := hl.at_ _ h
  show wpAny _ _ (do return .bool (← contains (.ref l) x)) Q E s
  refine wpAny_bind (wpAny_contains_slot ⟨_, hg, rfl⟩ F.slot_list_contains ?_)
  exact call_in hl h fun s' j => wpAny_truthy_bool (wpAny_pure (fin s' j))
theorem op_notIn_ {l : Addr} {x : Value} {J : Shared → Prop} {bs : List Bool} {Q : Value → Shared → Prop} (hl : Asks prog w A E l x J bs) {s : Shared} (h : J s) (fin : ∀ s', J s' → Q (.bool (!bs.any id)) s') :
    wpAny (model prog w) A (compareOp .NotIn x (.ref l)) Q E s := by
  obtain ⟨items, n, hg, _, _⟩ := hl.at_ _ h
  show wpAny _ _ (do return .bool (!(← contains (.ref l) x))) Q E s
  refine wpAny_bind (wpAny_contains_slot ⟨_, hg, rfl⟩ F.slot_list_contains ?_)
  exact call_in hl h fun s' j => wpAny_truthy_bool (wpAny_pure (fin s' j))
end
end Hr

namespace Hr
open PySem PySem.Spec PyProof.Rows L2
/-! ### t[::-1] of a tuple -/
section
variable {prog : Program} {w : World} {A : Around} {E : Value → Shared → Prop} {s : Shared}
theorem rev_adj (n : Nat) : Builtin.Slice.sliceAdjust none none (-1) (n : Int) = ((n : Int) - 1, -1) := rfl
theorem rev_places (n : Nat) : Builtin.Slice.slicePlaces ((n : Int) - 1) (-1) (-1) = n := by
  unfold Builtin.Slice.slicePlaces
  rw [if_neg (by decide)]
  by_cases h : (n : Int) - 1 > -1
  · rw [if_pos h, show (-(-1) : Int) = 1 by decide, Int.ediv_one]; omega
  · rw [if_neg h]; omega
theorem rev_pick (xs : Array Value) : ((List.range xs.size).filterMap fun (m : Nat) => xs[((xs.size : Int) - 1 + (m : Int) * -1).toNat]?).toArray = xs.toList.reverse.toArray := by
  congr 1
  have key : ∀ m, m < xs.size → xs[((xs.size : Int) - 1 + (m : Int) * -1).toNat]? = xs.toList.reverse[m]? := fun m hm => by
    rw [List.getElem?_reverse (by simpa using hm), Array.length_toList, ← Array.getElem?_toList]
    congr 1
    omega
  have aux : ∀ (l : List Value), (List.range l.length).filterMap (fun m => l[m]?) = l := fun l => by
    induction l with
    | nil => rfl
    | cons x r ih =>
      rw [List.length_cons, List.range_succ_eq_map, List.filterMap_cons]
      show x :: _ = _
      rw [List.filterMap_map]
      exact congrArg (x :: ·) ih
  have e := aux xs.toList.reverse
  rw [List.length_reverse, Array.length_toList] at e
  have cong : ∀ (f g : Nat → Option Value) (l : List Nat), (∀ m ∈ l, f m = g m) → l.filterMap f = l.filterMap g := fun f g l => by
    induction l with
    | nil => exact fun _ => rfl
    | cons x r ih =>
      intro h
      rw [List.filterMap_cons, List.filterMap_cons, h x List.mem_cons_self, ih fun m hm => h m (List.mem_cons_of_mem _ hm)]
  exact (cong _ _ _ fun m hm => key m (List.mem_range.mp hm)).trans e
theorem getItem_tuple_rev {t sl : Addr} {items : Array Value} {vs : Value} {Q : Value → Shared → Prop} (ht : IsTup s.heap t items) (hs : s.heap.IsSliceOf sl .none .none vs) (ps : IsPart vs (some (-1)))
    (h : Q (.ref s.heap.objs.size) { s with heap := s.heap.push { cls := .type "tuple", data := .seq items.toList.reverse.toArray } }) (hz : items.size ≤ sizeLine) : wpAny (model prog w) A (getItem (.ref t) (.ref sl)) Q E s := by
  have hok : sizeOk (.seq items.toList.reverse.toArray) := by
    show items.toList.reverse.toArray.size ≤ sizeLine
    rw [List.size_toArray, List.length_reverse, Array.length_toList]; exact hz
  obtain ⟨os, hos, hcs, hds⟩ := id hs
  have hT : s.TypeIs (.ref sl) "slice" := ⟨os, hos, hcs⟩
  unfold getItem
  try with_reducible refine wpAny_holding ?_
  first | refine wpAny_bind (wpAny_pure ?_) | skip
  refine wpAny_bind (wpAny_sequenceKey ht.typeIs (by decide) ?_)
  refine wpAny_bind (wpAny_callSpecial?_slot (name := Str.ofString "__getitem__") ht.typeIs PyProof.Rows.slot_tuple_getitem
    (wpAny_call_entry PyProof.Rows.slot_tuple_getitem ht.typeIs entry_tuple_getitem ?_ (args_tuple_getitem _ _)))
  show wpAny _ _ (Builtin.Tuple.tupleItemsOf (.ref t) >>= _) _ _ s
  refine wpAny_bind (tupleItemsOf_ ht ?_)
  refine wpAny_bind (wpAny_typeOf hT ?_)
  rw [if_pos (by decide)]
  have happ : ∀ {Q' : Int × Int × Nat → Shared → Prop} {E' : Value → Shared → Prop} {A' : Around}, Q' ((items.size : Int) - 1, -1, items.size) s → wpAny (model prog w) A' (Builtin.Slice.sliceApplied (.ref sl) (pure (items.size : Int))) Q' E' s := fun {Q' E' A'} q => by
    unfold Builtin.Slice.sliceApplied Builtin.Slice.sliceFields
    refine wpAny_bind (wpAny_bind (wpAny_field hos hds (x := .none) rfl (wpAny_bind (wpAny_field hos hds (x := .none) rfl (wpAny_bind (wpAny_field hos hds (x := vs) rfl (wpAny_pure ?_)))))))
    cases ps with
    | int i u =>
      refine wpAny_bind (slicePart_int ?_)
      show wpAny _ _ (if ((-1 : Int) == 0) = true then _ else _) _ _ s
      rw [if_neg (by decide)]
      refine wpAny_bind (slicePart_none (wpAny_bind (slicePart_none (wpAny_bind (wpAny_pure ?_)))))
      show wpAny _ _ (match Builtin.Slice.sliceAdjust none none (-1) (items.size : Int) with | (lo, hi) => pure (lo, (-1 : Int), Builtin.Slice.slicePlaces lo hi (-1))) _ _ s
      rw [rev_adj]
      show wpAny _ _ (pure ((items.size : Int) - 1, (-1 : Int), Builtin.Slice.slicePlaces ((items.size : Int) - 1) (-1) (-1))) _ _ s
      rw [rev_places]
      exact wpAny_pure q
  refine wpAny_bind (happ ?_)
  show wpAny _ _ (if (((items.size : Int) - 1) == 0 && (-1 : Int) == 1 && items.size == items.size) = true then _ else _) _ _ s
  rw [if_neg (by simp), rev_pick]
  first
    | exact wpAny_bind (m := Builtin.Tuple.tupleExact _) (wpAny_newObj_type (wpAny_pure ⟨_, rfl, wpAny_pure h⟩) hok)
    | exact wpAny_bind (m := Builtin.Tuple.tupleExact _) (wpAny_newObj_type (wpAny_bind (wpAny_pure (wpAny_pure ⟨_, rfl, wpAny_pure h⟩))) hok)
    | exact wpAny_bind (wpAny_bind (m := Builtin.Tuple.tupleExact _) (wpAny_newObj_type (wpAny_pure (wpAny_pure ⟨_, rfl, wpAny_pure h⟩)) hok))
    | exact wpAny_bind (wpAny_bind (m := Builtin.Tuple.tupleExact _) (wpAny_newObj_type (wpAny_pure ⟨_, rfl, wpAny_pure h⟩) hok))
end
def tRevT (K : PySem.W.Frag) (te : TE) : TE := fun σ H Q => te σ H fun x H1 => ∃ a xs, x = .ref a ∧ SqT K H1 a xs ∧ ∀ p, H1 p = none → Q (.ref p) (upd H1 p (.tup xs.reverse))
theorem pe_revT {X : Cx} {e : Expr} {te : TE} {k : Nat} {p1 p2 p3 pos : Pos} (he : PE X e te) : PE X (.Subscript e (.Slice none none (some (.UnaryOp .USub (.Constant (.int 1) k p1) p2)) p3) pos) (tRevT X.K te) := by
  refine ⟨fun pins s σ H Q I h => ?_⟩
  refine Subscript_ (thn (he.run pins s σ H _ I h) fun v s1 ⟨x, H1, I1, r1, a, xs, ex, hx, q⟩ => ?_)
  subst ex
  cases r1
  have part : PO X (some (.UnaryOp .USub (.Constant (.int 1) k p1) p2)) (tPart (tUn (rU fun i => .int (-i)) (tC (.int 1)))) := po_some (pe_un un_neg pe_int)
  refine wpAny_Slice (thn (po_none.run pins s1 σ H1 (fun o H2 => o = none ∧ H2 = H1) I1 ⟨rfl, rfl⟩) fun vl s2 ⟨l, H2, I2, pl, el, e2⟩ => ?_)
  subst el e2
  refine thn (po_none.run pins s2 σ H2 (fun o H3 => o = none ∧ H3 = H2) I2 ⟨rfl, rfl⟩) fun vu s3 ⟨u, H3, I3, pu, eu, e3⟩ => ?_
  subst eu e3
  refine thn (part.run pins s3 σ H3 (fun o H4 => o = some (-1) ∧ H4 = H3) I3 ⟨1, rfl, -1, rfl, rfl, rfl⟩) fun vs s4 ⟨o, H4, I4, ps, eo, e4⟩ => ?_
  subst eo e4
  have I5 : Inv X pins σ H4 { s4 with heap := s4.heap.push { cls := .type "slice", data := .fields #[vl, vu, vs] } } := I4.kept (t' := s4.toks) fun b ob z => Heap.get?_push_of_some _ z
  obtain ⟨its, r, ht, hz⟩ := I5.tuple hx
  have hlen := r.length
  show wpAny (model X.prog X.w) X.A (subscriptTail e (.Slice none none (some (.UnaryOp .USub (.Constant (.int 1) k p1) p2)) p3) (.ref a) (.ref s4.heap.objs.size)) (EP X pins σ Q) X.xe { s4 with heap := s4.heap.push { cls := .type "slice", data := .fields #[vl, vu, vs] } }
  cases pl
  cases pu
  refine tail_any (ops := [.ref a, .ref s4.heap.objs.size]) ht.typeIs PyProof.Rows.slot_tuple_getitem.lookup ?_ (by with_unfolding_all rfl)
  refine getItem_tuple_rev ht (Heap.IsSliceOf.new _ .none .none vs) ps ?_ (by rw [List.size_toArray]; omega)
  refine ⟨.ref _, _, I5.laid (t' := s4.toks) (o := .tup xs.reverse) (fun b ob z => Heap.get?_push_of_some _ z) (Nat.le_refl _) ?_, rfl, q _ (I5.hok.fresh (Nat.le_refl _))⟩
  exact ⟨by rw [List.length_reverse]; exact hz, its.toArray.toList.reverse, by simpa using r.reverse, IsTup.new _ _⟩
end Hr

namespace Hr
open PySem PySem.Spec PyProof.Rows
/-! ### max(xs, default=d) -/
section
variable {prog : Program} {w : World} {A : Around} {R : Result → Shared → Prop} {I : Addr} {fp wr : List Addr} {n : Nat} {P : Nat → Value → Prop} {St : Nat → Heap → Prop} {kw : List (Str × Value)}
theorem max_loopK (W : Walks prog w A.in1 I fp wr n P St) (bt : Nat → Nat → Bool) (hcmp : CmpOf prog w A.in1 .Gt P bt) (S : Addr) (hSf : S ∉ fp) :
    ∀ (k j : Nat) (s : Shared) (vb : Value) (c : Nat), n - (j + 1) = k → j + 1 ≤ n → St (j + 1) s.heap → P (argBest bt j) vb →
    s.heap.get? S = some { cls := .type "list", dict := none, data := .seq #[vb, vb] c, slots := #[] } →
    (∀ v h' tk, P (argBest bt (n - 1)) v → (∀ b o, b ∉ wr → b ≠ S → s.heap.get? b = some o → h'.get? b = some o) → R (.ok (.ret v)) { s with heap := h', toks := tk }) →
    codeAny (model prog w) A (.builtin "max.loop" ⟨[.ref I, .none, .ref S], kw⟩) R s := by
  have hSw : S ∉ wr := fun h => hSf (W.sub _ h)
  have nm : (toString "max" ++ toString ".loop" : String) = "max.loop" := by decide
  intro k
  induction k with
  | zero =>
    intro j s vb c hk hj hst hPb hS hR
    have hin : j + 1 = n := by omega
    refine codeAny_builtin F.entry_max_loop ?_
    rw [Around.under_plainId F.plain_max_loop _]
    show wpAny _ A.in1 (seqItems? (.ref S) >>= _) _ _ s
    refine wpAny_bind (wpAny_seqItems hS rfl ?_)
    show wpAny _ A.in1 (tryCatch (pyNext (.ref I)) _ >>= _) _ _ s
    refine wpAny_bind (wpAny_tryCatch (W.done s _ _ (hin ▸ hst) fun h' tk hk' => ?_))
    have hS' := hk' S _ hSw hS
    show wpAny _ A.in1 (updateSeq S (fun _ => #[]) >>= _) _ _ _
    refine wpAny_bind ?_
    refine wpAny_updateSeq hS' rfl (wpAny_bind (wpAny_letGo (wpAny_pure ?_)))
    exact hR vb _ tk (by rw [← hin]; exact hPb) fun b o hbw hbS e => (Heap.get?_update_other _ _ (Ne.symm hbS)).trans (hk' b o hbw e)
  | succ k ih =>
    intro j s vb c hk hj hst hPb hS hR
    have hlt : j + 1 < n := by omega
    refine codeAny_builtin F.entry_max_loop ?_
    rw [Around.under_plainId F.plain_max_loop _]
    show wpAny _ A.in1 (seqItems? (.ref S) >>= _) _ _ s
    refine wpAny_bind (wpAny_seqItems hS rfl ?_)
    show wpAny _ A.in1 (tryCatch (pyNext (.ref I)) _ >>= _) _ _ s
    refine wpAny_bind (wpAny_tryCatch (W.item (j + 1) s _ _ hlt hst fun v h' tk hP hst' hk' => ?_))
    have hS' := hk' S _ hSw hS
    show wpAny _ A.in1 (tryCatch (holding [v, v] (richCompare .Gt v vb >>= _)) _ >>= _) _ _ _
    refine wpAny_bind (wpAny_tryCatch (wpAny_holding (wpAny_bind (hcmp (j + 1) (argBest bt j) v vb _ _ _ hP hPb ?_))))
    refine wpAny_bind (wpAny_holding (wpAny_truthy_bool ?_))
    refine wpAny_bind (wpAny_letGo (wpAny_pure ?_))
    cases hb : bt (j + 1) (argBest bt j) with
    | true =>
      simp only [if_true]
      refine wpAny_bind ?_
      refine wpAny_updateSeq hS' rfl (wpAny_bind (wpAny_letGo ?_))
      rw [nm]
      refine wpAny_pure ⟨plainId_quiet F.plain_max_loop _, ih (j + 1) _ v _ (by omega) hlt (W.frame _ _ _ hst' fun b hbf o e => ?_) (by simp only [argBest, hb, if_true]; exact hP) (Heap.get?_update_self _ hS' rfl)
        fun v' h'' tk'' hP' hk'' => ?_⟩
      · exact (Heap.get?_update_other _ _ (fun h : S = b => hSf (by rw [h]; exact hbf))).trans e
      · exact hR v' h'' tk'' hP' fun b o hbw hbS e => hk'' b o hbw hbS ((Heap.get?_update_other _ _ (Ne.symm hbS)).trans (hk' b o hbw e))
    | false =>
      simp only [Bool.false_eq_true, if_false]
      refine wpAny_bind (wpAny_letGo ?_)
      rw [nm]
      refine wpAny_pure ⟨plainId_quiet F.plain_max_loop _, ih (j + 1) _ vb c (by omega) hlt hst' (by simp only [argBest, hb, Bool.false_eq_true, if_false]; exact hPb) hS' fun v' h'' tk'' hP' hk'' => ?_⟩
      exact hR v' h'' tk'' hP' fun b o hbw hbS e => hk'' b o hbw hbS (hk' b o hbw e)
theorem max_firstK (W : Walks prog w A.in1 I fp wr n P St) (bt : Nat → Nat → Bool) (hcmp : CmpOf prog w A.in1 .Gt P bt) (S : Addr) (hSf : S ∉ fp) (hn : 0 < n) {s : Shared} {c : Nat} (hst : St 0 s.heap)
    (hS : s.heap.get? S = some { cls := .type "list", dict := none, data := .seq #[] c, slots := #[] })
    (hR : ∀ v h' tk, P (argBest bt (n - 1)) v → (∀ b o, b ∉ wr → b ≠ S → s.heap.get? b = some o → h'.get? b = some o) → R (.ok (.ret v)) { s with heap := h', toks := tk }) :
    codeAny (model prog w) A (.builtin "max.loop" ⟨[.ref I, .none, .ref S], kw⟩) R s := by
  have hSw : S ∉ wr := fun h => hSf (W.sub _ h)
  have nm : (toString "max" ++ toString ".loop" : String) = "max.loop" := by decide
  refine codeAny_builtin F.entry_max_loop ?_
  rw [Around.under_plainId F.plain_max_loop _]
  show wpAny _ A.in1 (seqItems? (.ref S) >>= _) _ _ s
  refine wpAny_bind (wpAny_seqItems hS rfl ?_)
  show wpAny _ A.in1 (tryCatch (pyNext (.ref I)) _ >>= _) _ _ s
  refine wpAny_bind (wpAny_tryCatch (W.item 0 s _ _ hn hst fun v h' tk hP hst' hk' => ?_))
  have hS' := hk' S _ hSw hS
  show wpAny _ A.in1 (updateSeq S (fun _ => #[v, v]) >>= _) _ _ _
  refine wpAny_bind ?_
  refine wpAny_updateSeq hS' rfl ?_
  rw [nm]
  refine wpAny_pure ⟨plainId_quiet F.plain_max_loop _, max_loopK W bt hcmp S hSf _ 0 _ v _ rfl hn (W.frame _ _ _ hst' fun b hbf o e => ?_) hP (Heap.get?_update_self _ hS' rfl) fun v' h'' tk'' hP' hk'' => ?_⟩
  · exact (Heap.get?_update_other _ _ (fun h : S = b => hSf (by rw [h]; exact hbf))).trans e
  · exact hR v' h'' tk'' hP' fun b o hbw hbS e => hk'' b o hbw hbS ((Heap.get?_update_other _ _ (Ne.symm hbS)).trans (hk' b o hbw e))
/-- nothing there: the default -/
theorem max_noneK {d : Value} (W : Walks prog w A.in1 I fp wr 0 P St) (S : Addr) (hSf : S ∉ fp) {s : Shared} {c : Nat} (hst : St 0 s.heap)
    (hS : s.heap.get? S = some { cls := .type "list", dict := none, data := .seq #[] c, slots := #[] })
    (hR : ∀ h' tk, (∀ b o, b ∉ wr → b ≠ S → s.heap.get? b = some o → h'.get? b = some o) → R (.ok (.ret d)) { s with heap := h', toks := tk }) :
    codeAny (model prog w) A (.builtin "max.loop" ⟨[.ref I, .none, .ref S], [(Str.ofString "default", d)]⟩) R s := by
  refine codeAny_builtin F.entry_max_loop ?_
  rw [Around.under_plainId F.plain_max_loop _]
  show wpAny _ A.in1 (seqItems? (.ref S) >>= _) _ _ s
  refine wpAny_bind (wpAny_seqItems hS rfl ?_)
  show wpAny _ A.in1 (tryCatch (pyNext (.ref I)) _ >>= _) _ _ s
  refine wpAny_bind (wpAny_tryCatch (W.done s _ _ hst fun h' tk hk' => ?_))
  exact wpAny_bind (wpAny_rule (wpAny_pure (hR h' tk fun b o hbw _ e => hk' b o hbw e)))
end
theorem max_default_args (a v : Value) : argsOk "max" ⟨[a], [(Str.ofString "default", v)]⟩ := by unfold argsOk; kernel_rfl
section
variable {prog : Program} {w : World} {A : Around} {E : Value → Shared → Prop} {s : Shared}
theorem call_maxD {l : Addr} {xs : Array (Int × Tok)} {d : Value} {Q : Value → Shared → Prop} (hh : A.handled = none) (hl : s.heap.IsList l (intItems xs))
    (h : ∀ v h' tk, (xs.size = 0 ∧ v = d ∨ 0 < xs.size ∧ (intItems xs)[argBest (fun i j => decide (numAt xs i > numAt xs j)) (xs.size - 1)]? = some v) → (∀ b o, s.heap.get? b = some o → h'.get? b = some o) → Q v { s with heap := h', toks := tk }) :
    wpAny (model prog w) A (call (.builtin "max") [.ref l] [(Str.ofString "default", d)]) Q E s := by
  have nm : (toString "max" ++ toString ".loop" : String) = "max.loop" := by decide
  refine PyProof.Rows.kmk_tree F.kind_max F.plain_max F.entry_max (max_default_args _ _) ?_
  show wpAny _ A.in1 (Builtin.Builtins.bindParams "max" ["key", "default"] 0 ⟨[], [(Str.ofString "default", d)]⟩ >>= _) _ _ s
  refine wpAny_bind (wpAny_of_eq (show Builtin.Builtins.bindParams "max" ["key", "default"] 0 ⟨[], [(Str.ofString "default", d)]⟩ = pure [none, some d] from rfl) ?_)
  refine wpAny_bind (wpAny_pure ?_)
  refine wpAny_bind (iter_intList hl fun s₂ e st hfp hlI => ?_)
  subst e
  refine wpAny_bind (wpAny_newObj_type ?_)
  have W := Walks.list (prog := prog) (w := w) (A := A.in1) hh s.heap.objs.size l hlI (intItems xs)
  have hSf : (s.heap.push { cls := .type "list_iterator", data := .fields #[.ref l, .int 0 0] }).objs.size ∉ [s.heap.objs.size, l] := fun hm => Nat.lt_irrefl _ (hfp _ hm)
  have hz : (intItems xs).size = xs.size := by simp [intItems]
  rw [nm]
  refine wpAny_pure ⟨plainId_quiet F.plain_max_loop _, ?_⟩
  have fin : ∀ v h' tk, (xs.size = 0 ∧ v = d ∨ 0 < xs.size ∧ (intItems xs)[argBest (fun i j => decide (numAt xs i > numAt xs j)) (xs.size - 1)]? = some v) →
      (∀ b o, b ∉ [s.heap.objs.size] → b ≠ (s.heap.push { cls := .type "list_iterator", data := .fields #[.ref l, .int 0 0] }).objs.size →
        ((s.heap.push { cls := .type "list_iterator", data := .fields #[.ref l, .int 0 0] }).push { cls := .type "list", data := .seq #[] }).get? b = some o → h'.get? b = some o) →
      wants Q E (.ok (.ret v)) { s with heap := h', toks := tk } := fun v h' tk hv hk => by
    refine h v h' tk hv (old_kept (l := l) fun b o hb e => ?_)
    exact hk b o hb (Nat.ne_of_lt (Heap.lt_size e)) (Heap.get?_push_of_some _ e)
  by_cases hn : 0 < xs.size
  · refine max_firstK W _ (CmpOf.ints_gt (numAt xs) (fun _ _ => intItems_at)) _ hSf (by rw [hz]; exact hn) (W.frame _ _ _ st fun b _ o e => Heap.get?_push_of_some _ e) (Heap.get?_push_size _ rfl) fun v h' tk hP hk => ?_
    exact fin v h' tk (.inr ⟨hn, by rw [hz] at hP; exact hP⟩) hk
  · have hn0 : xs.size = 0 := by omega
    have W0 : Walks prog w A.in1 s.heap.objs.size [s.heap.objs.size, l] [s.heap.objs.size] 0 (fun i v => (intItems xs)[i]? = some v) (fun i h => h.IsListIter s.heap.objs.size l i ∧ h.IsList l (intItems xs)) := by
      have W' := W
      rw [hz, hn0] at W'
      exact W'
    refine max_noneK W0 _ hSf (W.frame _ _ _ st fun b _ o e => Heap.get?_push_of_some _ e) (Heap.get?_push_size _ rfl) fun h' tk hk => ?_
    exact fin d h' tk (.inl ⟨hn0, rfl⟩) hk
end
end Hr

namespace Hr
open PySem PySem.Spec PyProof.Rows L2
def rMaxD (K : PySem.W.Frag) : List V → List V → Hp → VK → Prop := fun vs zs H Q => ∃ (a : Addr) (ns : List Int) (d : Int), vs = [.ref a] ∧ zs = [.int d] ∧ SqL K H a (ns.map V.int) ∧
  ∀ m, (ns = [] → m = d) → (ns ≠ [] → m ∈ ns ∧ ∀ k ∈ ns, k ≤ m) → Q (.int m) H
theorem call_maxDK {X : Cx} (hc : X.calm = true) : CallRK X (.builtin "max") [Str.ofString "default"] (rMaxD X.K) := by
  intro pins s σ H xs zs us ws Q I r1 r2 h
  obtain ⟨a, ns, d, rfl, rfl, hs, q⟩ := h
  obtain ⟨its, rv, pl, hz⟩ := I.list hs
  rw [Vals.ref1 r1]
  obtain ⟨wd, rfl, rd⟩ := vals1 r2
  obtain ⟨td, rfl⟩ := rd
  have hi : IntsAre its ns := intsAre_of rv
  obtain ⟨ps, e⟩ := hi.allInts.items
  have hns : ns = ps.toList.map (·.1) := by rw [← hi.numsOf, ← nums_intItems, ← e]
  have hl := pl.isList
  rw [e] at hl
  show wpAny (model X.prog X.w) X.A (call (.builtin "max") [.ref a] [(Str.ofString "default", .int d td)]) (EP X pins σ Q) X.xe s
  refine call_maxD (I.ok.hd hc) hl fun v h' tk hv hk => ?_
  have I2 : Inv X pins σ H { s with heap := h', toks := tk } := I.kept fun b o z => hk b o z
  rcases hv with ⟨h0, rfl⟩ | ⟨hp, hv⟩
  · have hn0 : ns = [] := by
      rw [hns, List.map_eq_nil_iff]
      exact List.eq_nil_of_length_eq_zero (by rw [Array.length_toList]; exact h0)
    exact ⟨.int d, H, I2, ⟨_, rfl⟩, q d (fun _ => rfl) (fun z => absurd hn0 z)⟩
  · obtain ⟨t, rfl⟩ := intItems_at hv
    obtain ⟨h1, h2⟩ := argBest_gt (numAt ps) (ps.size - 1)
    refine ⟨.int _, H, I2, ⟨_, rfl⟩, q _ (fun z => ?_) fun _ => ⟨?_, fun k hk' => ?_⟩⟩
    · rw [hns, List.map_eq_nil_iff] at z
      have z2 : ps.size = 0 := by rw [← Array.length_toList, z]; rfl
      omega
    · rw [hns, numAt_eq]; exact getD_mem (by rw [List.length_map, Array.length_toList]; omega)
    · rw [hns] at hk'
      obtain ⟨j, hj, rfl⟩ := mem_getD hk'
      rw [List.length_map, Array.length_toList] at hj
      rw [← numAt_eq]; exact h2 j (by omega)
/-! ### plain data with atoms -/
inductive D where
  | non | bl (b : Bool) | int (i : Int) | str (s : Str) | tup (ds : List D) | lst (ds : List D) | dct | atom (k : Str) (ds : List D)
mutual
def rank : D → Nat
  | .tup ds => rankL ds
  | .atom k ds => if k = "seal" ∨ k = "page" then 1 else rankL ds + 1
  | _ => 0
def rankL : List D → Nat
  | [] => 0
  | d :: ds => max (rank d) (rankL ds)
end
mutual
/-- how many parts there are, those in atoms too -/
def sz : D → Nat
  | .tup ds => szL ds + 1
  | .lst ds => szL ds + 1
  | .atom _ ds => szL ds + 1
  | _ => 1
def szL : List D → Nat
  | [] => 0
  | d :: ds => sz d + szL ds
end
/-- the fields of an atom -/
def atF (k : Str) (t : Addr) (r : Nat) : List (Str × V) := [("kind", .str k), ("term", .ref t), ("rank", .int (r : Int)), ("_stripped", .non)]
mutual
inductive Is (C : Addr) (H : Hp) : V → D → Prop
  | non : Is C H .non .non
  | bl (b : Bool) : Is C H (.bl b) (.bl b)
  | int (i : Int) : Is C H (.int i) (.int i)
  | str (s : Str) : Is C H (.str s) (.str s)
  | tup {a : Addr} {xs : List V} {ds : List D} (h : H a = some (.tup xs)) (t : IsA C H xs ds) : Is C H (.ref a) (.tup ds)
  | lst {a : Addr} {xs : List V} {ds : List D} (h : H a = some (.lst xs)) (t : IsA C H xs ds) : Is C H (.ref a) (.lst ds)
  | dct {a : Addr} {kvs : List (Key × V)} (h : H a = some (.dK kvs)) : Is C H (.ref a) .dct
  | atom {a dx t : Addr} {k : Str} {xs : List V} {ds : List D} (h : H a = some (.ins C dx (atF k t (rank (.atom k ds))))) (h2 : H t = some (.tup xs)) (t : IsA C H xs ds) : Is C H (.ref a) (.atom k ds)
inductive IsA (C : Addr) (H : Hp) : List V → List D → Prop
  | nil : IsA C H [] []
  | cons {x : V} {xs : List V} {d : D} {ds : List D} (h : Is C H x d) (t : IsA C H xs ds) : IsA C H (x :: xs) (d :: ds)
end
mutual
theorem Is.same {C : Addr} {H H' : Hp} (e : Same H H') : ∀ {x : V} {d : D}, Is C H x d → Is C H' x d
  | _, _, .non => .non
  | _, _, .bl b => .bl b
  | _, _, .int i => .int i
  | _, _, .str s => .str s
  | _, _, .tup h t => .tup (e _ _ h) (IsA.same e t)
  | _, _, .lst h t => .lst (e _ _ h) (IsA.same e t)
  | _, _, .dct h => .dct (e _ _ h)
  | _, _, .atom h h2 t => .atom (e _ _ h) (e _ _ h2) (IsA.same e t)
theorem IsA.same {C : Addr} {H H' : Hp} (e : Same H H') : ∀ {xs : List V} {ds : List D}, IsA C H xs ds → IsA C H' xs ds
  | _, _, .nil => .nil
  | _, _, .cons h t => .cons (Is.same e h) (IsA.same e t)
end
theorem IsA.len {C : Addr} {H : Hp} : ∀ {xs : List V} {ds : List D}, IsA C H xs ds → xs.length = ds.length
  | _, _, .nil => rfl
  | _, _, .cons _ t => congrArg (· + 1) t.len
theorem IsA.at {C : Addr} {H : Hp} : ∀ {xs : List V} {ds : List D} {i : Nat} {x : V}, IsA C H xs ds → xs[i]? = some x → ∃ d, ds[i]? = some d ∧ Is C H x d
  | _, _, _, _, .nil, h => by simp at h
  | _, _, 0, _, .cons h _, e => by simp at e; subst e; exact ⟨_, rfl, h⟩
  | _, _, i + 1, _, .cons _ t, e => by
    obtain ⟨d, h1, h2⟩ := IsA.at (i := i) t (by simpa using e)
    exact ⟨d, by simpa using h1, h2⟩
theorem IsA.get {C : Addr} {H : Hp} : ∀ {xs : List V} {ds : List D} {i : Nat} {d : D}, IsA C H xs ds → ds[i]? = some d → ∃ x, xs[i]? = some x ∧ Is C H x d
  | _, _, _, _, .nil, h => by simp at h
  | _, _, 0, _, .cons h _, e => by simp at e; subst e; exact ⟨_, rfl, h⟩
  | _, _, i + 1, _, .cons _ t, e => by
    obtain ⟨d, h1, h2⟩ := IsA.get (i := i) t (by simpa using e)
    exact ⟨d, by simpa using h1, h2⟩
theorem IsA.app {C : Addr} {H : Hp} : ∀ {xs ys : List V} {ds es : List D}, IsA C H xs ds → IsA C H ys es → IsA C H (xs ++ ys) (ds ++ es)
  | _, _, _, _, .nil, t => t
  | _, _, _, _, .cons h u, t => .cons h (u.app t)
theorem IsA.rev {C : Addr} {H : Hp} : ∀ {xs : List V} {ds : List D}, IsA C H xs ds → IsA C H xs.reverse ds.reverse
  | _, _, .nil => .nil
  | _, _, .cons h t => by
    rw [List.reverse_cons, List.reverse_cons]
    exact t.rev.app (.cons h .nil)
theorem IsA.concat {C : Addr} {H : Hp} : ∀ {xs : List V} {ds : List D} {e : D}, IsA C H xs (ds.concat e) → ∃ ys y, xs = ys ++ [y] ∧ IsA C H ys ds ∧ Is C H y e
  | _, [], _, .cons h .nil => ⟨[], _, rfl, .nil, h⟩
  | _, d :: ds, e, .cons h t => by
    obtain ⟨ys, y, e1, h1, h2⟩ := IsA.concat (ds := ds) (e := e) t
    exact ⟨_ :: ys, y, by rw [e1]; rfl, .cons h h1, h2⟩
theorem rankL_app : ∀ (a b : List D), rankL (a ++ b) = max (rankL a) (rankL b)
  | [], b => by simp [rankL]
  | x :: a, b => by rw [List.cons_append]; simp only [rankL]; rw [rankL_app a b]; omega
theorem szL_app : ∀ (a b : List D), szL (a ++ b) = szL a + szL b
  | [], b => by simp [szL]
  | x :: a, b => by rw [List.cons_append]; simp only [szL]; rw [szL_app a b]; omega
theorem szL_rev : ∀ (a : List D), szL a.reverse = szL a
  | [] => rfl
  | x :: a => by rw [List.reverse_cons, szL_app, szL_rev a]; simp only [szL]; omega
theorem sz_pos (d : D) : 1 ≤ sz d := by cases d <;> simp [sz]
theorem len_szL : ∀ (a : List D), a.length ≤ szL a
  | [] => Nat.le_refl _
  | x :: a => by
    have := len_szL a
    have := sz_pos x
    simp only [szL, List.length_cons]; omega
/-! ### kinds of values -/
def kyV (C : Addr) : D → V
  | .non => .ty "NoneType" | .bl _ => .ty "bool" | .int _ => .ty "int" | .str _ => .ty "str" | .tup _ => .ty "tuple" | .lst _ => .ty "list" | .dct => .ty "dict" | .atom _ _ => .ref C
def kyU (C : Addr) : D → Value
  | .non => .type "NoneType" | .bl _ => .type "bool" | .int _ => .type "int" | .str _ => .type "str" | .tup _ => .type "tuple" | .lst _ => .type "list" | .dct => .type "dict" | .atom _ _ => .ref C
def rTyA (C : Addr) : List V → Hp → VK → Prop := fun xs H Q => ∃ x d, xs = [x] ∧ Is C H x d ∧ Q (kyV C d) H
/-- what is known of the class at C -/
structure Cl (K : PySem.W.Frag) (C : Addr) : Prop where
  cl : Cls K C
  ha : PySem.W.findIn K (.ref C) "__class__" = some (some (.builtin "object.__class__"))
  hn : PySem.W.specialIn K (.builtin "object.__class__") "__get__" = some (some (.builtin "getset_descriptor.__get__"))
  htk : PySem.W.takesIn K (.builtin "object.__class__") = some true
  hm : PySem.W.mroIn K C (.type "object") = some true
  me : PySem.W.kitOne K (.ref C) (.ref C) = some true
  mi : PySem.W.makesIn K C = true
  nK : NoAttr K C "kind"
  nT : NoAttr K C "term"
  nR : NoAttr K C "rank"
  nS : NoAttr K C "_stripped"
section
variable {X : Cx} {C : Addr}
theorem Is.tyX {K : PySem.W.Frag} {H : Hp} (T : Cl K C) {x : V} {d : D} (h : Is C H x d) : TyX K H x (kyU C d) := by
  cases h with
  | non => exact .base .non
  | bl b => exact .base (.bl b)
  | int i => exact .base (.int i)
  | str s => exact .base (.str s)
  | tup h _ => exact .base (.tup h)
  | lst h _ => exact .base (.lst h)
  | dct h => exact .base (.dK h)
  | atom h _ _ => exact .base (.ins h T.cl T.ha T.hn T.htk T.hm)
theorem call_typeA : CallR X (.type "type") (rTyA C) := fun pins s σ H xs us Q I r h => by
  obtain ⟨x, d, e, t, q⟩ := h
  cases t with
  | non => exact call_type1 pins s σ H xs us Q I r ⟨_, _, e, .non, q⟩
  | bl b => exact call_type1 pins s σ H xs us Q I r ⟨_, _, e, .bl b, q⟩
  | int i => exact call_type1 pins s σ H xs us Q I r ⟨_, _, e, .int i, q⟩
  | str z => exact call_type1 pins s σ H xs us Q I r ⟨_, _, e, .str z, q⟩
  | tup h _ => exact call_type1 pins s σ H xs us Q I r ⟨_, _, e, .tup (SqT.of h), q⟩
  | lst h _ => exact call_type1 pins s σ H xs us Q I r ⟨_, _, e, .lst (SqL.of h), q⟩
  | dct h => exact call_type1 pins s σ H xs us Q I r ⟨_, _, e, .dK h, q⟩
  | atom h _ _ => exact cr_type pins s σ H xs us Q I r ⟨_, _, _, _, e, h, q⟩
/-- a type is a type: of built-in ones, and of the class at C -/
def TyOk (C : Addr) (x : V) : Prop := (∃ n, x = .ty n) ∨ x = .ref C
def rIsTyA (C : Addr) : R2 := fun x y H Q => TyOk C x ∧ TyOk C y ∧ Q (.bl (decide (x = y))) H
def rIsNotTyA (C : Addr) : R2 := fun x y H Q => TyOk C x ∧ TyOk C y ∧ Q (.bl (!decide (x = y))) H
theorem kyV_ok (d : D) : TyOk C (kyV C d) := by cases d <;> first | exact .inl ⟨_, rfl⟩ | exact .inr rfl
theorem op_isTyA : OpR X (compareOp .Is) (rIsTyA C) := by
  intro pins s σ H x y v u Q I rx ry h
  obtain ⟨hx, hy, q⟩ := h
  rcases hx with ⟨m, rfl⟩ | rfl <;> rcases hy with ⟨n, rfl⟩ | rfl
  · exact op_isTy pins s σ H _ _ v u Q I rx ry ⟨m, n, rfl, rfl, by simpa using q⟩
  · cases (show v = Value.type m from rx)
    cases (show u = Value.ref _ from ry)
    exact wpAny_is_other rfl (fun z => nomatch z) ⟨.bl false, H, I, rfl, by simpa using q⟩
  · cases (show v = Value.ref _ from rx)
    cases (show u = Value.type n from ry)
    exact wpAny_is_other rfl (fun z => nomatch z) ⟨.bl false, H, I, rfl, by simpa using q⟩
  · exact op_is_cls pins s σ H _ _ v u Q I rx ry ⟨C, C, rfl, rfl, .inl rfl, by simpa using q⟩
theorem op_isNotTyA : OpR X (compareOp .IsNot) (rIsNotTyA C) := by
  intro pins s σ H x y v u Q I rx ry h
  obtain ⟨hx, hy, q⟩ := h
  rcases hx with ⟨m, rfl⟩ | rfl <;> rcases hy with ⟨n, rfl⟩ | rfl
  · exact op_isNotTy pins s σ H _ _ v u Q I rx ry ⟨m, n, rfl, rfl, by simpa using q⟩
  · cases (show v = Value.type m from rx)
    cases (show u = Value.ref _ from ry)
    exact wpAny_isNot_other rfl (fun z => nomatch z) ⟨.bl true, H, I, rfl, by simpa using q⟩
  · cases (show v = Value.ref _ from rx)
    cases (show u = Value.type n from ry)
    exact wpAny_isNot_other rfl (fun z => nomatch z) ⟨.bl true, H, I, rfl, by simpa using q⟩
  · exact op_isnot_cls pins s σ H _ _ v u Q I rx ry ⟨C, C, rfl, rfl, .inl rfl, by simpa using q⟩
/-- isinstance(x, c): c a built-in type or the class at C -/
def rIsiA (K : PySem.W.Frag) (C : Addr) : List V → Hp → VK → Prop := fun xs H Q => ∃ x d c u b, xs = [x, c] ∧ Is C H x d ∧ ClsV c u ∧ PySem.W.kitOne K (kyU C d) u = some b ∧ Q (.bl b) H
theorem call_isiA (T : Cl X.K C) : CallR X (.builtin "isinstance") (rIsiA X.K C) := fun pins s σ H xs us Q I r h => by
  obtain ⟨x, d, c, u, b, e, t, k, kt, q⟩ := h
  exact call_isi pins s σ H xs us Q I r ⟨x, c, _, _, b, e, k, t.tyX T, kt, q⟩
end
mutual
theorem Is.uniq {C : Addr} {H : Hp} : ∀ {x : V} {d e : D}, Is C H x d → Is C H x e → d = e
  | _, _, _, .non, .non => rfl
  | _, _, _, .bl _, .bl _ => rfl
  | _, _, _, .int _, .int _ => rfl
  | _, _, _, .str _, .str _ => rfl
  | _, _, _, .tup h t, g => by
    cases g with
    | tup h' t' =>
      rw [h] at h'
      cases h'
      rw [IsA.uniq t t']
    | lst h' _ => rw [h] at h'; cases h'
    | dct h' => rw [h] at h'; cases h'
    | atom h' _ _ => rw [h] at h'; cases h'
  | _, _, _, .lst h t, g => by
    cases g with
    | lst h' t' =>
      rw [h] at h'
      cases h'
      rw [IsA.uniq t t']
    | tup h' _ => rw [h] at h'; cases h'
    | dct h' => rw [h] at h'; cases h'
    | atom h' _ _ => rw [h] at h'; cases h'
  | _, _, _, .dct h, g => by
    cases g with
    | dct h' => rfl
    | tup h' _ => rw [h] at h'; cases h'
    | lst h' _ => rw [h] at h'; cases h'
    | atom h' _ _ => rw [h] at h'; cases h'
  | _, _, _, .atom h h2 t, g => by
    cases g with
    | tup h' _ => rw [h] at h'; cases h'
    | lst h' _ => rw [h] at h'; cases h'
    | dct h' => rw [h] at h'; cases h'
    | atom h' h2' t' =>
      have e := Option.some.inj (h.symm.trans h')
      unfold atF at e
      injection e with e1 e2 e3
      injection e3 with e4 e5
      injection e5 with e6 e7
      have ek := V.str.inj (congrArg Prod.snd e4)
      have et := V.ref.inj (congrArg Prod.snd e6)
      subst ek
      subst et
      rw [h2] at h2'
      cases h2'
      rw [IsA.uniq t t']
theorem IsA.uniq {C : Addr} {H : Hp} : ∀ {xs : List V} {ds es : List D}, IsA C H xs ds → IsA C H xs es → ds = es
  | _, _, _, .nil, .nil => rfl
  | _, _, _, .cons h t, .cons h' t' => by rw [Is.uniq h h', IsA.uniq t t']
end
end Hr

namespace Hr
open PySem PySem.SeqAt PyProof.Rows
open AutoSeq1 (wpAny_loadPart')
open MeetsSeq MeetsSeq2 MeetsSeq3 SeqRoads2
theorem ext_tup (l : Addr) (items : Array Value) (n : Nat) (b : Addr) (items2 : Array Value) (n2 : Nat) (dd : Option Addr) (sl : Array (Option Value)) (hs0 : ¬(!items.isEmpty && Builtin.List.listTooLong (items.size + items2.size)) = true) (hs1 : items.size ≤ sizeLine) (hs2 : items.size + items2.size ≤ sizeLine + 1) :
    Meets (Builtin.«list.extend» ⟨[.ref l, .ref b], []⟩) (fun _ R s => s.heap.get? l = some { cls := .type "list", dict := none, data := .seq items n, slots := #[] } ∧ s.heap.get? b = some { cls := .type "tuple", dict := dd, data := .seq items2 n2, slots := sl } ∧
      R (.ok (.ret Value.none)) { s with heap := s.heap.update l (Obj.mapSeq fun x => x ++ items2), toks := s.toks }) :=
  .of_wp fun prog w A R s h => by
    obtain ⟨hp, g, d, tk, os⟩ := s
    obtain ⟨hl, hb, h⟩ := h
    have g1 := AutoSeq1.sub_tuple_tuple
    have g2 := AutoSeq1.sub_list_list
    have g3 := AutoSeq1.sub_tuple_list
    have g4 := AutoSeq1.sub_list_tuple
    have hz' : (items ++ items2).size ≤ sizeLine + 1 := by rw [Array.size_append]; exact hs2
    wp_walk using (wpAny_updateSeq hl rfl (hz := hs1) (_hz' := hz')), wpAny_loadPart' hl, wpAny_loadPart' hb
    exact ⟨_, rfl, h⟩
end Hr
namespace Hr
open PySem PySem.Spec PyProof.Rows L2
/-- xs.extend(t), t a tuple -/
def rExtT : V → List V → Hp → VK → Prop := fun x vs H Q => ∃ l b xs zs, x = .ref l ∧ vs = [.ref b] ∧ H l = some (.lst xs) ∧ H b = some (.tup zs) ∧ xs.length + zs.length ≤ sizeLine ∧ Q .non (upd H l (.lst (xs ++ zs)))
theorem mt_extendT {X : Cx} : MtM X "list.extend" rExtT := by
  intro pins s σ H x vs v us Q I rx rv h
  obtain ⟨l, b, xs, zs, rfl, rfl, hH, hB, hz, q⟩ := h
  cases rx
  obtain ⟨u, rfl, ru⟩ := rv.one
  cases ru
  obtain ⟨z, its, n, r, hl, e⟩ := I.lstM hH
  obtain ⟨its2, r2, ⟨⟨oc, od, dt, sl⟩, e2, hc2, n2, hd2⟩, hz2⟩ := I.tuple (SqT.of hB)
  simp only at hc2 hd2
  subst hc2 hd2
  have hl2 := r2.length
  have hsz : its.toArray.size + its2.toArray.size ≤ sizeLine := by rw [List.size_toArray, List.size_toArray]; omega
  have hlong : ¬ (!its.toArray.isEmpty && Builtin.List.listTooLong (its.toArray.size + its2.toArray.size)) = true := by
    rw [notLongL hsz, Bool.and_false]
    exact Bool.false_ne_true
  refine call_meets F.slot_list_extend ⟨_, e, rfl⟩ F.entry_list_extend (F.args_list_extend_2 _ _)
    (ext_tup l its.toArray n b its2.toArray n2 od sl hlong (by rw [List.size_toArray]; omega) (by omega)) ⟨e, e2, ?_⟩
  refine ⟨.non, _, I.lset (its' := its ++ its2) hH e (by simp) (r.append r2) ?_, rfl, q⟩
  rw [List.length_append]
  omega
end Hr

/-! .get of a written dict; a def known by another name -/
namespace Hr
open PySem PySem.Spec PyProof.Rows L2
/-- G.get(e), G a written dict at g -/
def tGetW (K : PySem.W.Frag) (g : Addr) (td ty : TE) : TE := fun σ H Q => td σ H fun x H1 => x = .ref g ∧ ty σ H1 fun y H2 => ∃ (z : Str) (r : Option Value), y = .str z ∧ PySem.W.nsIn K g z = some r ∧ (r = none → Q .non H2) ∧ ∀ u, r = some u → ∃ v, RelV v u ∧ Q v H2
theorem pe_getW {X : Cx} {g : Addr} {es : Array DictEntry} {n : Nat} {o e : Expr} {apos cpos : Pos} {td ty : TE} (D : KDict X.K X.w g es n) (ho : PE X o td) (he : PE X e ty) (m : M1 X o "get" apos e cpos := by constructor <;> rfl) : PE X (.Call (.Attribute o "get" apos) [e] [] cpos) (tGetW X.K g td ty) := by
  refine ⟨fun pins s σ H Q I h => wpAny_Call_method m.base m.few m.line PySem.F.plainAttrs_dict PySem.F.slot_dict_get PySem.F.type_dict_get (thn (ho.run pins s σ H _ I h) fun u s1 hh => ?_)⟩
  obtain ⟨x, H1, J, rx, ex, q1⟩ := hh
  subst ex
  cases rx
  refine ⟨kd_type D J, fun b q => ?_, ?_⟩
  · cases q
    exact ⟨_, J.kIn _ _ D.at_, rfl⟩
  rw [m.trees]
  refine Calls.callWith_builtin rfl (Calls.evalArgs_plain (Calls.spliced_cons (thn (he.run pins s1 σ H1 _ J q1) fun iv s2 hk => Calls.spliced_nil ?_)))
  obtain ⟨y, H2, J2, ry, z, r, ez, hr, hn, hs⟩ := hk
  subst ez
  obtain ⟨t, rfl⟩ := ry
  refine call_meetsIn PySem.F.slot_dict_get (kd_type D J2) PySem.F.entry_dict_get (PySem.F.args_dict_get_2 _ _) (meets_dict_get (PySem.strKind X.prog X.w) g (PySem.strKind_is X.prog X.w z t) D.low) ⟨_, PySem.W.mapOf_K (prog := X.prog) J2.kIn D.at_ D.lit, ?_⟩
  rw [PySem.W.find_K D.at_ hr]
  cases r with
  | none => exact ⟨.non, H2, J2.tok _, rfl, hn rfl⟩
  | some v0 =>
    obtain ⟨v, rv, q⟩ := hs v0 rfl
    exact ⟨v, H2, J2.tok _, rv, q⟩
/-- a call without arguments -/
theorem pe_c0 {X : Cx} {k j : Nat} {x : Str} {sp : Sp} {dvs : List V} {q1 q2 : Pos} (c : C8.Cal X.prog X.w X.K X.mg X.base k x sp dvs) (hr : Room j X.A) (hk : k ≤ j) (hg : Gl X x) (hdb : (x == ("__debug__" : Str)) = false := by decide) : PE X (.Call (.Name x q1) [] [] q2) (tCall sp dvs C8.E0 tNil) := by
  obtain ⟨f, fd, ps, ds, F, hm, kp, b, d⟩ := c.ex
  exact pe_call0 F (hr.mono hk) hg hm kp b d C8.pass0 hdb
/-- a def under another name -/
theorem calA {P : Program} {w : World} {K : PySem.W.Frag} {mg : Str → Option Value} {base : Heap} {x y qual : Str} {st : Stmt} {f : Addr} {fd : FuncData} {N ps : List Str} {ds : List Value} {dvs : List V} {k : Nat} {sp : Sp} (F : C8.Fun K x qual st f fd) (hm : mg y = some (.ref f)) (kp : PySem.W.keepIn K (.ref f) = true) (b : Binds K fd ps ds) (d : Vals dvs ds) (S : FnScope N ps (C8.fnScope st)) (len : ∀ vs H Q E, sp vs H Q E → vs.length = ps.length)
    (go : ∀ (cdv : Value) (A : Around) (outer : List Env) (s : Shared) (H : Hp) (vs : List V) (Q : VK) (E : XK), Room k (A.deeper (envOfC qual (C8.fnScope st) s.heap.objs.size f cdv)) → sp vs H Q E →
      ∃ t, PSs (cxOf C8.CX0 P w K mg base N qual (C8.fnScope st) f cdv A outer s H E).nox (C8.fnBody st) t ∧ t { nx := fun _ H' => Q .non H', rt := Q } (L2.start N vs) H) : C8.Cal P w K mg base (k + 1) y sp dvs :=
  ⟨f, fd, ps, ds, C8.fn0 F S len go, hm, kp, b, d⟩
end Hr

namespace Hr
open PySem PySem.Spec PyProof.Rows L2
/-! ### len(set(xs)), xs a list of ints -/
def nDist (ns : List Int) : Nat := (firstMet (fun i => ns.getD i 0) ns.length).length
def tLenSetG (K : PySem.W.Frag) (ta : TE) : TE := fun σ H Q => ta σ H fun x H1 => ∃ (l : Addr) (ns : List Int), x = .ref l ∧ SqL K H1 l (ns.map V.int) ∧ ns.length ≤ 4000 ∧ Q (.int (nDist ns)) H1
theorem pe_lenSetG {X : Cx} {a : Expr} {ta : TE} {p p2 q pos : Pos} (hg : Gl X "len") (hm : X.mg "len" = none) (hg2 : Gl X "set") (hm2 : X.mg "set" = none) (ha : PE X a ta) (hc : X.calm = true := by rfl) (na : starEach [a] X.env = (false, eval a X.env) :: starEach [] X.env := by rfl) :
    PE X (.Call (.Name "len" p) [.Call (.Name "set" p2) [a] [] q] [] pos) (tLenSetG X.K ta) where
  run := fun pins s σ H Q I h => Call_ (ld_blt I hg hm boot_len (callWith_builtin1 (args_cons (Call_ (ld_blt I hg2 hm2 boot_set (callWith_type1 (he := na) (args_cons (he := na) (thn (ha.run pins s σ H _ I h) fun v s1 x => by
    obtain ⟨x1, H1, I1, r1, l, ns, rfl, hq, hl, q1⟩ := x
    cases r1
    refine args_nil ?_
    obtain ⟨its, r, pl, hz⟩ := I1.list hq
    have hlen : its.toArray.size = ns.length := by rw [List.size_toArray, ← r.length, List.length_map]
    refine call_set_list (I1.ok.hd hc) pl.isList (RZ.intsAre_vals r) (by rw [hlen]; exact Nat.lt_of_le_of_lt (show _ ≤ 4001 by omega) (by decide)) fun h' tk hS hk => ?_
    refine args_nil ?_
    rw [hlen] at hS
    obtain ⟨o, es, ep, t, ho, hex, hd, _, _, _, hf, hn⟩ := hS
    have I2 := I1.kept (t' := tk) fun b o e => hk b o (Heap.lt_size e) e
    have hle := firstMet_length_le (fun i => ns.getD i 0) ns.length
    refine call_len_set ho hex hd hf (by rw [hn]; exact Int.lt_of_le_of_lt (show _ ≤ ((4000 : Nat) : Int) by omega) (by decide)) ?_
    exact ⟨.int (nDist ns), H1, I2.tok _, ⟨_, by rw [hn]; rfl⟩, q1⟩))))))))
/-! ### tuple(d), d a dict -/
theorem kdl_collect {prog : Program} {w : World} {A : Around} {E : Value → Shared → Prop} {s : Shared} {T : String} {r d : Addr} {n : Nat} {P : Nat → Value → Prop} {OK : Heap → Prop} {R : List Value → Shared → Prop}
    (K : PySem.W.KdlSrc prog w T r d n P OK) (hh : A.handled = none) (hok : OK s.heap) (hn : n ≤ sizeLine)
    (h : ∀ (h' : Heap) (tk : Nat) (acc : Array Value), (∀ b o, s.heap.get? b = some o → h'.get? b = some o) → ItemsOf P acc n → R acc.toList { heap := h', gens := s.gens, drawn := s.drawn, toks := tk, os := s.os }) :
    wpAny (model prog w) A (collect (.ref r)) R E s := by
  have hlt := K.there s.heap hok
  have hS := Heap.get?_push_size (o := { cls := .type "list", data := .seq #[] }) s.heap rfl
  refine wpAny_bind (wpAny_runValue (codeAny_builtin entry_proto_collect' ?_))
  rw [Around.under_plainId F.plain_proto_collect _]
  refine wpAny_bind (wpAny_newObj_type (wpAny_pure ⟨plainId_quiet F.plain_list_iadd _, codeAny_builtin entry_list_iadd' ?_⟩))
  rw [Around.under_plainId F.plain_list_iadd _]
  have key := PySem.W.kdl_extend (A := A) (s := { heap := s.heap.push { cls := .type "list", data := .seq #[] }, gens := s.gens, drawn := s.drawn, toks := s.toks, os := s.os })
    (R := fun q s' => ∃ h' tk acc c, q = .ok (.ret (.ref s.heap.objs.size)) ∧ s' = { heap := h', gens := s.gens, drawn := s.drawn, toks := tk, os := s.os } ∧ (∀ b o, s.heap.get? b = some o → h'.get? b = some o) ∧ h'.get? s.heap.objs.size = some { cls := .type "list", data := .seq acc c } ∧ ItemsOf P acc n)
    K hh (K.keep s.heap _ hok fun b _ o e => Heap.get?_push_of_some _ e) s.heap.objs.size (Nat.ne_of_gt hlt.1) (Nat.ne_of_gt hlt.2) (.ref s.heap.objs.size) 0 hS
    (fun h' tk acc c hk hS' hi => ⟨h', tk, acc, c, rfl, rfl, fun b o e => hk b o (Nat.ne_of_lt (Heap.lt_size e)) (Heap.get?_push_of_some _ e), hS', hi⟩) hn
  have fin : ∀ (q : Result) (s' : Shared), (∃ h' tk acc c, q = .ok (.ret (.ref s.heap.objs.size)) ∧ s' = { heap := h', gens := s.gens, drawn := s.drawn, toks := tk, os := s.os } ∧ (∀ b o, s.heap.get? b = some o → h'.get? b = some o) ∧ h'.get? s.heap.objs.size = some { cls := .type "list", data := .seq acc c } ∧ ItemsOf P acc n) →
      match q with
      | .ok (.ret v) => wpAny (model prog w) A (match v with
          | .ref a => do
            let o ← load a
            match o.data with | .seq xs _ => pure xs.toList | _ => unsupported "internal:collect"
          | _ => unsupported "internal:collect") R E s'
      | .ok _ => False
      | .error e => E e s' := by
    rintro q s' ⟨h', tk, acc, c, rfl, rfl, hk, hS', hi⟩
    have hl : ({ heap := h', gens := s.gens, drawn := s.drawn, toks := tk, os := s.os } : Shared).heap.get? s.heap.objs.size = some { cls := .type "list", data := .seq acc c } := hS'
    refine wpAny_bind (wpAny_load hl ?_)
    exact wpAny_pure (h h' tk acc hk hi)
  refine wpAny_mono key (fun f s' x => ?_) (fun e s' x => fin _ _ x)
  cases f with
  | done f => exact fin _ _ x
  | again c' => exact ⟨x.1, codeAny_mono x.2 fin⟩
theorem code_tuple_new_kdl {prog : Program} {w : World} {A : Around} {E : Value → Shared → Prop} {s : Shared} {T : String} {r d : Addr} {n : Nat} {P : Nat → Value → Prop} {OK : Heap → Prop} {Q₁ : Value → Shared → Prop}
    (K : PySem.W.KdlSrc prog w T r d n P OK) (hh : A.handled = none) (hok : OK s.heap) (hn : n ≤ sizeLine)
    (h : ∀ (h' : Heap) (tk : Nat) (acc : Array Value), (∀ b o, s.heap.get? b = some o → h'.get? b = some o) → ItemsOf P acc n → Q₁ (.ref h'.objs.size) { heap := h'.push { cls := .type "tuple", data := .seq acc }, gens := s.gens, drawn := s.drawn, toks := tk, os := s.os }) :
    codeAny (model prog w) A (.call (.builtin "tuple.__new__") { pos := [.type "tuple", .ref r] }) (wants Q₁ E) s := by
  refine codeAny_of_tree ?_
  refine wpAny_bind (wpAny_of_eq (F.newCall_tuple_1 _) (wpAny_pure ⟨plainId_quiet F.plain_tuple_new _, codeAny_builtin F.entry_tuple_new ?_⟩))
  rw [Around.under_plainId F.plain_tuple_new _]
  have hTI := K.type s hok
  have nT := K.notTuple
  refine wpAny_bind (wpAny_pure (wpAny_ite_false rfl (wpAny_bind (wpAny_of_eq sub_tuple_self (wpAny_ite_false rfl (wpAny_ite_false rfl (wpAny_bind (wpAny_of_eq madeHere_tuple (wpAny_bind (wpAny_of_eq init_tuple_lookup (wpAny_ite_true rfl (wpAny_bind ?_))))))))))))
  refine id (wpAny_ite_true rfl (wpAny_pure (wpAny_bind ?_)))
  unfold checkCount
  dsimp only
  refine wpAny_ite_false rfl ?_
  refine wpAny_ite_false rfl ?_
  refine wpAny_ite_false rfl ?_
  refine wpAny_pure ?_
  refine wpAny_ite_true rfl (wpAny_bind ?_)
  unfold Builtin.Tuple.tupleIsExact
  refine wpAny_bind (wpAny_typeOf hTI (wpAny_pure (wpAny_ite_false ?_ (wpAny_bind ?_))))
  · rw [nT]; rfl
  refine kdl_collect K hh hok hn fun h' tk acc hk hi => ?_
  refine wpAny_bind (wpAny_pure ?_)
  unfold Builtin.Tuple.tupleExact
  refine wpAny_bind (wpAny_newObj_type (wpAny_pure ?_) ?_)
  · exact h h' tk acc hk hi
  · show acc.toList.toArray.size ≤ sizeLine
    have := hi.1
    simp only [List.size_toArray, Array.length_toList]
    omega
def rTupDK : List V → Hp → VK → Prop := fun xs H Q => ∃ p kvs, xs = [.ref p] ∧ H p = some (.dK kvs) ∧ ∀ q, H q = none → Q (.ref q) (upd H q (.tup (kvs.map fun kv => kV kv.1)))
theorem call_tuple_dK {X : Cx} (hc : X.calm = true) : CallR X (.type "tuple") rTupDK := by
  intro pins s σ H xs us Q I r h
  obtain ⟨p, kvs, rfl, hk, q⟩ := h
  obtain ⟨u, rfl, rx⟩ := vals1 r
  cases rx
  obtain ⟨z, lo, vs, rk, hd⟩ : ObjOk X.prog X.w H s.heap p (.dK kvs) := I.hok p _ hk
  obtain ⟨ep, hat⟩ := hd.dictAt
  have hl := Paired.length rk
  refine callType_codes F.called_tuple (F.typeCall_tuple_1 (.ref p)) F.entry_object_init
    (code_tuple_new_kdl (Q₁ := fun obj s₁ => s₁.TypeIs obj "tuple" ∧ L2.EP X pins σ Q obj s₁) (PySem.W.kdl_dict lo) (I.ok.hd hc) hat (by rw [← hl]; exact z) fun h' tk acc hkeep hacc => ⟨⟨_, Heap.get?_push_size _ rfl, rfl⟩, ?_⟩)
    fun obj s₁ h₁ => ⟨h₁.1, F.args_object_init_2 obj (.ref p), object_init_meets F.called_tuple.init.lookup F.called_tuple.made (by decide) X.prog X.w _ _ s₁ ⟨h₁.1, rfl, h₁.2⟩⟩
  have I1 := I.kept (t' := tk) hkeep
  have rv : Vals (kvs.map fun kv => kV kv.1) acc.toList := by
    refine vals_of_at (by rw [List.length_map, hl, ← hacc.1, Array.length_toList]) fun j x w h1 h2 => ?_
    rw [Array.getElem?_toList] at h2
    obtain ⟨k, y, hky, hi⟩ := hacc.2 j w h2
    have e1 : (kvs.map (·.1))[j]? = some k := by rw [KV.keys rk, List.getElem?_map, hky]; rfl
    have e2 : (kvs.map fun kv => kV kv.1)[j]? = some (kV k) := by
      rw [show (kvs.map fun kv => kV kv.1) = (kvs.map (·.1)).map kV by rw [List.map_map]; rfl, List.getElem?_map, e1]; rfl
    rw [e2] at h1
    cases h1
    exact keyIs_rel hi
  have I2 := I1.laid (o := .tup (kvs.map fun kv => kV kv.1)) (t' := tk) (fun b o e => Heap.get?_push_of_some { cls := .type "tuple", data := .seq acc } e) (Nat.le_refl _) ⟨by rw [List.length_map]; exact z, acc.toList, rv, by have := IsTup.new h' acc; simpa using this⟩
  exact ⟨.ref h'.objs.size, _, I2, rfl, q _ (HOk.fresh I1.hok (Nat.le_refl _))⟩
end Hr

namespace Hc
open PySem PySem.Spec PyProof.Rows L2 Hr
def top (i : Nat) : Stmt := PySem.Challenge.pw_hermitcell_k64_forms_of_moves.main.body.getD i (.Pass ⟨0, 0, 0, 0⟩)
theorem bt_type : bootBuiltins "type" = some (.type "type") := by decide +kernel
theorem bt_int : bootBuiltins "int" = some (.type "int") := by decide +kernel
theorem bt_str : bootBuiltins "str" = some (.type "str") := by decide +kernel
theorem bt_bool : bootBuiltins "bool" = some (.type "bool") := by decide +kernel
theorem bt_tuple : bootBuiltins "tuple" = some (.type "tuple") := by decide +kernel
theorem bt_list : bootBuiltins "list" = some (.type "list") := by decide +kernel
theorem bt_range : bootBuiltins "range" = some (.type "range") := by decide +kernel
theorem bt_zip : bootBuiltins "zip" = some (.type "zip") := by decide +kernel
theorem bt_set : bootBuiltins "set" = some (.type "set") := by decide +kernel
theorem bt_len : bootBuiltins "len" = some (.builtin "len") := by decide +kernel
theorem bt_all : bootBuiltins "all" = some (.builtin "all") := by decide +kernel
theorem bt_max : bootBuiltins "max" = some (.builtin "max") := by decide +kernel
theorem bt_isinstance : bootBuiltins "isinstance" = some (.builtin "isinstance") := by decide +kernel
theorem bt_abs : bootBuiltins "abs" = some (.builtin "abs") := by decide +kernel
/-- a tuple of texts in the written part -/
def KTup (K : PySem.W.Frag) (a : Addr) (ts : List Str) : Prop := ∀ H : Hp, SqT K H a (ts.map V.str)
/-- the forms of calls of moves -/
def movF : List (Str × List Str) := [("freeze", ["granule"]), ("thaw", ["granule"]), ("seal", ["granule", "page"]), ("seal_cpu", ["granule", "granule"]), ("give", ["granule", "text"]), ("ticket", ["granule"]), ("come", ["granule", "granule", "word"]), ("place", ["granule", "granule", "page", "word"]), ("strike", ["granule", "page"]), ("place_cpu", ["granule", "granule", "word"]), ("begin", ["granule"])]
def formsV (k : Str) : Option (List Str) := (movF.find? fun p => decide (p.1 = k)).map (·.2)
/-- a written dict from texts to tuples of texts; none behind the names more -/
structure KForms (K : PySem.W.Frag) (mg : Str → Option Value) (w : World) (x : Str) (fs : List (Str × List Str)) (more : List Str) : Prop where
  ex : ∃ g es n, (∃ u, mg x = some u ∧ RelV (.ref g) u) ∧ KDict K w g es n ∧ (∀ p ∈ fs, ∃ t, PySem.W.nsIn K g p.1 = some (some (.ref t)) ∧ KTup K t p.2) ∧ ∀ k ∈ more, PySem.W.nsIn K g k = some none
def moreV : List Str := ["Freeze", "", "move", "arrive"]
def movesL : List Str := ["freeze", "thaw", "seal", "seal_cpu", "give", "ticket", "come", "place", "strike", "place_cpu", "begin"]
/-- what the top has -/
structure Txt (K : PySem.W.Frag) (mg : Str → Option Value) (w : World) (C : Addr) : Prop where
  cl : Cl K C
  g_Atom : mg "Atom" = some (.ref C)
  z_type : mg "type" = none
  z_int : mg "int" = none
  z_str : mg "str" = none
  z_bool : mg "bool" = none
  z_tuple : mg "tuple" = none
  z_list : mg "list" = none
  z_range : mg "range" = none
  z_zip : mg "zip" = none
  z_set : mg "set" = none
  z_len : mg "len" = none
  z_all : mg "all" = none
  z_max : mg "max" = none
  z_isinstance : mg "isinstance" = none
  z_abs : mg "abs" = none
  c_LEAST : ∃ u, mg "LEAST" = some u ∧ RelV (.int (-2147483648)) u
  c_GREATEST : ∃ u, mg "GREATEST" = some u ∧ RelV (.int (2147483647)) u
  c_MOST_CHARACTERS : ∃ u, mg "MOST_CHARACTERS" = some u ∧ RelV (.int (24)) u
  c_MOST_DEEP : ∃ u, mg "MOST_DEEP" = some u ∧ RelV (.int (40)) u
  c_MOST_RANK : ∃ u, mg "MOST_RANK" = some u ∧ RelV (.int (40)) u
  c_MOST_RANK_HOST : ∃ u, mg "MOST_RANK_HOST" = some u ∧ RelV (.int (36)) u
  c_GRANULES : ∃ u, mg "GRANULES" = some u ∧ RelV (.int (24)) u
  c_PAGES : ∃ u, mg "PAGES" = some u ∧ RelV (.int (16)) u
  c_CPU_PLACE : ∃ u, mg "CPU_PLACE" = some u ∧ RelV (.int (8)) u
  forms : ∃ Fo t1 t2 t3 t4 t5, (∃ u, mg "FORMS_words" = some u ∧ RelV (.ref Fo) u) ∧ (∃ es n, KDict K w Fo es n) ∧
    KDct K w Fo "token" (.ref t1) ∧ KDct K w Fo "challenge" (.ref t2) ∧ KDct K w Fo "seal" (.ref t3) ∧ KDct K w Fo "page" (.ref t4) ∧ KDct K w Fo "ticket" (.ref t5) ∧ PySem.W.nsIn K Fo "key" = some none ∧
    KTup K t1 ["text", "tuple", "word"] ∧ KTup K t2 ["text", "number"] ∧ KTup K t3 ["text", "number", "number", "hidden"] ∧ KTup K t4 ["text", "number", "number", "hidden"] ∧ KTup K t5 ["text", "number", "text", "tuple", "pages", "tuple"]
  movs : KForms K mg w "FORMS_moveforms" movF moreV
  moves : ∃ t, (∃ u, mg "MOVES" = some u ∧ RelV (.ref t) u) ∧ KTup K t movesL
  kit : ∀ (d : D) (n : String), n ∈ ["int", "str", "tuple", "bool", "list", "dict"] → PySem.W.kitOne K (kyU C d) (.type n) = some (match d with | .int _ => n == "int" | .bl _ => n == "int" || n == "bool" | .str _ => n == "str" | .tup _ => n == "tuple" | .lst _ => n == "list" | .dct => n == "dict" | _ => false)
  kitC : ∀ d : D, PySem.W.kitOne K (kyU C d) (.ref C) = some (match d with | .atom _ _ => true | _ => false)
end Hc

namespace Hc
open PySem PySem.Spec PyProof.Rows L2 Hr
theorem ifT {p A B : Prop} [Decidable p] (hp : p) (h : A) : if decide p = true then A else B := by
  rw [decide_eq_true hp]; exact iteT h
theorem ifF {p A B : Prop} [Decidable p] (hp : ¬ p) (h : B) : if decide p = true then A else B := by
  rw [decide_eq_false hp]; exact iteF h
theorem bT {b : Bool} {A B : Prop} (hb : b = true) (h : A) : if b = true then A else B := by
  rw [hb]; exact iteT h
theorem bF {b : Bool} {A B : Prop} (hb : b = false) (h : B) : if b = true then A else B := by
  rw [hb]; exact iteF h
theorem bcase {b : Bool} {A B : Prop} (h1 : b = true → A) (h2 : b = false → B) : if b = true then A else B := by
  cases b with
  | true => exact iteT (h1 rfl)
  | false => exact iteF (h2 rfl)
/-- a comprehension without a test -/
theorem yes {σ : L2.St} {H : Hp} {A B : Hp → Prop} (h : A H) : tYes σ H fun b H3 => if b = true then A H3 else B H3 := by
  show (if true = true then A H else B H)
  exact iteT h
theorem same_new {q : Addr} {H : Hp} {o : HO} (h : H q = none) : Same H (L2.upd H q o) := fun c x e => by rw [upd_ne (ne_of_none e h)]; exact e
theorem sfree {H H' : Hp} (e : Same H H') {p : Addr} (h : H' p = none) : H p = none := e.free h
/-! ### what the defs tell -/
def numOk (i : Int) : Bool := decide (-2147483648 ≤ i) && decide (i ≤ 2147483647)
def isNum : D → Bool | .int i => numOk i | _ => false
def sgn (c : Nat) : Bool := decide (32 ≤ c) && decide (c ≤ 126)
def txtOk (s : Str) : Bool := decide (s.length ≤ 24) && s.cps.toList.all sgn
def isTxt : D → Bool | .str s => txtOk s | _ => false
/-- one value is asked; new objects may be made -/
def spB (C : Addr) (ok : D → Prop) (f : D → Bool) : Sp := fun vs H Q _ => ∃ x d, vs = [x] ∧ Is C H x d ∧ ok d ∧ ∀ H', Same H H' → Q (.bl (f d)) H'
theorem kyV_int {C : Addr} {d : D} : (kyV C d = .ty "int") ↔ ∃ i, d = .int i := by cases d <;> simp [kyV]
theorem kyV_str {C : Addr} {d : D} : (kyV C d = .ty "str") ↔ ∃ i, d = .str i := by cases d <;> simp [kyV]
theorem kyV_tup {C : Addr} {d : D} : (kyV C d = .ty "tuple") ↔ ∃ i, d = .tup i := by cases d <;> simp [kyV]
theorem kyV_atom {C : Addr} {d : D} : (kyV C d = .ref C) ↔ ∃ k i, d = .atom k i := by cases d <;> simp [kyV]
section
variable {P : Program} {w : World} {K : PySem.W.Frag} {mg : Str → Option Value} {base : Heap} {f : Addr} {fd : FuncData} {C : Addr}
abbrev s_is_number : Stmt := top 12
theorem sc_is_number : FnScope ["value"] ["value"] (C8.fnScope s_is_number) := C8.fnScope_by (by decide +kernel)
theorem ok_is_number (F : C8.Def K mg "is_number" s_is_number f fd) (b : Binds K fd ["value"] []) (T : Txt K mg w C) : C8.Cal P w K mg base 1 "is_number" (spB C (fun _ => True) isNum) [] := by
  refine C8.cal0 F b .nil sc_is_number (fun vs H Q E h => ?_) (fun cdv A outer s H vs Q E hr h => ?_)
  · obtain ⟨x, d, rfl, _⟩ := h; rfl
  obtain ⟨x, d, rfl, hx, _, q⟩ := h
  refine ⟨_, (pss_one (ps_ret (pe_and (pe_cmpR (op_isTyA (C := C)) (pe_callTy (call_typeA (C := C)) rfl T.z_type bt_type (pa_cons (pv 0) pa_nil)) (pe_bltn (v := .ty "int") rfl T.z_int bt_int rfl) (nomark _)) (pe_one (pe_chain op_le op_le (C8.pe_gc rfl T.c_LEAST) (pv 0) (C8.pe_gc rfl T.c_GREATEST)))))), ?_⟩
  have q := q H (Same.refl H)
  refine ⟨x, rfl, x, d, rfl, hx, kyV_ok d, .inl ⟨_, rfl⟩, _, rfl, ?_⟩
  by_cases c : kyV C d = .ty "int"
  · refine ifT c ?_
    obtain ⟨i, rfl⟩ := kyV_int.mp c
    cases hx
    refine ⟨_, rfl, _, _, rfl, rfl, _, rfl, ite2 (fun c => ?_) (fun c => ?_)⟩
    · refine ⟨_, _, rfl, rfl, ?_⟩
      have e : isNum (.int i) = decide (i ≤ 2147483647) := by simp [isNum, numOk, of_decide_eq_true c]
      rw [e] at q; exact q
    · have e : isNum (.int i) = false := by simp [isNum, numOk] at c ⊢; omega
      rw [e] at q; exact q
  · have e : isNum d = false := by cases d <;> first | rfl | exact absurd rfl c
    rw [e] at q
    exact ifF c q
/-- signs between the space and the tilde -/
theorem lt_one (a b : Nat) : decide (([a] : List Nat) < [b]) = decide (a < b) := by
  by_cases h : a < b
  · rw [decide_eq_true h]; exact decide_eq_true (List.cons_lt_cons_iff.mpr (.inl h))
  · rw [decide_eq_false h]
    refine decide_eq_false fun z => ?_
    rcases List.cons_lt_cons_iff.mp z with z | ⟨_, z⟩
    · exact h z
    · cases z
abbrev s_is_text : Stmt := top 13
theorem sc_is_text : FnScope ["value", "character"] ["value"] (C8.fnScope s_is_text) := C8.fnScope_by (by decide +kernel)
theorem ok_is_text (F : C8.Def K mg "is_text" s_is_text f fd) (b : Binds K fd ["value"] []) (T : Txt K mg w C) : C8.Cal P w K mg base 1 "is_text" (spB C (fun d => ∀ s, d = .str s → s.length ≤ sizeLine) isTxt) [] := by
  refine C8.cal0 F b .nil sc_is_text (fun vs H Q E h => ?_) (fun cdv A outer s H vs Q E hr h => ?_)
  · obtain ⟨x, d, rfl, _⟩ := h; rfl
  obtain ⟨x, d, rfl, hx, hz, q⟩ := h
  refine ⟨_, (pss_cons (ps_if (PW.pt (pw_or (pt_cmpR (op_isNotTyA (C := C)) (pe_callTy (call_typeA (C := C)) rfl T.z_type bt_type (pa_cons (pv 0) pa_nil)) (pe_bltn (v := .ty "str") rfl T.z_str bt_str rfl) (nomark _)) (pw_or1 (pt_cmpR op_gt (pe_callB call_len_str rfl T.z_len bt_len (pa_cons (pv 0) pa_nil)) (C8.pe_gc rfl T.c_MOST_CHARACTERS) (nomark _))))) (pss_one (ps_ret pe_bl)) pss_nil)
      (pss_one (ps_ret (pe_callB (cr_all rfl) rfl T.z_all bt_all (pa_cons (pe_lc (own := [("character", 1)]) (g := gName 1) rfl sc_is_text.nd (pi_str (pv 0)) (blkOk_by (own := [("character", 1)]) (N := ["value", "character"]) (sc := C8.fnScope s_is_text) (by decide +kernel)) (fun _ _ _ _ _ => (pg_name (i := 1) sc_is_text.nd rfl (Or.inl rfl))) (fun _ _ _ _ _ => pts_nil) (fun _ _ _ _ _ => (pe_chain op_le_str op_le_str pe_str (pv 1) pe_str))) pa_nil))))), ?_⟩
  refine ⟨x, rfl, x, d, rfl, hx, kyV_ok d, .inl ⟨_, rfl⟩, _, rfl, ?_⟩
  by_cases c : kyV C d = .ty "str"
  · rw [decide_eq_true c]
    obtain ⟨z, rfl⟩ := kyV_str.mp c
    cases hx
    refine iteF ⟨_, rfl, z, rfl, hz z rfl, _, _, rfl, rfl, _, rfl, ite2 (fun c => ?_) (fun c => ?_)⟩
    · have e : isTxt (.str z) = false := by
        simp only [isTxt, txtOk]
        rw [decide_eq_false (by simp at c; omega)]; rfl
      have q := q H (Same.refl H)
      rw [e] at q; exact q
    · have hlen : z.length ≤ 24 := by simp at c; omega
      have e : isTxt (.str z) = z.cps.toList.all sgn := by
        simp only [isTxt, txtOk]
        rw [decide_eq_true hlen]; rfl
      rw [e] at q
      refine ⟨_, rfl, z, rfl, fun Dl hD => ?_⟩
      refine lc_it (walk_str (z := z)) (fun i H' => Same H H' ∧ H' Dl = some (.lst ((z.cps.toList.take i).map fun c => V.bl (sgn c)))) ⟨same_new hD, upd_same⟩ (fun _ _ _ _ => trivial) ?_ ?_
      · rintro i y H0 H1 hi ⟨s1, hl⟩ ⟨rfl, c, hc, rfl⟩
        have hc' : z.cps.toList[i]? = some c := by rw [Array.getElem?_toList]; exact hc
        have go : ∀ H3, H3 = upd H1 Dl (.lst ((z.cps.toList.take i).map (fun c => V.bl (sgn c)) ++ [.bl (sgn c)])) → Same H H3 ∧ H3 Dl = some (.lst ((z.cps.toList.take (i + 1)).map fun c => V.bl (sgn c))) := fun H3 e3 => by
          subst e3
          refine ⟨fun p o hp => by rw [upd_ne (ne_of_none hp hD)]; exact s1 p o hp, ?_⟩
          rw [upd_same, List.take_add_one, hc', List.map_append]; rfl
        have hn : ((z.cps.toList.take i).map fun c => V.bl (sgn c)).length < sizeLine := by
          have h1 : z.cps.size = z.length := rfl
          rw [List.length_map, List.length_take, Array.length_toList]
          exact small1000 (by omega)
        refine ⟨rfl, yes ?_⟩
        refine ⟨_, rfl, _, _, rfl, rfl, _, rfl, ?_⟩
        have e1 : (!decide (([c] : List Nat) < [32])) = decide (32 ≤ c) := by
          rw [lt_one]; by_cases h : c < 32
          · rw [decide_eq_true h, decide_eq_false (by omega)]; rfl
          · rw [decide_eq_false h, decide_eq_true (by omega)]; rfl
        have e2 : (!decide (([126] : List Nat) < [c])) = decide (c ≤ 126) := by
          rw [lt_one]; by_cases h : 126 < c
          · rw [decide_eq_true h, decide_eq_false (by omega)]; rfl
          · rw [decide_eq_false h, decide_eq_true (by omega)]; rfl
        refine bcase (b := !decide (([c] : List Nat) < [32])) (fun hb => ?_) (fun hb => ?_)
        · refine ⟨_, _, rfl, rfl, _, hl, hn, go _ ?_⟩
          have : (!decide (([126] : List Nat) < [c])) = sgn c := by rw [e2]; rw [e1] at hb; simp only [sgn]; rw [hb, Bool.true_and]
          exact congrArg (fun k => upd H1 Dl (.lst ((z.cps.toList.take i).map (fun c => V.bl (sgn c)) ++ [.bl k]))) this
        · refine ⟨_, hl, hn, go _ ?_⟩
          have : false = sgn c := by rw [e1] at hb; simp only [sgn]; rw [hb, Bool.false_and]
          exact congrArg (fun k => upd H1 Dl (.lst ((z.cps.toList.take i).map (fun c => V.bl (sgn c)) ++ [.bl k]))) this
      · rintro H1 ⟨s1, hl⟩
        have ea : z.cps.toList.take z.cps.size = z.cps.toList := List.take_of_length_le (by rw [Array.length_toList]; exact Nat.le_refl _)
        rw [ea] at hl
        refine ⟨Dl, z.cps.toList.map sgn, rfl, SqL.of (by rw [List.map_map]; exact hl), ?_⟩
        have e9 : (z.cps.toList.map sgn).all id = z.cps.toList.all sgn := by rw [List.all_map]; rfl
        rw [e9]
        exact q H1 s1
  · have e : isTxt d = false := by cases d <;> first | rfl | exact absurd rfl c
    have q := q H (Same.refl H)
    rw [e] at q
    rw [decide_eq_false c]
    exact iteT q
end
end Hc

namespace Hc
open PySem PySem.Spec PyProof.Rows L2 Hr
mutual
/-- a word, nested so deep at most -/
def okW (md mr : Nat) : Nat → D → Bool
  | n, .tup ds => decide (n ≠ md) && okA md mr (n + 1) ds
  | _, .atom k ds => decide (rank (.atom k ds) ≤ mr)
  | _, .non => true
  | _, .int i => numOk i
  | _, .str s => txtOk s
  | _, _ => false
def okA (md mr : Nat) : Nat → List D → Bool
  | _, [] => true
  | n, d :: ds => okW md mr n d && okA md mr n ds
end
mutual
/-- no text is too long for the model's len -/
def txl : D → Prop
  | .str s => s.length ≤ sizeLine
  | .tup ds => txlL ds
  | .lst ds => txlL ds
  | .atom _ ds => txlL ds
  | _ => True
def txlL : List D → Prop
  | [] => True
  | d :: ds => txl d ∧ txlL ds
end
/-- data of a size that the lists bear -/
def Fit (d : D) : Prop := sz d ≤ 1000000 ∧ txl d
theorem okA_app (md mr n : Nat) : ∀ a b : List D, okA md mr n (a ++ b) = (okA md mr n a && okA md mr n b)
  | [], b => by simp [okA]
  | x :: a, b => by rw [List.cons_append]; simp only [okA]; rw [okA_app md mr n a b, Bool.and_assoc]
theorem okA_rev (md mr n : Nat) : ∀ a : List D, okA md mr n a.reverse = okA md mr n a
  | [] => rfl
  | x :: a => by rw [List.reverse_cons, okA_app, okA_rev md mr n a]; simp only [okA]; rw [Bool.and_true, Bool.and_comm]
theorem txlL_mem : ∀ {ds : List D} {d : D}, txlL ds → d ∈ ds → txl d
  | x :: ds, d, h, hd => by
    simp only [txlL] at h
    rcases List.mem_cons.mp hd with rfl | hd
    · exact h.1
    · exact txlL_mem h.2 hd
/-- the stack: pairs of a part and how deep it lies; the parts stood ahead of the call -/
inductive Stk (C : Addr) (H0 H : Hp) : List V → List (D × Nat) → Prop
  | nil : Stk C H0 H [] []
  | cons {q : Addr} {x : V} {d : D} {n : Nat} {xs : List V} {ps : List (D × Nat)} (h : H q = some (.tup [x, .int (n : Int)])) (hx : Is C H0 x d) (t : Stk C H0 H xs ps) : Stk C H0 H (.ref q :: xs) ((d, n) :: ps)
/-- the tuples stand -/
def Tups (H H' : Hp) : Prop := ∀ b xs, H b = some (.tup xs) → H' b = some (.tup xs)
theorem Tups.put {H : Hp} {l : Addr} {xs ys : List V} (h : H l = some (.lst xs)) : Tups H (L2.upd H l (.lst ys)) := fun b zs e => by
  rw [upd_ne (fun z => by rw [z, h] at e; cases e)]; exact e
theorem Tups.trans {H H1 H2 : Hp} (a : Tups H H1) (b : Tups H1 H2) : Tups H H2 := fun c xs h => b c xs (a c xs h)
theorem Tups.of {H H1 : Hp} (a : Same H H1) : Tups H H1 := fun c xs h => a c _ h
theorem Stk.keep {C : Addr} {H0 H H' : Hp} (e : Tups H H') : ∀ {xs : List V} {ps : List (D × Nat)}, Stk C H0 H xs ps → Stk C H0 H' xs ps
  | _, _, .nil => .nil
  | _, _, .cons h hx t => .cons (e _ _ h) hx (t.keep e)
theorem Stk.len {C : Addr} {H0 H : Hp} : ∀ {xs : List V} {ps : List (D × Nat)}, Stk C H0 H xs ps → xs.length = ps.length
  | _, _, .nil => rfl
  | _, _, .cons _ _ t => congrArg (· + 1) t.len
theorem Stk.app {C : Addr} {H0 H : Hp} : ∀ {xs ys : List V} {ps qs : List (D × Nat)}, Stk C H0 H xs ps → Stk C H0 H ys qs → Stk C H0 H (xs ++ ys) (ps ++ qs)
  | _, _, _, _, .nil, t => t
  | _, _, _, _, .cons h hx u, t => .cons h hx (u.app t)
theorem Stk.last {C : Addr} {H0 H : Hp} : ∀ {xs : List V} {ps : List (D × Nat)}, Stk C H0 H xs ps → ps ≠ [] → ∃ (q : Addr) (x : V) (d : D) (n : Nat) (ys : List V) (qs : List (D × Nat)), xs = ys ++ [.ref q] ∧ ps = qs ++ [(d, n)] ∧ H q = some (.tup [x, .int (n : Int)]) ∧ Is C H0 x d ∧ Stk C H0 H ys qs
  | _, _, .nil, h => absurd rfl h
  | _, _, .cons (ps := []) h hx .nil, _ => ⟨_, _, _, _, [], [], rfl, rfl, h, hx, .nil⟩
  | _, _, .cons (ps := p :: ps) h hx t, _ => by
    obtain ⟨q, x, d, n, ys, qs, e1, e2, h1, h2, h3⟩ := t.last (List.cons_ne_nil _ _)
    rw [e1, e2]
    exact ⟨q, x, d, n, _ :: ys, _ :: qs, rfl, rfl, h1, h2, .cons h hx h3⟩
/-- a list that is no argument of ours changes: what stood stays -/
theorem same_put {H H' : Hp} {l : Addr} {o : HO} (s : Same H H') (h : H l = none) : Same H (L2.upd H' l o) := fun b u e => by
  rw [upd_ne (ne_of_none e h)]; exact s b u e
def okS (md mr : Nat) : List (D × Nat) → Bool
  | [] => true
  | p :: ps => okW md mr p.2 p.1 && okS md mr ps
def szS : List (D × Nat) → Nat
  | [] => 0
  | p :: ps => sz p.1 + szS ps
theorem okS_app (md mr : Nat) : ∀ a b, okS md mr (a ++ b) = (okS md mr a && okS md mr b)
  | [], b => by simp [okS]
  | x :: a, b => by rw [List.cons_append]; simp only [okS]; rw [okS_app md mr a b, Bool.and_assoc]
theorem szS_app : ∀ a b, szS (a ++ b) = szS a + szS b
  | [], b => by simp [szS]
  | x :: a, b => by rw [List.cons_append]; simp only [szS]; rw [szS_app a b]; omega
theorem len_szS : ∀ a : List (D × Nat), a.length ≤ szS a
  | [] => Nat.le_refl _
  | x :: a => by
    have := len_szS a
    have := sz_pos x.1
    simp only [szS, List.length_cons]; omega
theorem okS_map (md mr n : Nat) : ∀ ds : List D, okS md mr (ds.map fun d => (d, n)) = okA md mr n ds
  | [] => by simp [okS, okA]
  | d :: ds => by simp only [List.map_cons, okS, okA]; rw [okS_map md mr n ds]
theorem szS_map (n : Nat) : ∀ ds : List D, szS (ds.map fun d => (d, n)) = szL ds
  | [] => by simp [szS, szL]
  | d :: ds => by simp only [List.map_cons, szS, szL]; rw [szS_map n ds]
def spWithin (C : Addr) : Sp := fun vs H Q _ => ∃ x d, ∃ md mr : Nat, vs = [x, .int (md : Int), .int (mr : Int)] ∧ Is C H x d ∧ Fit d ∧ ∀ H', Same H H' → Q (.bl (okW md mr 0 d)) H'
section
variable {P : Program} {w : World} {K : PySem.W.Frag} {mg : Str → Option Value} {base : Heap} {f : Addr} {fd : FuncData} {C : Addr}
abbrev s__is_within : Stmt := top 21
theorem sc__is_within : FnScope ["value", "most_deep", "most_rank", "todo", "part", "deep", "each"] ["value", "most_deep", "most_rank"] (C8.fnScope s__is_within) := C8.fnScope_by (by decide +kernel)
theorem ok__is_within (F : C8.Def K mg "_is_within" s__is_within f fd) (b : Binds K fd ["value", "most_deep", "most_rank"] []) (T : Txt K mg w C) (c_is_number : C8.Cal P w K mg base 1 "is_number" (spB C (fun _ => True) isNum) [])
    (c_is_text : C8.Cal P w K mg base 1 "is_text" (spB C (fun d => ∀ s, d = .str s → s.length ≤ sizeLine) isTxt) []) : C8.Cal P w K mg base 2 "_is_within" (spWithin C) [] := by
  refine C8.cal0 F b .nil sc__is_within (fun vs H Q E h => ?_) (fun cdv A outer s H vs Q E hr h => ?_)
  · obtain ⟨x, d, md, mr, rfl, _⟩ := h; rfl
  obtain ⟨x, d, md, mr, rfl, hx, hz, q⟩ := h
  refine ⟨_, (pss_cons (ps_set (i := 3) sc__is_within.nd rfl (Or.inl rfl) (pe_lst (pa_cons (pe_tup (pa_cons (pv 0) (pa_cons pe_int pa_nil))) pa_nil)))
      (pss_cons (ps_while PassesOwn.never (pt_truth (pv 3) (fun _ => rfl))
      (pss_cons (ps_asg (pe_bm0 PySem.F.plainAttrs_list PySem.F.slot_list_pop PySem.F.type_list_pop mt_pop (pv 3)) (pg_tup rfl (pgs_cons (pg_name (i := 4) sc__is_within.nd rfl (Or.inl rfl)) (pgs_cons (pg_name (i := 5) sc__is_within.nd rfl (Or.inr rfl)) pgs_nil))))
      (pss_one (ps_if (pt_cmpR (op_isTyA (C := C)) (pe_callTy (call_typeA (C := C)) rfl T.z_type bt_type (pa_cons (pv 4) pa_nil)) (pe_bltn (v := .ty "tuple") rfl T.z_tuple bt_tuple rfl) (nomark _)) (pss_cons (ps_if (pt_cmpR op_eq (pv 5) (pv 1) (nomark _)) (pss_one (ps_ret pe_bl)) pss_nil)
      (pss_one (ps_expr (pe_bm PySem.F.plainAttrs_list PySem.F.slot_list_extend PySem.F.type_list_extend mt_extend (pv 3) (pa_cons (pe_lc (own := [("each", 6)]) (g := gName 6) rfl sc__is_within.nd (pi_tup (pv 4)) (blkOk_by (own := [("each", 6)]) (N := ["value", "most_deep", "most_rank", "todo", "part", "deep", "each"]) (sc := C8.fnScope s__is_within) (by decide +kernel)) (fun _ _ _ _ _ => (pg_name (i := 6) sc__is_within.nd rfl (Or.inl rfl))) (fun _ _ _ _ _ => pts_nil) (fun _ _ _ _ _ => (pe_tup (pa_cons (pv 6) (pa_cons (pe_op op_add (pv 5) pe_int) pa_nil))))) pa_nil))))) (pss_one (ps_if (pt_cmpR (op_isTyA (C := C)) (pe_callTy (call_typeA (C := C)) rfl T.z_type bt_type (pa_cons (pv 4) pa_nil)) (pe_glob (v := .ref C) rfl T.g_Atom rfl) (nomark _)) (pss_one (ps_if (pt_cmpR op_gt (pe_fld (pv 4) rfl) (pv 2) (nomark _)) (pss_one (ps_ret pe_bl)) pss_nil)) (pss_one (ps_if (PW.pt (pw_and (pt_cmpR op_notN (pv 4) pe_non (nomark _)) (pw_and (pt_not (pt_val (C8.pe_c c_is_number hr (by first | decide | omega) rfl (pa_cons (pv 4) pa_nil)))) (pw_and1 (pt_not (pt_val (C8.pe_c c_is_text hr (by first | decide | omega) rfl (pa_cons (pv 4) pa_nil)))))))) (pss_one (ps_ret pe_bl)) pss_nil))))))))
      (pss_one (ps_ret pe_bl)))), ?_⟩
  refine ⟨_, rfl, (by show 2 ≤ sizeLine; decide), fun q0 hq0 => ⟨(by show 1 ≤ sizeLine; decide), fun l hl => ?_⟩⟩
  have s1 := same_new (o := .tup [x, .int 0]) hq0
  have s2 := same_new (o := .lst [.ref q0]) hl
  have hl0 : H l = none := s1.free hl
  refine ⟨fun m σ' H' => ∃ v4 v5 xs ps, σ' = [some x, some (.int (md : Int)), some (.int (mr : Int)), some (.ref l), v4, v5, none] ∧ Same H H' ∧ H' l = some (.lst xs) ∧ Stk C H H' xs ps ∧ okS md mr ps = okW md mr 0 d ∧ m = szS ps ∧ szS ps ≤ 1000000 ∧ ∀ p ∈ ps, txl p.1,
    ⟨_, none, none, [.ref q0], [(d, 0)], rfl, s1.trans s2, upd_same, .cons (s2 _ _ upd_same) hx .nil, by simp [okS], rfl, by simp [szS]; exact hz.1, fun p hp => by rw [List.mem_singleton.mp hp]; exact hz.2⟩, ?_⟩
  rintro m σ' H' ⟨v4, v5, xs, ps, rfl, sm, hl', st, ok, rfl, hm, hs⟩
  refine ⟨_, rfl, _, .inl ⟨xs, SqL.of hl', rfl⟩, ?_⟩
  by_cases hps : ps = []
  · subst hps
    cases st
    refine iteF ?_
    have q := q H' sm
    rw [← ok] at q
    exact q
  obtain ⟨qa, y, e, n, ys, qs, rfl, rfl, hq, hy, st'⟩ := st.last hps
  refine bT (by simp) ⟨fun σ2 H2 => ∃ m', m' < szS (qs ++ [(e, n)]) ∧ ∃ v4 v5 xs ps, σ2 = [some x, some (.int (md : Int)), some (.int (mr : Int)), some (.ref l), v4, v5, none] ∧ Same H H2 ∧ H2 l = some (.lst xs) ∧ Stk C H H2 xs ps ∧ okS md mr ps = okW md mr 0 d ∧ m' = szS ps ∧ szS ps ≤ 1000000 ∧ ∀ p ∈ ps, txl p.1, fun σ2 H2 h => h, ?_⟩
  -- part, deep = todo.pop()
  refine ⟨_, rfl, .inl ⟨rfl, _, SqL.of hl'⟩, l, _, .ref qa, rfl, rfl, hl', by simp, ?_⟩
  rw [List.dropLast_concat]
  have tp := Tups.put (ys := ys) hl'
  refine ⟨qa, [y, .int (n : Int)], rfl, SqT.of (tp _ _ hq), rfl, y, [.int (n : Int)], rfl, .int (n : Int), [], rfl, rfl, ?_⟩
  have sm2 : Same H (upd H' l (.lst ys)) := same_put sm hl0
  have hys : (upd H' l (.lst ys)) l = some (.lst ys) := upd_same
  have st2 := st'.keep tp
  rw [okS_app] at ok
  have hsz : szS (qs ++ [(e, n)]) = szS qs + sz e := by rw [szS_app]; simp [szS]
  have hse := sz_pos e
  have hqs : ∀ p ∈ qs, txl p.1 := fun p hp => hs p (List.mem_append_left _ hp)
  have hse2 : txl e := hs (e, n) (List.mem_append_right _ (List.mem_singleton.mpr rfl))
  have ok2 : okS md mr [(e, n)] = okW md mr n e := by simp [okS]
  rw [ok2] at ok
  generalize upd H' l (.lst ys) = H2 at sm2 hys st2
  have hy2 := hy.same sm2
  -- a part that is right, and leads no further
  have good : okW md mr n e = true → ∀ H3, Same H2 H3 → H3 l = some (.lst ys) → ∃ m', m' < szS (qs ++ [(e, n)]) ∧ ∃ v4 v5 xs ps, ([some x, some (.int (md : Int)), some (.int (mr : Int)), some (.ref l), some y, some (.int (n : Int)), none] : L2.St) = [some x, some (.int (md : Int)), some (.int (mr : Int)), some (.ref l), v4, v5, none] ∧ Same H H3 ∧ H3 l = some (.lst xs) ∧ Stk C H H3 xs ps ∧ okS md mr ps = okW md mr 0 d ∧ m' = szS ps ∧ szS ps ≤ 1000000 ∧ ∀ p ∈ ps, txl p.1 := fun hok H3 s3 hl3 =>
    ⟨szS qs, by omega, _, _, ys, qs, rfl, sm2.trans s3, hl3, st2.keep (Tups.of s3), by rw [← ok, hok, Bool.and_true], rfl, by omega, hqs⟩
  -- a part that is wrong
  have bad : okW md mr n e = false → ∀ H3, Same H2 H3 → Q (.bl false) H3 := fun hok H3 s3 => by
    have q := q H3 (sm2.trans s3)
    rw [← ok, hok, Bool.and_false] at q
    exact q
  refine ⟨_, rfl, y, e, rfl, hy2, kyV_ok e, .inl ⟨_, rfl⟩, _, rfl, ?_⟩
  by_cases ct : kyV C e = .ty "tuple"
  · refine ifT ct ?_
    obtain ⟨es, rfl⟩ := kyV_tup.mp ct
    refine ⟨_, rfl, _, rfl, rfl, _, rfl, ?_⟩
    by_cases cn : n = md
    · refine ifT (by rw [cn]) ?_
      exact bad (by simp [okW, cn]) H2 (Same.refl _)
    · refine ifF (fun z => cn (by have := V.int.inj z; omega)) ?_
      have hyt := hy
      cases hyt with
      | @tup ta txs _ hta tis =>
        refine ⟨_, rfl, .inl ⟨rfl, _, SqL.of hys⟩, _, rfl, ta, rfl, ⟨_, SqT.of (sm2 _ _ hta)⟩, fun Dl hD => ?_⟩
        have nDl : l ≠ Dl := fun z => by rw [z] at hys; rw [hys] at hD; cases hD
        refine lc_tup (K := K) (a := ta) (xs := txs) (fun i H3 => Same H2 H3 ∧ ∃ zs, H3 Dl = some (.lst zs) ∧ Stk C H H3 zs ((es.take i).map fun d => (d, n + 1)) ∧ zs.length = i)
          ⟨same_new hD, [], upd_same, by simpa using Stk.nil, rfl⟩ (fun i H3 _ h => SqT.of (h.1 _ _ (sm2 _ _ hta))) ?_ ?_
        · rintro i z H3 hi ⟨s3, zs, hz3, stz, hzl⟩
          obtain ⟨ed, hed, hiz⟩ := tis.at hi
          refine ⟨rfl, yes ?_⟩
          refine ⟨_, rfl, _, rfl, _, _, rfl, rfl, (by show 2 ≤ sizeLine; decide), fun t ht => ?_⟩
          have s4 := same_new (o := .tup [z, .int ((n : Int) + 1)]) ht
          have hz4 := s4 _ _ hz3
          have hlt := (List.getElem?_eq_some_iff.mp hed).1
          refine ⟨zs, hz4, Nat.lt_of_lt_of_le (show zs.length < 1000001 by simp only [sz] at hsz; have := len_szL es; omega) (by decide), same_put (s3.trans s4) hD, zs ++ [.ref t], upd_same, ?_, by simp [hzl]⟩
          have e6 : (es.take (i + 1)).map (fun d => (d, n + 1)) = (es.take i).map (fun d => (d, n + 1)) ++ [(ed, n + 1)] := by rw [List.take_add_one, hed, List.map_append]; rfl
          rw [e6]
          exact (stz.keep ((Tups.of s4).trans (Tups.put hz4))).app (.cons (Tups.put hz4 _ _ upd_same) hiz .nil)
        · rintro H3 ⟨s3, zs, hz3, stz, hzl⟩
          have htl := tis.len
          have hzl2 : zs.length + 1 ≤ sz (.tup es) := by simp only [sz]; have := len_szL es; omega
          have hyl := st2.len
          have hql := len_szS qs
          have hl3 := s3 _ _ hys
          refine ⟨l, Dl, ys, zs, rfl, rfl, hl3, hz3, Nat.le_trans (show ys.length + zs.length ≤ 1000000 by omega) (by decide), ?_⟩
          rw [List.take_of_length_le (by omega)] at stz
          refine ⟨szS (qs ++ es.map fun d => (d, n + 1)), ?_, _, _, ys ++ zs, qs ++ es.map (fun d => (d, n + 1)), rfl, same_put (sm2.trans s3) hl0, upd_same, ((st2.keep (Tups.of s3)).app stz).keep (Tups.put hl3), ?_, rfl, ?_, fun p hp => ?_⟩
          · rw [szS_app, szS_map, hsz]; simp only [sz]; omega
          · rw [okS_app, okS_map, ← ok]; simp [okW, cn]
          · rw [szS_app, szS_map]; simp only [sz] at hsz; omega
          · rcases List.mem_append.mp hp with hp | hp
            · exact hqs p hp
            · obtain ⟨d', hd', rfl⟩ := List.mem_map.mp hp
              exact txlL_mem (by simpa [txl] using hse2) hd'
  · refine ifF ct ⟨_, rfl, y, e, rfl, hy2, kyV_ok e, .inr rfl, _, rfl, ?_⟩
    by_cases ca : kyV C e = .ref C
    · refine ifT ca ?_
      obtain ⟨k, es, rfl⟩ := kyV_atom.mp ca
      cases hy2 with
      | @atom aa dx at_ _ axs _ h1 h2 h3 =>
        refine ⟨_, rfl, aa, C, dx, _, _, rfl, h1, T.cl.cl, T.cl.nR, rfl, _, rfl, _, _, rfl, rfl, _, rfl, ite2 (fun c => ?_) (fun c => ?_)⟩
        · exact bad (by simp only [okW]; refine decide_eq_false fun z => ?_; simp at c; omega) H2 (Same.refl _)
        · exact good (by simp only [okW]; refine decide_eq_true ?_; simp at c; omega) H2 (Same.refl _) hys
    · refine ifF ca ⟨_, rfl, rfl, _, rfl, ?_⟩
      by_cases cN : y = .non
      · rw [decide_eq_true cN]
        subst cN
        cases hy
        exact iteF (iteF (good rfl H2 (Same.refl _) hys))
      · rw [decide_eq_false cN]
        refine iteT ⟨_, rfl, y, e, rfl, hy2, trivial, fun H3 s3 => ⟨_, rfl, ?_⟩⟩
        cases hn : isNum e with
        | true =>
          refine iteF (iteF (good ?_ H3 s3 (s3 _ _ hys)))
          cases e <;> first | exact hn | cases hn
        | false =>
          refine iteT ⟨_, rfl, y, e, rfl, hy2.same s3, fun z hz' => by subst hz'; simpa [txl] using hse2, fun H4 s4 => ⟨_, rfl, ?_⟩⟩
          have s34 := s3.trans s4
          cases ht : isTxt e with
          | true =>
            refine iteF (good ?_ H4 s34 (s34 _ _ hys))
            cases e <;> first | exact ht | cases ht
          | false =>
            refine iteT (bad ?_ H4 s34)
            cases e with
            | non => cases hy; exact absurd rfl cN
            | int i => exact hn
            | str z => exact ht
            | tup es => exact absurd rfl ct
            | atom k es => exact absurd rfl ca
            | _ => rfl
end
end Hc

namespace Hc
open PySem PySem.Spec PyProof.Rows L2 Hr
mutual
/-- the atoms, each where it stands -/
def places : D → List D
  | .tup ds => placesL ds
  | .atom k ds => [.atom k ds]
  | _ => []
def placesL : List D → List D
  | [] => []
  | d :: ds => places d ++ placesL ds
end
theorem placesL_app : ∀ a b : List D, placesL (a ++ b) = placesL a ++ placesL b
  | [], b => rfl
  | x :: a, b => by rw [List.cons_append]; simp only [placesL]; rw [placesL_app a b, List.append_assoc]
mutual
theorem places_len : ∀ d : D, (places d).length ≤ sz d
  | .tup ds => by simp only [places, sz]; have := placesL_len ds; omega
  | .atom k ds => by simp [places, sz]
  | .non | .bl _ | .int _ | .str _ | .lst _ | .dct => by simp [places, sz]
theorem placesL_len : ∀ ds : List D, (placesL ds).length ≤ szL ds
  | [] => Nat.le_refl _
  | d :: ds => by simp only [placesL, szL, List.length_append]; have := places_len d; have := placesL_len ds; omega
end
mutual
theorem places_rank : ∀ d : D, (∀ e ∈ places d, rank e ≤ rank d) ∧ (0 < rank d → ∃ e ∈ places d, rank e = rank d)
  | .tup ds => by simp only [places, rank]; exact placesL_rank ds
  | .atom k ds => by simp [places]
  | .non | .bl _ | .int _ | .str _ | .lst _ | .dct => by simp [places, rank]
theorem placesL_rank : ∀ ds : List D, (∀ e ∈ placesL ds, rank e ≤ rankL ds) ∧ (0 < rankL ds → ∃ e ∈ placesL ds, rank e = rankL ds)
  | [] => by simp [placesL, rankL]
  | d :: ds => by
    obtain ⟨h1, h2⟩ := places_rank d
    obtain ⟨h3, h4⟩ := placesL_rank ds
    simp only [placesL, rankL]
    refine ⟨fun e he => ?_, fun hp => ?_⟩
    · rcases List.mem_append.mp he with he | he
      · have := h1 e he; omega
      · have := h3 e he; omega
    · by_cases c : rankL ds ≤ rank d
      · obtain ⟨e, he, hr⟩ := h2 (by omega)
        exact ⟨e, List.mem_append_left _ he, by omega⟩
      · obtain ⟨e, he, hr⟩ := h4 (by omega)
        exact ⟨e, List.mem_append_right _ he, by omega⟩
end
mutual
theorem places_atom : ∀ (d : D), ∀ e ∈ places d, ∃ k ds, e = .atom k ds
  | .tup ds, e, h => placesL_atom ds e (by simpa [places] using h)
  | .atom k ds, e, h => by simp [places] at h; exact ⟨k, ds, h⟩
  | .non, _, h | .bl _, _, h | .int _, _, h | .str _, _, h | .lst _, _, h | .dct, _, h => by simp [places] at h
theorem placesL_atom : ∀ (ds : List D), ∀ e ∈ placesL ds, ∃ k ds, e = .atom k ds
  | [], _, h => by simp [placesL] at h
  | d :: ds, e, h => by
    simp only [placesL] at h
    rcases List.mem_append.mp h with h | h
    · exact places_atom d e h
    · exact placesL_atom ds e h
end
def spPlaces (C : Addr) : Sp := fun vs H Q _ => ∃ x d, vs = [x] ∧ Is C H x d ∧ Fit d ∧ ∀ H' p xs, Same H H' → H p = none → H' p = some (.lst xs) → IsA C H' xs (places d) → Q (.ref p) H'
/-- a natural number is told -/
def spN (C : Addr) (ok : D → Prop) (f : D → Nat) : Sp := fun vs H Q _ => ∃ x d, vs = [x] ∧ Is C H x d ∧ ok d ∧ ∀ H', Same H H' → Q (.int (f d : Int)) H'
section
variable {P : Program} {w : World} {K : PySem.W.Frag} {mg : Str → Option Value} {base : Heap} {f : Addr} {fd : FuncData} {C : Addr}
abbrev s_is_word : Stmt := top 14
theorem sc_is_word : FnScope ["value"] ["value"] (C8.fnScope s_is_word) := C8.fnScope_by (by decide +kernel)
theorem ok_is_word (F : C8.Def K mg "is_word" s_is_word f fd) (b : Binds K fd ["value"] []) (T : Txt K mg w C) (c__is_within : C8.Cal P w K mg base 2 "_is_within" (spWithin C) []) : C8.Cal P w K mg base 3 "is_word" (spB C Fit (okW 40 40 0)) [] := by
  refine C8.cal0 F b .nil sc_is_word (fun vs H Q E h => ?_) (fun cdv A outer s H vs Q E hr h => ?_)
  · obtain ⟨x, d, rfl, _⟩ := h; rfl
  obtain ⟨x, d, rfl, hx, hz, q⟩ := h
  refine ⟨_, (pss_one (ps_ret (C8.pe_c c__is_within hr (by first | decide | omega) rfl (pa_cons (pv 0) (pa_cons (C8.pe_gc rfl T.c_MOST_DEEP) (pa_cons (C8.pe_gc rfl T.c_MOST_RANK) pa_nil)))))), ?_⟩
  exact ⟨x, rfl, x, d, 40, 40, rfl, hx, hz, q⟩
abbrev s__places_of_atoms : Stmt := top 22
theorem sc__places_of_atoms : FnScope ["value", "found", "todo", "part"] ["value"] (C8.fnScope s__places_of_atoms) := C8.fnScope_by (by decide +kernel)
theorem ok__places_of_atoms (F : C8.Def K mg "_places_of_atoms" s__places_of_atoms f fd) (b : Binds K fd ["value"] []) (T : Txt K mg w C) : C8.Cal P w K mg base 1 "_places_of_atoms" (spPlaces C) [] := by
  refine C8.cal0 F b .nil sc__places_of_atoms (fun vs H Q E h => ?_) (fun cdv A outer s H vs Q E hr h => ?_)
  · obtain ⟨x, d, rfl, _⟩ := h; rfl
  obtain ⟨x, d, rfl, hx, hz, q⟩ := h
  refine ⟨_, (pss_cons (ps_set (i := 1) sc__places_of_atoms.nd rfl (Or.inl rfl) (pe_lst pa_nil))
      (pss_cons (ps_set (i := 2) sc__places_of_atoms.nd rfl (Or.inl rfl) (pe_lst (pa_cons (pv 0) pa_nil)))
      (pss_cons (ps_while PassesOwn.never (pt_truth (pv 2) (fun _ => rfl))
      (pss_cons (ps_set (i := 3) sc__places_of_atoms.nd rfl (Or.inl rfl) (pe_bm0 PySem.F.plainAttrs_list PySem.F.slot_list_pop PySem.F.type_list_pop mt_pop (pv 2)))
      (pss_one (ps_if (pt_cmpR (op_isTyA (C := C)) (pe_callTy (call_typeA (C := C)) rfl T.z_type bt_type (pa_cons (pv 3) pa_nil)) (pe_bltn (v := .ty "tuple") rfl T.z_tuple bt_tuple rfl) (nomark _)) (pss_one (ps_expr (pe_bm PySem.F.plainAttrs_list PySem.F.slot_list_extend PySem.F.type_list_extend mt_extendT (pv 2) (pa_cons (pe_revT (pv 3)) pa_nil)))) (pss_one (ps_if (pt_cmpR (op_isTyA (C := C)) (pe_callTy (call_typeA (C := C)) rfl T.z_type bt_type (pa_cons (pv 3) pa_nil)) (pe_glob (v := .ref C) rfl T.g_Atom rfl) (nomark _)) (pss_one (ps_expr (pe_bm PySem.F.plainAttrs_list PySem.F.slot_list_append PySem.F.type_list_append mt_append (pv 1) (pa_cons (pv 3) pa_nil)))) pss_nil))))))
      (pss_one (ps_ret (pv 1)))))), ?_⟩
  refine ⟨(by show 0 ≤ sizeLine; decide), fun fo hfo => ⟨x, rfl, (by show 1 ≤ sizeLine; decide), fun l hl => ?_⟩⟩
  have s1 := same_new (o := .lst []) hfo
  have s2 := same_new (o := .lst [x]) hl
  have hl0 : H l = none := s1.free hl
  have nfl : fo ≠ l := fun z => by rw [← z, upd_same] at hl; cases hl
  refine ⟨fun m σ' H' => ∃ v3 fs xs es ds, σ' = [some x, some (.ref fo), some (.ref l), v3] ∧ Same H H' ∧ H' fo = some (.lst fs) ∧ H' l = some (.lst xs) ∧ IsA C H fs es ∧ IsA C H xs ds ∧ es ++ placesL ds.reverse = places d ∧ m = szL ds ∧ szL ds ≤ 1000000,
    ⟨_, none, [], [x], [], [d], rfl, s1.trans s2, s2 _ _ upd_same, upd_same, .nil, .cons hx .nil, by simp [placesL], rfl, by simp [szL]; exact hz.1⟩, ?_⟩
  rintro m σ' H' ⟨v3, fs, xs, es, ds, rfl, sm, hf', hl', hfs, hxs, e0, rfl, hm⟩
  refine ⟨_, rfl, _, .inl ⟨xs, SqL.of hl', rfl⟩, ?_⟩
  rcases List.eq_nil_or_concat ds with rfl | ⟨ds', e, rfl⟩
  · cases hxs
    refine iteF ⟨_, rfl, ?_⟩
    simp only [List.reverse_nil, placesL, List.append_nil] at e0
    rw [e0] at hfs
    exact q H' fo fs sm hfo hf' (hfs.same sm)
  obtain ⟨ys, y, rfl, hys, hy⟩ := hxs.concat
  simp only [List.concat_eq_append] at e0 hm ⊢
  refine bT (by simp) ⟨fun σ2 H2 => ∃ m', m' < szL (ds' ++ [e]) ∧ ∃ v3 fs xs es ds, σ2 = [some x, some (.ref fo), some (.ref l), v3] ∧ Same H H2 ∧ H2 fo = some (.lst fs) ∧ H2 l = some (.lst xs) ∧ IsA C H fs es ∧ IsA C H xs ds ∧ es ++ placesL ds.reverse = places d ∧ m' = szL ds ∧ szL ds ≤ 1000000, fun σ2 H2 h => h, ?_⟩
  refine ⟨_, rfl, .inl ⟨rfl, _, SqL.of hl'⟩, l, _, y, rfl, rfl, hl', by simp, ?_⟩
  rw [List.dropLast_concat]
  have sm2 : Same H (upd H' l (.lst ys)) := same_put sm hl0
  have hl2 : (upd H' l (.lst ys)) l = some (.lst ys) := upd_same
  have hf2 : (upd H' l (.lst ys)) fo = some (.lst fs) := by rw [upd_ne nfl]; exact hf'
  generalize upd H' l (.lst ys) = H2 at sm2 hl2 hf2
  rw [List.reverse_append, List.reverse_singleton, List.singleton_append] at e0
  simp only [placesL] at e0
  have hse := sz_pos e
  have hsz : szL (ds' ++ [e]) = szL ds' + sz e := by rw [szL_app]; simp [szL]
  have hdl := len_szL ds'
  have hyl := hys.len
  refine ⟨_, rfl, y, e, rfl, hy.same sm2, kyV_ok e, .inl ⟨_, rfl⟩, _, rfl, ?_⟩
  by_cases ct : kyV C e = .ty "tuple"
  · refine ifT ct ?_
    obtain ⟨gs, rfl⟩ := kyV_tup.mp ct
    cases hy with
    | @tup ta txs _ hta tis =>
      refine ⟨_, rfl, .inl ⟨rfl, _, SqL.of hl2⟩, _, rfl, ta, _, rfl, SqT.of (sm2 _ _ hta), fun r hr' => ?_⟩
      have s3 := same_new (o := .tup txs.reverse) hr'
      have htl := tis.len
      have hgl := len_szL gs
      refine ⟨l, r, ys, _, rfl, rfl, s3 _ _ hl2, upd_same, Nat.le_trans (show ys.length + txs.reverse.length ≤ 1000000 by simp only [sz] at hsz; rw [List.length_reverse]; omega) (by decide), ?_⟩
      refine ⟨szL (ds' ++ gs.reverse), ?_, _, fs, ys ++ txs.reverse, es, ds' ++ gs.reverse, rfl, same_put (sm2.trans s3) hl0, by rw [upd_ne nfl]; exact s3 _ _ hf2, upd_same, hfs, hys.app tis.rev, ?_, rfl, ?_⟩
      · rw [szL_app, szL_rev, hsz]; simp only [sz]; omega
      · rw [List.reverse_append, List.reverse_reverse, placesL_app]; simp only [places] at e0; exact e0
      · rw [szL_app, szL_rev]; simp only [sz] at hsz; omega
  · refine ifF ct ⟨_, rfl, y, e, rfl, hy.same sm2, kyV_ok e, .inr rfl, _, rfl, ?_⟩
    by_cases ca : kyV C e = .ref C
    · refine ifT ca ?_
      obtain ⟨k, gs, rfl⟩ := kyV_atom.mp ca
      have hel : es.length + 1 ≤ 1000000 := by
        have h1 := congrArg List.length e0
        have h2 := places_len d
        have h3 := hz.1
        simp only [List.length_append, places, List.length_singleton] at h1
        omega
      have hfl := hfs.len
      refine ⟨_, rfl, .inl ⟨rfl, _, SqL.of hf2⟩, _, rfl, fo, fs, y, rfl, rfl, hf2, Nat.lt_of_lt_of_le (show fs.length < 1000001 by omega) (by decide), ?_⟩
      refine ⟨szL ds', by omega, _, fs ++ [y], ys, es ++ [.atom k gs], ds', rfl, same_put sm2 hfo, upd_same, by rw [upd_ne nfl.symm]; exact hl2, hfs.app (.cons hy .nil), hys, ?_, rfl, by omega⟩
      simp only [places] at e0
      rw [List.append_assoc]; exact e0
    · refine ifF ca ⟨szL ds', by omega, _, fs, ys, es, ds', rfl, sm2, hf2, hl2, hfs, hys, ?_, rfl, by omega⟩
      have hp : places e = [] := by cases e <;> first | rfl | exact absurd rfl ct | exact absurd rfl ca
      rw [hp] at e0; exact e0
end
end Hc

namespace Hc
open PySem PySem.Spec PyProof.Rows L2 Hr
theorem call_lenS {X : Cx} : CallR X (.builtin "len") (fun xs H Q => ∃ p ys, xs = [.ref p] ∧ (SqL X.K H p ys ∨ SqT X.K H p ys) ∧ Q (.int ys.length) H) := call_len_seq
def spRk (C : Addr) : Sp := fun vs H Q _ => ∃ k t ds, vs = [.str k, .ref t] ∧ Is C H (.ref t) (.tup ds) ∧ Fit (.tup ds) ∧ ∀ H', Same H H' → Q (.int ((rank (.atom k ds) : Nat) : Int)) H'
def mostR (k : Str) : Nat := if k = "token" then 36 else 40
def spMost : Sp := fun vs H Q _ => ∃ k, vs = [.str k] ∧ Q (.int ((mostR k : Nat) : Int)) H
def isS : D → Bool | .str _ => true | _ => false
def isI : D → Bool | .int _ => true | _ => false
def isT : D → Bool | .tup _ => true | _ => false
def hasF (d : D) (z : Str) : Bool :=
  if z = "text" then isS d
  else if z = "number" then isI d
  else if z = "tuple" then isT d
  else if z = "hidden" then (match d with | .non => true | .tup ds => decide (ds.length = 4) | _ => false)
  else if z = "pages" then (match d with | .tup ds => decide (ds.length = 8) | _ => false)
  else true
def spHasF (C : Addr) : Sp := fun vs H Q _ => ∃ x d z, vs = [x, .str z] ∧ Is C H x d ∧ Q (.bl (hasF d z)) H
theorem inV2 (k : Str) : inV (.str k) [.str "seal", .str "page"] = (decide (k = "seal") || decide (k = "page")) := by
  have e : ∀ a b : Str, eqV (.str a) (.str b) = decide (b = a) := fun a b => by
    simp only [eqV]
    by_cases h : a = b
    · subst h; simp
    · simp [h, Ne.symm h, fun z : b = a => h z.symm]
  show ([V.str "seal", .str "page"].any fun y => eqV y (.str k)) = _
  rw [List.any_cons, List.any_cons, e, e]
  simp
section
variable {P : Program} {w : World} {K : PySem.W.Frag} {mg : Str → Option Value} {base : Heap} {f : Addr} {fd : FuncData} {C : Addr}
abbrev s_rank_of : Stmt := top 17
theorem sc_rank_of : FnScope ["word", "atom"] ["word"] (C8.fnScope s_rank_of) := C8.fnScope_by (by decide +kernel)
theorem ok_rank_of (F : C8.Def K mg "rank_of" s_rank_of f fd) (b : Binds K fd ["word"] []) (T : Txt K mg w C) (c__places_of_atoms : C8.Cal P w K mg base 1 "_places_of_atoms" (spPlaces C) []) : C8.Cal P w K mg base 2 "rank_of" (spN C Fit rank) [] := by
  refine C8.cal0 F b .nil sc_rank_of (fun vs H Q E h => ?_) (fun cdv A outer s H vs Q E hr h => ?_)
  · obtain ⟨x, d, rfl, _⟩ := h; rfl
  obtain ⟨x, d, rfl, hx, hz, q⟩ := h
  refine ⟨_, (pss_one (ps_ret (pe_callBK (call_maxDK rfl) rfl T.z_max bt_max (pa_cons (pe_lc (own := [("atom", 1)]) (te := tFld K (tVar 1) "rank") (g := gName 1) rfl sc_rank_of.nd (pi_list (C8.pe_c c__places_of_atoms hr (by first | decide | omega) rfl (pa_cons (pv 0) pa_nil))) (blkOk_by (own := [("atom", 1)]) (N := ["word", "atom"]) (sc := C8.fnScope s_rank_of) (by decide +kernel)) (fun _ _ _ _ _ => (pg_name (i := 1) sc_rank_of.nd rfl (Or.inl rfl))) (fun _ _ _ _ _ => pts_nil) (fun _ _ _ _ _ => (pe_fld (pv 1) rfl))) pa_nil) (pk_cons pe_int pk_nil)))), ?_⟩
  refine ⟨x, rfl, x, d, rfl, hx, hz, fun H1 p xs sm hp hl is => ⟨p, rfl, ⟨xs, SqL.of hl⟩, fun Dl hD => ?_⟩⟩
  have npD : p ≠ Dl := fun z => by rw [z] at hl; rw [hl] at hD; cases hD
  refine lc_list (K := K) (a := p) (xs := xs) (fun i H3 => Same H1 H3 ∧ H3 Dl = some (.lst (((places d).take i).map fun e => V.int ((rank e : Nat) : Int)))) ⟨same_new hD, upd_same⟩ (fun i H3 _ h => SqL.of (h.1 _ _ hl)) ?_ ?_
  · rintro i z H3 hi ⟨s3, hz3⟩
    obtain ⟨e, he, hie⟩ := is.at hi
    obtain ⟨k, gs, rfl⟩ := places_atom d e (List.mem_of_getElem? he)
    refine ⟨rfl, yes ?_⟩
    have hie3 := hie.same s3
    cases hie3 with
    | @atom aa dx at_ _ axs _ h1 h2 h3 =>
      have hlt := (List.getElem?_eq_some_iff.mp he).1
      have hpl := places_len d
      have hzz := hz.1
      refine ⟨_, rfl, aa, C, dx, _, _, rfl, h1, T.cl.cl, T.cl.nR, rfl, _, hz3, Nat.lt_of_lt_of_le (show _ < 1000001 by rw [List.length_map, List.length_take]; omega) (by decide), same_put s3 hD, ?_⟩
      rw [upd_same, List.take_add_one, he, List.map_append]; rfl
  · rintro H3 ⟨s3, hz3⟩
    rw [is.len, List.take_of_length_le (Nat.le_refl _)] at hz3
    refine ⟨Dl, (places d).map fun e => ((rank e : Nat) : Int), 0, rfl, rfl, SqL.of (by rw [List.map_map]; exact hz3), fun m h0 h1 => ?_⟩
    have em : m = ((rank d : Nat) : Int) := by
      obtain ⟨r1, r2⟩ := places_rank d
      by_cases hp0 : places d = []
      · have hr0 : ¬ 0 < rank d := fun z => by
          obtain ⟨e, he, _⟩ := r2 z
          rw [hp0] at he; cases he
        rw [h0 (by rw [hp0]; rfl)]; omega
      · obtain ⟨hm, hall⟩ := h1 (by simpa using hp0)
        obtain ⟨e, he, rfl⟩ := List.mem_map.mp hm
        have h5 := r1 e he
        have hpos : 0 < rank d := by
          obtain ⟨k, gs, rfl⟩ := places_atom d e he
          have : 0 < rank (.atom k gs) := by simp only [rank]; split <;> omega
          omega
        obtain ⟨e2, he2, hr2⟩ := r2 hpos
        have := hall _ (List.mem_map.mpr ⟨e2, he2, rfl⟩)
        omega
    rw [em]
    exact q H3 (sm.trans s3)
abbrev s__rank_of_atom : Stmt := top 27
theorem sc__rank_of_atom : FnScope ["kind", "term"] ["kind", "term"] (C8.fnScope s__rank_of_atom) := C8.fnScope_by (by decide +kernel)
theorem ok__rank_of_atom (F : C8.Def K mg "_rank_of_atom" s__rank_of_atom f fd) (b : Binds K fd ["kind", "term"] []) (T : Txt K mg w C) (c_rank_of : C8.Cal P w K mg base 2 "rank_of" (spN C Fit rank) []) : C8.Cal P w K mg base 3 "_rank_of_atom" (spRk C) [] := by
  refine C8.cal0 F b .nil sc__rank_of_atom (fun vs H Q E h => ?_) (fun cdv A outer s H vs Q E hr h => ?_)
  · obtain ⟨k, t, ds, rfl, _⟩ := h; rfl
  obtain ⟨k, t, ds, rfl, hx, hz, q⟩ := h
  refine ⟨_, (pss_cons (ps_if (pt_cmpR op_in_seq (pv 0) (pe_tup (pa_cons pe_str (pa_cons pe_str pa_nil))) (by with_unfolding_all rfl)) (pss_one (ps_ret pe_int)) pss_nil)
      (pss_one (ps_ret (pe_op op_add (C8.pe_c c_rank_of hr (by first | decide | omega) rfl (pa_cons (pv 1) pa_nil)) pe_int)))), ?_⟩
  refine ⟨_, rfl, (by show 2 ≤ sizeLine; decide), fun u hu => ?_⟩
  have s1 := same_new (o := .tup [.str "seal", .str "page"]) hu
  refine ⟨u, _, rfl, .inr (SqT.of upd_same), rfl, rfl, _, rfl, ?_⟩
  show (if (inV (.str k) [.str "seal", .str "page"]) = true then _ else _)
  rw [inV2]
  by_cases c : k = "seal" ∨ k = "page"
  · have e : rank (.atom k ds) = 1 := by simp only [rank]; rw [if_pos c]
    rw [e] at q
    refine bT (by simpa using c) (q _ s1)
  · have e : rank (.atom k ds) = rankL ds + 1 := by simp only [rank]; rw [if_neg c]
    rw [e] at q
    refine bF (by simpa using c) ⟨_, rfl, _, .tup ds, rfl, hx.same s1, hz, fun H2 s2 => ⟨_, _, rfl, rfl, ?_⟩⟩
    have q2 := q H2 (s1.trans s2)
    have e2 : (((rankL ds + 1 : Nat)) : Int) = ((rank (.tup ds) : Nat) : Int) + 1 := by simp only [rank]; omega
    rw [e2] at q2
    exact q2
abbrev s__most_rank : Stmt := top 28
theorem sc__most_rank : FnScope ["kind"] ["kind"] (C8.fnScope s__most_rank) := C8.fnScope_by (by decide +kernel)
theorem ok__most_rank (F : C8.Def K mg "_most_rank" s__most_rank f fd) (b : Binds K fd ["kind"] []) (T : Txt K mg w C) : C8.Cal P w K mg base 1 "_most_rank" spMost [] := by
  refine C8.cal0 F b .nil sc__most_rank (fun vs H Q E h => ?_) (fun cdv A outer s H vs Q E hr h => ?_)
  · obtain ⟨k, rfl, _⟩ := h; rfl
  obtain ⟨k, rfl, q⟩ := h
  refine ⟨_, (pss_one (ps_ret (pe_ifExp (pt_cmpR op_eq (pv 0) pe_str (nomark _)) (C8.pe_gc rfl T.c_MOST_RANK_HOST) (C8.pe_gc rfl T.c_MOST_RANK)))), ?_⟩
  refine ⟨_, rfl, rfl, _, rfl, ?_⟩
  unfold mostR at q
  by_cases c : k = "token"
  · rw [if_pos c] at q
    exact ifT (congrArg V.str c) q
  · rw [if_neg c] at q
    exact ifF (fun z => c (V.str.inj z)) q
abbrev s_has_form_words : Stmt := top 25
theorem sc_has_form_words : FnScope ["part", "form"] ["part", "form"] (C8.fnScope s_has_form_words) := C8.fnScope_by (by decide +kernel)
theorem ok_has_form_words (F : C8.Fun K "_has_form" "_has_form" s_has_form_words f fd) (hm : mg "has_form_words" = some (.ref f)) (kp : PySem.W.keepIn K (.ref f) = true) (b : Binds K fd ["part", "form"] []) (T : Txt K mg w C) : C8.Cal P w K mg base 1 "has_form_words" (spHasF C) [] := by
  refine calA F hm kp b .nil sc_has_form_words (fun vs H Q E h => ?_) (fun cdv A outer s H vs Q E hr h => ?_)
  · obtain ⟨x, d, z, rfl, _⟩ := h; rfl
  obtain ⟨x, d, z, rfl, hx, q⟩ := h
  refine ⟨_, (pss_cons (ps_if (pt_cmpR op_eq (pv 1) pe_str (nomark _)) (pss_one (ps_ret (pe_cmpR (op_isTyA (C := C)) (pe_callTy (call_typeA (C := C)) rfl T.z_type bt_type (pa_cons (pv 0) pa_nil)) (pe_bltn (v := .ty "str") rfl T.z_str bt_str rfl) (nomark _)))) pss_nil)
      (pss_cons (ps_if (pt_cmpR op_eq (pv 1) pe_str (nomark _)) (pss_one (ps_ret (pe_cmpR (op_isTyA (C := C)) (pe_callTy (call_typeA (C := C)) rfl T.z_type bt_type (pa_cons (pv 0) pa_nil)) (pe_bltn (v := .ty "int") rfl T.z_int bt_int rfl) (nomark _)))) pss_nil)
      (pss_cons (ps_if (pt_cmpR op_eq (pv 1) pe_str (nomark _)) (pss_one (ps_ret (pe_cmpR (op_isTyA (C := C)) (pe_callTy (call_typeA (C := C)) rfl T.z_type bt_type (pa_cons (pv 0) pa_nil)) (pe_bltn (v := .ty "tuple") rfl T.z_tuple bt_tuple rfl) (nomark _)))) pss_nil)
      (pss_cons (ps_if (pt_cmpR op_eq (pv 1) pe_str (nomark _)) (pss_one (ps_ret (pe_or (pe_cmpR op_isN (pv 0) pe_non (nomark _)) (pe_one (pe_and (pe_cmpR (op_isTyA (C := C)) (pe_callTy (call_typeA (C := C)) rfl T.z_type bt_type (pa_cons (pv 0) pa_nil)) (pe_bltn (v := .ty "tuple") rfl T.z_tuple bt_tuple rfl) (nomark _)) (pe_one (pe_cmpR op_eq (pe_callB call_lenS rfl T.z_len bt_len (pa_cons (pv 0) pa_nil)) pe_int (nomark _)))))))) pss_nil)
      (pss_cons (ps_if (pt_cmpR op_eq (pv 1) pe_str (nomark _)) (pss_one (ps_ret (pe_and (pe_cmpR (op_isTyA (C := C)) (pe_callTy (call_typeA (C := C)) rfl T.z_type bt_type (pa_cons (pv 0) pa_nil)) (pe_bltn (v := .ty "tuple") rfl T.z_tuple bt_tuple rfl) (nomark _)) (pe_one (pe_cmpR op_eq (pe_callB call_lenS rfl T.z_len bt_len (pa_cons (pv 0) pa_nil)) pe_int (nomark _)))))) pss_nil)
      (pss_one (ps_ret pe_bl))))))), ?_⟩
  have q := q
  unfold hasF at q
  have kS : decide (kyV C d = .ty "str") = isS d := by cases d <;> simp [kyV, isS]
  have kI : decide (kyV C d = .ty "int") = isI d := by cases d <;> simp [kyV, isI]
  have kT : decide (kyV C d = .ty "tuple") = isT d := by cases d <;> simp [kyV, isT]
  refine ⟨_, rfl, rfl, _, rfl, ?_⟩
  by_cases c1 : z = "text"
  · rw [if_pos c1] at q
    refine ifT (congrArg V.str c1) ⟨x, rfl, x, d, rfl, hx, kyV_ok d, .inl ⟨_, rfl⟩, ?_⟩
    rw [kS]; exact q
  rw [if_neg c1] at q
  refine ifF (fun y => c1 (V.str.inj y)) ⟨_, rfl, rfl, _, rfl, ?_⟩
  by_cases c2 : z = "number"
  · rw [if_pos c2] at q
    refine ifT (congrArg V.str c2) ⟨x, rfl, x, d, rfl, hx, kyV_ok d, .inl ⟨_, rfl⟩, ?_⟩
    rw [kI]; exact q
  rw [if_neg c2] at q
  refine ifF (fun y => c2 (V.str.inj y)) ⟨_, rfl, rfl, _, rfl, ?_⟩
  by_cases c3 : z = "tuple"
  · rw [if_pos c3] at q
    refine ifT (congrArg V.str c3) ⟨x, rfl, x, d, rfl, hx, kyV_ok d, .inl ⟨_, rfl⟩, ?_⟩
    rw [kT]; exact q
  rw [if_neg c3] at q
  refine ifF (fun y => c3 (V.str.inj y)) ⟨_, rfl, rfl, _, rfl, ?_⟩
  by_cases c4 : z = "hidden"
  · rw [if_pos c4] at q
    refine ifT (congrArg V.str c4) ⟨x, rfl, rfl, _, rfl, ?_⟩
    cases hx with
    | non => exact iteT q
    | @tup a xs ds ht ha =>
      have hl := ha.len
      refine iteF ⟨_, rfl, _, .tup ds, rfl, .tup ht ha, kyV_ok _, .inl ⟨_, rfl⟩, _, rfl, ?_⟩
      refine ifT rfl ⟨_, rfl, a, xs, rfl, .inr (SqT.of ht), rfl, ?_⟩
      have e : decide (V.int (xs.length : Int) = V.int 4) = decide (ds.length = 4) := by
        rw [hl]; by_cases c : ds.length = 4
        · rw [c]; rfl
        · rw [decide_eq_false c, decide_eq_false fun y => c (by have := V.int.inj y; omega)]
      rw [e]; exact q
    | bl y => exact iteF ⟨_, rfl, _, .bl y, rfl, .bl y, kyV_ok _, .inl ⟨_, rfl⟩, _, rfl, ifF (by simp [kyV]) q⟩
    | int y => exact iteF ⟨_, rfl, _, .int y, rfl, .int y, kyV_ok _, .inl ⟨_, rfl⟩, _, rfl, ifF (by simp [kyV]) q⟩
    | str y => exact iteF ⟨_, rfl, _, .str y, rfl, .str y, kyV_ok _, .inl ⟨_, rfl⟩, _, rfl, ifF (by simp [kyV]) q⟩
    | lst h1 h2 => exact iteF ⟨_, rfl, _, .lst _, rfl, .lst h1 h2, kyV_ok _, .inl ⟨_, rfl⟩, _, rfl, ifF (by simp [kyV]) q⟩
    | dct h1 => exact iteF ⟨_, rfl, _, .dct, rfl, .dct h1, kyV_ok _, .inl ⟨_, rfl⟩, _, rfl, ifF (by simp [kyV]) q⟩
    | atom h1 h2 h3 => exact iteF ⟨_, rfl, _, .atom _ _, rfl, .atom h1 h2 h3, kyV_ok _, .inl ⟨_, rfl⟩, _, rfl, ifF (by simp [kyV]) q⟩
  rw [if_neg c4] at q
  refine ifF (fun y => c4 (V.str.inj y)) ⟨_, rfl, rfl, _, rfl, ?_⟩
  by_cases c5 : z = "pages"
  · rw [if_pos c5] at q
    refine ifT (congrArg V.str c5) ⟨x, rfl, x, d, rfl, hx, kyV_ok d, .inl ⟨_, rfl⟩, _, rfl, ?_⟩
    by_cases ct : kyV C d = .ty "tuple"
    · obtain ⟨ds, rfl⟩ := kyV_tup.mp ct
      cases hx with
      | @tup a xs _ ht ha =>
        have hl := ha.len
        refine ifT ct ⟨_, rfl, a, xs, rfl, .inr (SqT.of ht), rfl, ?_⟩
        have e : decide (V.int (xs.length : Int) = V.int 8) = decide (ds.length = 8) := by
          rw [hl]; by_cases c : ds.length = 8
          · rw [c]; rfl
          · rw [decide_eq_false c, decide_eq_false fun y => c (by have := V.int.inj y; omega)]
        rw [e]; exact q
    · refine ifF ct ?_
      cases d <;> first | exact q | exact absurd rfl ct
  rw [if_neg c5] at q
  exact ifF (fun y => c5 (V.str.inj y)) q
end
end Hc

namespace Hc
open PySem PySem.Spec PyProof.Rows L2 Hr
theorem walk_zipT {K : PySem.W.Frag} {a b : Addr} {xs ys : List V} {n : Nat} (hn : n = min xs.length ys.length) : Walk (RZ.ItzT K a b) n (fun H => SqT K H a xs ∧ SqT K H b ys) (YPair (fun i => xs[i]?) (fun i => ys[i]?)) := by
  subst hn
  refine ⟨fun i _ hi q => ?_, fun _ q => ⟨xs, ys, q.1, q.2, by omega⟩, fun i H v H' _ q y => ?_⟩
  · have h1 : i < xs.length := by omega
    have h2 : i < ys.length := by omega
    exact ⟨xs, ys, xs[i], ys[i], q.1, q.2, by simp [h1], by simp [h2]⟩
  · obtain ⟨t, x, z, e1, e2, e3, e4, e5⟩ := y
    exact ⟨t, x, z, e1, e2, e3, e4 xs q.1, e5 ys q.2⟩
def formsOf (k : Str) : Option (List Str) :=
  if k = "token" then some ["text", "tuple", "word"]
  else if k = "challenge" then some ["text", "number"]
  else if k = "seal" then some ["text", "number", "number", "hidden"]
  else if k = "page" then some ["text", "number", "number", "hidden"]
  else if k = "ticket" then some ["text", "number", "text", "tuple", "pages", "tuple"]
  else none
def partOk (d : D) (z : Str) : Bool := okW 40 40 0 d && hasF d z
def isTermK (k : Str) (ds : List D) : Bool := match formsOf k with
  | some fs => decide (ds.length = fs.length) && (ds.zip fs).all fun p => partOk p.1 p.2
  | none => false
def isTermD : D → D → Bool
  | .str k, .tup ds => isTermK k ds
  | _, _ => false
def KindOk : D → Prop
  | .str k => k = "token" ∨ k = "challenge" ∨ k = "seal" ∨ k = "page" ∨ k = "ticket" ∨ k = "key"
  | _ => True
theorem forms_at {K : PySem.W.Frag} {mg : Str → Option Value} {w : World} {C : Addr} (T : Txt K mg w C) : ∃ Fo, (∃ u, mg "FORMS_words" = some u ∧ RelV (.ref Fo) u) ∧ (∃ es n, KDict K w Fo es n) ∧
    ∀ k : Str, KindOk (.str k) → (∃ t fs, formsOf k = some fs ∧ KDct K w Fo k (.ref t) ∧ KTup K t fs) ∨ (formsOf k = none ∧ PySem.W.nsIn K Fo k = some none) := by
  obtain ⟨Fo, t1, t2, t3, t4, t5, gF, KD, d1, d2, d3, d4, d5, d6, k1, k2, k3, k4, k5⟩ := T.forms
  refine ⟨Fo, gF, KD, fun k hk => ?_⟩
  rcases hk with rfl | rfl | rfl | rfl | rfl | rfl
  · exact .inl ⟨t1, _, by decide +kernel, d1, k1⟩
  · exact .inl ⟨t2, _, by decide +kernel, d2, k2⟩
  · exact .inl ⟨t3, _, by decide +kernel, d3, k3⟩
  · exact .inl ⟨t4, _, by decide +kernel, d4, k4⟩
  · exact .inl ⟨t5, _, by decide +kernel, d5, k5⟩
  · exact .inr ⟨by decide +kernel, d6⟩
def spTerm (C : Addr) : Sp := fun vs H Q _ => ∃ xk xt dk dt, vs = [xk, xt] ∧ Is C H xk dk ∧ Is C H xt dt ∧ KindOk dk ∧ Fit dt ∧ ∀ H', Same H H' → Q (.bl (isTermD dk dt)) H'
theorem Fit.part {ds : List D} {d : D} (h : Fit (.tup ds)) (hd : d ∈ ds) : Fit d := by
  refine ⟨?_, txlL_mem (by simpa [txl] using h.2) hd⟩
  have h1 := h.1
  simp only [sz] at h1
  have : sz d ≤ szL ds := by
    clear h h1
    induction ds with
    | nil => cases hd
    | cons x r ih =>
      simp only [szL]
      rcases List.mem_cons.mp hd with rfl | hd
      · omega
      · have := ih hd; omega
  omega
def spInit (C : Addr) : Sp := fun vs H Q _ => ∃ p dx k t ds, vs = [.ref p, .str k, .ref t] ∧ H p = some (.ins C dx []) ∧ Is C H (.ref t) (.tup ds) ∧ isTermK k ds = true ∧ rank (.atom k ds) ≤ mostR k ∧ Fit (.tup ds) ∧
  ∀ H', H' p = some (.ins C dx (atF k t (rank (.atom k ds)))) → (∀ b o, H b = some o → b ≠ p → H' b = some o) → Q .non H'
theorem put_at (k : Str) (t : Addr) (r : Nat) : putF "_stripped" .non (putF "rank" (.int (r : Int)) (putF "term" (.ref t) (putF "kind" (.str k) []))) = atF k t r := by
  have n1 : ¬ (("kind" : Str) = "term") := by decide +kernel
  have n2 : ¬ (("kind" : Str) = "rank") := by decide +kernel
  have n3 : ¬ (("term" : Str) = "rank") := by decide +kernel
  have n4 : ¬ (("kind" : Str) = "_stripped") := by decide +kernel
  have n5 : ¬ (("term" : Str) = "_stripped") := by decide +kernel
  have n6 : ¬ (("rank" : Str) = "_stripped") := by decide +kernel
  simp [putF, atF, n1, n2, n3, n4, n5, n6]
theorem term_kind {k : Str} {ds : List D} (h : isTermK k ds = true) : KindOk (.str k) := by
  unfold isTermK formsOf at h
  unfold KindOk
  by_cases c1 : k = "token"
  · exact .inl c1
  by_cases c2 : k = "challenge"
  · exact .inr (.inl c2)
  by_cases c3 : k = "seal"
  · exact .inr (.inr (.inl c3))
  by_cases c4 : k = "page"
  · exact .inr (.inr (.inr (.inl c4)))
  by_cases c5 : k = "ticket"
  · exact .inr (.inr (.inr (.inr (.inl c5))))
  rw [if_neg c1, if_neg c2, if_neg c3, if_neg c4, if_neg c5] at h
  cases h
section
variable {P : Program} {w : World} {K : PySem.W.Frag} {mg : Str → Option Value} {base : Heap} {f : Addr} {fd : FuncData} {C : Addr}
abbrev s__is_term : Stmt := top 24
theorem sc__is_term : FnScope ["kind", "term", "forms", "part", "form"] ["kind", "term"] (C8.fnScope s__is_term) := C8.fnScope_by (by decide +kernel)
theorem ok__is_term (F : C8.Def K mg "_is_term" s__is_term f fd) (b : Binds K fd ["kind", "term"] []) (T : Txt K mg w C) (c_is_word : C8.Cal P w K mg base 3 "is_word" (spB C Fit (okW 40 40 0)) []) (c_has_form_words : C8.Cal P w K mg base 1 "has_form_words" (spHasF C) []) : C8.Cal P w K mg base 4 "_is_term" (spTerm C) [] := by
  refine C8.cal0 F b .nil sc__is_term (fun vs H Q E h => ?_) (fun cdv A outer s H vs Q E hr h => ?_)
  · obtain ⟨xk, xt, dk, dt, rfl, _⟩ := h; rfl
  obtain ⟨xk, xt, dk, dt, rfl, hk, ht, hok, hz, q⟩ := h
  obtain ⟨Fo, gF, ⟨es, n, KD⟩, hf⟩ := forms_at T
  refine ⟨_, (pss_cons (ps_if (PW.pt (pw_or (pt_cmpR (op_isNotTyA (C := C)) (pe_callTy (call_typeA (C := C)) rfl T.z_type bt_type (pa_cons (pv 0) pa_nil)) (pe_bltn (v := .ty "str") rfl T.z_str bt_str rfl) (nomark _)) (pw_or (pt_cmpR (op_notIn_kd KD) (pv 0) (C8.pe_gc rfl gF) (by with_unfolding_all rfl)) (pw_or1 (pt_cmpR (op_isNotTyA (C := C)) (pe_callTy (call_typeA (C := C)) rfl T.z_type bt_type (pa_cons (pv 1) pa_nil)) (pe_bltn (v := .ty "tuple") rfl T.z_tuple bt_tuple rfl) (nomark _)))))) (pss_one (ps_ret pe_bl)) pss_nil)
      (pss_cons (ps_set (i := 2) sc__is_term.nd rfl (Or.inl rfl) (pe_ix ix_kdict (C8.pe_gc rfl gF) (pv 0) (fun _ _ => rfl)))
      (pss_cons (ps_if (pt_cmpR op_ne (pe_callB call_lenS rfl T.z_len bt_len (pa_cons (pv 1) pa_nil)) (pe_callB call_lenS rfl T.z_len bt_len (pa_cons (pv 2) pa_nil)) (nomark _)) (pss_one (ps_ret pe_bl)) pss_nil)
      (pss_one (ps_ret (pe_callB (cr_all rfl) rfl T.z_all bt_all (pa_cons (pe_lc (own := [("part", 3), ("form", 4)]) (g := gTup K 2 (gCons (gName 3) (gCons (gName 4) gNil))) rfl sc__is_term.nd (RZ.pi_zipA rfl T.z_zip (pa_cons (pv 1) (pa_cons (pv 2) pa_nil))) (blkOk_by (own := [("part", 3), ("form", 4)]) (N := ["kind", "term", "forms", "part", "form"]) (sc := C8.fnScope s__is_term) (by decide +kernel)) (fun _ _ _ _ _ => (pg_tup rfl (pgs_cons (pg_name (i := 3) sc__is_term.nd rfl (Or.inl rfl)) (pgs_cons (pg_name (i := 4) sc__is_term.nd rfl (Or.inl rfl)) pgs_nil)))) (fun _ _ _ _ _ => pts_nil) (fun _ _ _ _ _ => (pe_and (C8.pe_c c_is_word hr (by first | decide | omega) rfl (pa_cons (pv 3) pa_nil)) (pe_one (C8.pe_c c_has_form_words hr (by first | decide | omega) rfl (pa_cons (pv 3) (pa_cons (pv 4) pa_nil))))))) pa_nil))))))), ?_⟩
  refine ⟨_, rfl, xk, dk, rfl, hk, kyV_ok dk, .inl ⟨_, rfl⟩, _, rfl, ?_⟩
  by_cases c1 : kyV C dk = .ty "str"
  · obtain ⟨k, rfl⟩ := kyV_str.mp c1
    rw [decide_eq_true c1]
    cases hk
    rcases hf k hok with ⟨tf, fs, e1, kd, kt⟩ | ⟨e1, kn⟩
    · obtain ⟨es', n', u, kl, kk, kn, ru⟩ := id kd
      refine iteF ⟨_, rfl, k, some u, rfl, rfl, kn, _, rfl, iteF ?_⟩
      refine ⟨_, rfl, xt, dt, rfl, ht, kyV_ok dt, .inl ⟨_, rfl⟩, _, rfl, ?_⟩
      by_cases c2 : kyV C dt = .ty "tuple"
      · obtain ⟨ds, rfl⟩ := kyV_tup.mp c2
        rw [decide_eq_true c2]
        cases ht with
        | @tup ta xs _ hta hxs =>
          have hl := hxs.len
          refine iteF ⟨_, rfl, Fo, k, _, rfl, rfl, kd, ?_⟩
          refine ⟨_, rfl, ta, xs, rfl, .inr (SqT.of hta), _, rfl, tf, _, rfl, .inr (kt H), rfl, _, rfl, ?_⟩
          have eT : isTermD (.str k) (.tup ds) = (decide (ds.length = fs.length) && (ds.zip fs).all fun p => partOk p.1 p.2) := by
            simp only [isTermD, isTermK, e1]
          rw [eT] at q
          by_cases c3 : ds.length = fs.length
          · refine bF (by rw [hl, List.length_map, c3]; simp) ?_
            rw [decide_eq_true c3, Bool.true_and] at q
            refine ⟨_, rfl, _, rfl, ta, tf, xs, fs.map V.str, rfl, .inr ⟨SqT.of hta, kt H, fun Dl hD => ?_⟩⟩
            have hmin : ds.length = min xs.length (fs.map V.str).length := by rw [hl, List.length_map]; omega
            refine lc_it (walk_zipT (K := K) (a := ta) (b := tf) (xs := xs) (ys := fs.map V.str) hmin) (fun i H3 => Same H H3 ∧ H3 Dl = some (.lst (((ds.zip fs).take i).map fun p => V.bl (partOk p.1 p.2)))) ⟨same_new hD, upd_same⟩ (fun i H3 _ h => ⟨SqT.of (h.1 _ _ hta), kt H3⟩) ?_ ?_
            · rintro i v H3 H4 hi ⟨s3, hz3⟩ ⟨t, x, y, rfl, nt, rfl, ex, ey⟩
              have ex : xs[i]? = some x := ex
              obtain ⟨d, hd, hx⟩ := hxs.at ex
              obtain ⟨z, hz2, rfl⟩ : ∃ z, fs[i]? = some z ∧ y = V.str z := by
                have ey : (fs.map V.str)[i]? = some y := ey
                rw [List.getElem?_map] at ey
                cases h : fs[i]? with
                | none => rw [h] at ey; cases ey
                | some z => rw [h] at ey; exact ⟨z, rfl, (Option.some.inj ey).symm⟩
              have s4 := same_new (o := .tup [x, .str z]) nt
              refine ⟨t, [x, .str z], rfl, SqT.of upd_same, rfl, x, [.str z], rfl, .str z, [], rfl, rfl, rfl, yes ?_⟩
              refine ⟨_, rfl, x, d, rfl, hx.same (s3.trans s4), hz.part (List.mem_of_getElem? hd), fun H5 s5 => ⟨_, rfl, ?_⟩⟩
              have hpz : (ds.zip fs)[i]? = some (d, z) := by rw [List.getElem?_zip_eq_some]; exact ⟨hd, hz2⟩
              have s35 := (s3.trans s4).trans s5
              have hz5 := s5 _ _ (s4 _ _ hz3)
              have fin : ∀ r, r = partOk d z → ∃ acc, H5 Dl = some (.lst acc) ∧ acc.length < sizeLine ∧ Same H (upd H5 Dl (.lst (acc ++ [.bl r]))) ∧ (upd H5 Dl (.lst (acc ++ [.bl r]))) Dl = some (.lst (((ds.zip fs).take (i + 1)).map fun p => V.bl (partOk p.1 p.2))) := fun r er => by
                subst er
                refine ⟨_, hz5, Nat.lt_of_lt_of_le (show _ < 1000001 by rw [List.length_map, List.length_take]; have := hz.1; have := len_szL ds; simp only [sz] at *; omega) (by decide), same_put s35 hD, ?_⟩
                rw [upd_same, List.take_add_one, hpz, List.map_append]; rfl
              cases ho : okW 40 40 0 d with
              | true => exact iteT ⟨_, rfl, _, rfl, x, d, z, rfl, hx.same s35, fin _ (by simp [partOk, ho])⟩
              | false => exact iteF (fin _ (by simp [partOk, ho]))
            · rintro H3 ⟨s3, hz3⟩
              have hzl : (ds.zip fs).length = ds.length := by rw [List.length_zip]; omega
              rw [List.take_of_length_le (by omega)] at hz3
              refine ⟨Dl, (ds.zip fs).map fun p => partOk p.1 p.2, rfl, SqL.of (by rw [List.map_map]; exact hz3), ?_⟩
              have e9 : ((ds.zip fs).map fun p => partOk p.1 p.2).all id = (ds.zip fs).all fun p => partOk p.1 p.2 := by rw [List.all_map]; rfl
              rw [e9]
              exact q H3 s3
          · refine bT (by rw [hl, List.length_map, decide_eq_false (fun z => c3 (by have := V.int.inj z; omega))]; rfl) ?_
            rw [decide_eq_false c3, Bool.false_and] at q
            exact q H (Same.refl H)
      · rw [decide_eq_false c2]
        have e : isTermD (.str k) dt = false := by cases dt <;> first | rfl | exact absurd rfl c2
        rw [e] at q
        exact iteT (q H (Same.refl H))
    · refine iteF ⟨_, rfl, k, none, rfl, rfl, kn, _, rfl, iteT ?_⟩
      have e : isTermD (.str k) dt = false := by cases dt <;> simp [isTermD, isTermK, e1]
      rw [e] at q
      exact q H (Same.refl H)
  · rw [decide_eq_false c1]
    have e : isTermD dk dt = false := by cases dk <;> first | rfl | exact absurd rfl c1
    rw [e] at q
    exact iteT (q H (Same.refl H))
abbrev s_Atom___init__ : Stmt := L2.inClass (top 20) 0
theorem sc_Atom___init__ : FnScope ["self", "kind", "term", "rank"] ["self", "kind", "term"] (C8.fnScope s_Atom___init__) := C8.fnScope_by (by decide +kernel)
theorem ok_init {fI : Addr} {fdI : FuncData} (M : Mk K C fI) (hm : mg "Atom" = some (.ref C)) (F : C8.Fun K "__init__" "Atom.__init__" s_Atom___init__ fI fdI) (b : Binds K fdI ["self", "kind", "term"] []) (T : Txt K mg w C)
    (c__is_term : C8.Cal P w K mg base 4 "_is_term" (spTerm C) []) (c__rank_of_atom : C8.Cal P w K mg base 3 "_rank_of_atom" (spRk C) []) (c__most_rank : C8.Cal P w K mg base 1 "_most_rank" spMost []) : C8.Mak P w K mg base 5 "Atom" C (spInit C) [] := by
  refine C8.mak0 M hm F b .nil sc_Atom___init__ (fun vs H Q E h => ?_) (fun cdv A outer s H vs Q E hr h => ?_)
  · obtain ⟨p, dx, k, t, ds, rfl, _⟩ := h; rfl
  obtain ⟨p, dx, k, t, ds, rfl, hp, hx, ht, hrk, hz, q⟩ := h
  refine ⟨_, (pss_cons (ps_if (pt_not (pt_val (C8.pe_c c__is_term hr (by first | decide | omega) rfl (pa_cons (pv 1) (pa_cons (pv 2) pa_nil))))) (pss_one ps_never) pss_nil)
      (pss_cons (ps_set (i := 3) sc_Atom___init__.nd rfl (Or.inl rfl) (C8.pe_c c__rank_of_atom hr (by first | decide | omega) rfl (pa_cons (pv 1) (pa_cons (pv 2) pa_nil))))
      (pss_cons (ps_if (pt_cmpR op_gt (pv 3) (C8.pe_c c__most_rank hr (by first | decide | omega) rfl (pa_cons (pv 1) pa_nil)) (nomark _)) (pss_one ps_never) pss_nil)
      (pss_cons (ps_fld (pv 0) (pv 1) rfl)
      (pss_cons (ps_fld (pv 0) (pv 2) rfl)
      (pss_cons (ps_fld (pv 0) (pv 3) rfl)
      (pss_one (ps_fld (pv 0) pe_non rfl)))))))), ?_⟩
  refine ⟨_, rfl, _, rfl, _, _, .str k, .tup ds, rfl, .str k, hx, term_kind ht, hz, fun H1 s1 => ⟨_, rfl, ?_⟩⟩
  refine bF (by simp only [isTermD, ht]; rfl) ?_
  refine ⟨_, rfl, _, rfl, k, t, ds, rfl, hx.same s1, hz, fun H2 s2 => ?_⟩
  refine ⟨_, rfl, _, rfl, k, rfl, _, _, rfl, rfl, _, rfl, ?_⟩
  refine ifF (by omega) ?_
  have hp2 := s2 _ _ (s1 _ _ hp)
  refine ⟨_, rfl, _, rfl, p, C, dx, [], rfl, hp2, T.cl.cl, T.cl.nK, (by show 0 < 1000; decide), ?_⟩
  refine ⟨_, rfl, _, rfl, p, C, dx, _, rfl, upd_same, T.cl.cl, T.cl.nT, (by show 1 < 1000; decide), ?_⟩
  refine ⟨_, rfl, _, rfl, p, C, dx, _, rfl, upd_same, T.cl.cl, T.cl.nR, (by show 2 < 1000; decide), ?_⟩
  refine ⟨_, rfl, p, C, dx, _, rfl, upd_same, T.cl.cl, T.cl.nS, (by show 3 < 1000; decide), ?_⟩
  refine q _ (Eq.trans upd_same (congrArg (fun l => some (HO.ins C dx l)) (put_at k t _))) fun c o e n => ?_
  rw [upd_ne n, upd_ne n, upd_ne n, upd_ne n]
  exact s2 _ _ (s1 _ _ e)
end
end Hc

/-! == and != of an instance with an own == and something of another kind. -/
namespace Hr
open PySem PySem.Spec PyProof.Rows PySem.SeqAt
/-- what is asked of the class at C beside its own == -/
structure Oth (K : PySem.W.Frag) (C : Addr) : Prop where
  mo : PySem.W.mroIn K C (.type "object") = some true
  nn : PySem.W.findIn K (.ref C) "__ne__" = some (some (.builtin "object.__ne__"))
  sN : PySem.W.subIn K (.ref C) (.type "NoneType") = some false
  sI : PySem.W.subIn K (.ref C) (.type "int") = some false
  sS : PySem.W.subIn K (.ref C) (.type "str") = some false
  sT : PySem.W.subIn K (.ref C) (.type "tuple") = some false
theorem sub_bi {K : PySem.W.Frag} {C : Addr} {n : String} (h : n = "NoneType" ∨ n = "int" ∨ n = "str" ∨ n = "tuple") : PySem.W.subIn K (.type n) (.ref C) = some false := by
  rcases h with rfl | rfl | rfl | rfl
  · have e : fastBuiltinMro "NoneType" = some [.type "NoneType", .type "object"] := by decide +kernel
    show (fastBuiltinMro "NoneType").map (·.contains (.ref C)) = some false
    rw [e]; first | rfl | simp
  · have e : fastBuiltinMro "int" = some [.type "int", .type "object"] := by decide +kernel
    show (fastBuiltinMro "int").map (·.contains (.ref C)) = some false
    rw [e]; first | rfl | simp
  · have e : fastBuiltinMro "str" = some [.type "str", .type "object"] := by decide +kernel
    show (fastBuiltinMro "str").map (·.contains (.ref C)) = some false
    rw [e]; first | rfl | simp
  · have e : fastBuiltinMro "tuple" = some [.type "tuple", .type "object"] := by decide +kernel
    show (fastBuiltinMro "tuple").map (·.contains (.ref C)) = some false
    rw [e]; first | rfl | simp
section
variable {prog : Program} {w : World} {A : Around} {E : Value → Shared → Prop} {s : Shared} {K : PySem.W.Frag} {x C : Addr} {ox : Obj} {od : Option Obj} {b : Value}
theorem ne_entry {M : Model} {Q : Fin → Shared → Prop} (hu : A.units < cLine) (h : wpAny M A (callSpecialIfBound? (.ref x) (Str.ofString "__eq__") [b]) (fun r s' => ∃ v, r = some (.bool v) ∧ Q (.done (.ret (.bool (!v)))) s') E s) :
    wpAny M A (Builtin.«object.__ne__» ⟨[.ref x, b], []⟩) Q E s := by
  unfold Builtin.«object.__ne__»
  repeat (first
    | with_reducible refine wpAny_cRoomFor hu ?_
    | (refine wpAny_bind (m := callSpecialIfBound? (.ref x) (Str.ofString "__eq__") [b]) (wpAny_mono h (fun r s' hr => by
          obtain ⟨v, rfl, hq⟩ := hr
          repeat (first | exact hq | exact wpAny_pure hq | exact wpAny_truthy_bool hq | (refine wpAny_bind (m := truthy (.bool _)) (wpAny_truthy_bool ?_)) | wp_step)) fun _ _ e => e))
    | wp_step)
theorem ifBound_objNe {M : Model} {args : List Value} {Q : Option Value → Shared → Prop} (X : K.In s.heap) (I : PySem.W.InstAt s.heap x ox C od) (hs : PySem.W.findIn K (.ref C) "__ne__" = some (some (.builtin "object.__ne__")))
    (h : wpAny M A (call (.builtin "object.__ne__") (.ref x :: args)) (fun v => Q (some v)) E s) : wpAny M A (callSpecialIfBound? (.ref x) "__ne__" args) Q E s := by
  simp only [callSpecialIfBound?, bindSpecialIfBound?]
  refine wpAny_holding (wpAny_bind (wpAny_bind (wpAny_bind (I.type.here ((PySem.W.looks_findIn X hs).here ?_)))))
  refine wpAny_bind (wpAny_askSetting (wpAny_ite ?_))
  have last : wpAny M A (call (.builtin "object.__ne__") ([.ref x] ++ args) >>= fun v => pure (some v)) Q E s := wpAny_bind (wpAny_mono h (fun v s' g => wpAny_pure g) fun _ _ g => g)
  split
  · exact wpAny_bind (wpAny_of_eq (F.cmp_object.ne.bind _) (wpAny_pure (by exact last)))
  · exact wpAny_tryCatch (wpAny_bind (wpAny_of_eq (F.cmp_object.ne.bind _) (wpAny_pure (by exact last))))
/-- the own == is asked of the instance at x, it says v -/
def Own (prog : Program) (w : World) (A : Around) (E : Value → Shared → Prop) (x : Addr) (b : Value) (v : Bool) (J : Shared → Prop) (s : Shared) : Prop :=
  wpAny (model prog w) A (callSpecialIfBound? (.ref x) (Str.ofString "__eq__") [b]) (fun r s' => r = some (.bool v) ∧ J s') E s
theorem call_objNe {v : Bool} {J : Shared → Prop} {Q : Value → Shared → Prop} (hu : A.units < cLine) (X : K.In s.heap) (I : PySem.W.InstAt s.heap x ox C od) (hm : PySem.W.mroIn K C (.type "object") = some true)
    (h : Own prog w A.in1 E x b v J s) (q : ∀ s', J s' → Q (.bool (!v)) s') (hu1 : A.in1.units < cLine) : wpAny (model prog w) A (call (.builtin "object.__ne__") [.ref x, b]) Q E s :=
  wpAny_call (codeAny_call_builtin F.cmp_object.ne.plain F.cmpEntry_ne (PySem.W.check_slot F.cmpKind_ne F.cmpSplit_ne (I.type.andThen (PySem.W.looks_mroIn X hm)) (F.cmpArgs_ne _ _)
    (ne_entry hu1 (wpAny_mono h (fun r s' z => ⟨v, z.1, q s' z.2⟩) fun _ _ z => z))))
theorem try_eq {v : Bool} {J : Shared → Prop} (h : Own prog w A E x b v J s) : wpAny (model prog w) A (tryCompare (.ref x) "__eq__" b) (fun r s' => r = some (.bool v) ∧ J s') E s := by
  unfold tryCompare
  refine wpAny_bind (wpAny_mono h (fun r s' z => ?_) fun _ _ z => z)
  obtain ⟨rfl, j⟩ := z
  exact wpAny_pure ⟨rfl, j⟩
theorem try_ne {v : Bool} {J : Shared → Prop} (hu : A.units < cLine) (hu1 : A.in1.units < cLine) (X : K.In s.heap) (I : PySem.W.InstAt s.heap x ox C od) (o : Oth K C)
    (h : Own prog w A.in1 E x b v J s) : wpAny (model prog w) A (tryCompare (.ref x) "__ne__" b) (fun r s' => r = some (.bool (!v)) ∧ J s') E s := by
  unfold tryCompare
  refine wpAny_bind (ifBound_objNe X I o.nn (call_objNe hu X I o.mo h (fun s' j => ?_) hu1))
  exact wpAny_pure ⟨rfl, j⟩
/-- instance == something of a built-in type -/
theorem rc_left {T : String} {op : CmpOp} {v : Bool} {J : Shared → Prop} {Q : Value → Shared → Prop} (hu : A.units < cLine) (X : K.In s.heap) (I : PySem.W.InstAt s.heap x ox C od) (hb : s.TypeIs b T) (hT : T = "NoneType" ∨ T = "int" ∨ T = "str" ∨ T = "tuple")
    (h : wpAny (model prog w) A (tryCompare (.ref x) (cmpInfo op).2.1 b) (fun r s' => r = some (.bool v) ∧ J s') E s) (q : ∀ s', J s' → Q (.bool v) s') : wpAny (model prog w) A (richCompare op (.ref x) b) Q E s := by
  unfold richCompare
  simp only [oneThing_ref]
  refine wpAny_holding (wpAny_bind (wpAny_cRoomFor hu ?_))
  refine wpAny_bind (I.type.here (wpAny_bind (wpAny_typeOf hb ?_)))
  split
  · refine wpAny_bind ((PySem.W.looks_subIn X (sub_bi hT)).here ?_)
    simp only [Bool.false_eq_true, if_false]
    refine wpAny_bind (wpAny_mono h (fun r s' z => ?_) fun _ _ z => z)
    obtain ⟨rfl, j⟩ := z
    exact wpAny_pure (q s' j)
  · rename_i z
    exact absurd (by simp) z
/-- something of a built-in type == instance: the built-in one declines -/
theorem rc_right {T id : String} {op : CmpOp} {v : Bool} {J : Shared → Prop} {Q : Value → Shared → Prop} (hu : A.units < cLine) (X : K.In s.heap) (I : PySem.W.InstAt s.heap x ox C od) (hb : s.TypeIs b T)
    (hsub : PySem.W.subIn K (.ref C) (.type T) = some false) (hone : oneThing? op b (.ref x) = none) (sl : Slot T (cmpInfo op).2.1 id)
    (dec : wpAny (model prog w) A (call (.builtin id) [b, .ref x]) (fun v s' => v = .notImplemented ∧ s' = s) E s)
    (h : wpAny (model prog w) A (tryCompare (.ref x) (cmpInfo op).2.2 b) (fun r s' => r = some (.bool v) ∧ J s') E s) (q : ∀ s', J s' → Q (.bool v) s') : wpAny (model prog w) A (richCompare op b (.ref x)) Q E s := by
  have two : wpAny (model prog w) A (tryCompare b (cmpInfo op).2.1 (.ref x)) (fun r s' => r = none ∧ s' = s) E s :=
    wpAny_tryCompare_declines hb sl (wpAny_mono dec (fun v s' z => ⟨z.1, rfl, z.2⟩) fun _ _ z => z)
  unfold richCompare
  simp only [hone]
  refine wpAny_holding (wpAny_bind (wpAny_cRoomFor hu ?_))
  refine wpAny_bind (wpAny_typeOf hb (wpAny_bind (I.type.here ?_)))
  split
  · refine wpAny_bind ((PySem.W.looks_subIn X hsub).here ?_)
    simp only [Bool.false_eq_true, if_false, Bool.not_false, if_true]
    refine wpAny_bind (m := tryCompare b _ (.ref x)) (wpAny_mono two (fun r s1 z => ?_) fun _ _ z => z)
    obtain ⟨z1, z2⟩ := z
    subst z1
    subst z2
    refine wpAny_bind (m := tryCompare (.ref x) _ b) (wpAny_mono h (fun r s2 z => ?_) fun _ _ z => z)
    obtain ⟨rfl, j⟩ := z
    exact wpAny_pure (q s2 j)
  · rename_i z
    exact absurd (by simp) z
end
end Hr

namespace Hr
open PySem PySem.Spec PyProof.Rows PySem.SeqAt
open AutoSeq1 (wpAny_loadPart')
open MeetsSeq MeetsSeq2 MeetsSeq3 SeqRoads2
theorem int_eq_inst (b : Int) (u : Tok) (l C : Addr) (dx : Addr) : Meets (Builtin.«int.__eq__» ⟨[.int b u, .ref l], []⟩) (fun _ R s => s.heap.get? l = some { cls := .ref C, dict := some dx, data := .plain } ∧ R (.ok (.ret .notImplemented)) s) :=
  .of_wp fun prog w A R s h => by
    obtain ⟨hp, g, d, tk, os⟩ := s; obtain ⟨hl, h⟩ := h
    wp_walk using wpAny_loadPart' hl, wpAny_load hl
    exact ⟨_, rfl, h⟩
theorem int_ne_inst (b : Int) (u : Tok) (l C : Addr) (dx : Addr) : Meets (Builtin.«int.__ne__» ⟨[.int b u, .ref l], []⟩) (fun _ R s => s.heap.get? l = some { cls := .ref C, dict := some dx, data := .plain } ∧ R (.ok (.ret .notImplemented)) s) :=
  .of_wp fun prog w A R s h => by
    obtain ⟨hp, g, d, tk, os⟩ := s; obtain ⟨hl, h⟩ := h
    wp_walk using wpAny_loadPart' hl, wpAny_load hl
    exact ⟨_, rfl, h⟩
theorem str_eq_inst (b : Str) (u : Tok) (l C : Addr) (dx : Addr) : Meets (Builtin.«str.__eq__» ⟨[.str b u, .ref l], []⟩) (fun _ R s => s.heap.get? l = some { cls := .ref C, dict := some dx, data := .plain } ∧ R (.ok (.ret .notImplemented)) s) :=
  .of_wp fun prog w A R s h => by
    obtain ⟨hp, g, d, tk, os⟩ := s; obtain ⟨hl, h⟩ := h
    wp_walk using wpAny_loadPart' hl, wpAny_load hl
    exact ⟨_, rfl, h⟩
theorem str_ne_inst (b : Str) (u : Tok) (l C : Addr) (dx : Addr) : Meets (Builtin.«str.__ne__» ⟨[.str b u, .ref l], []⟩) (fun _ R s => s.heap.get? l = some { cls := .ref C, dict := some dx, data := .plain } ∧ R (.ok (.ret .notImplemented)) s) :=
  .of_wp fun prog w A R s h => by
    obtain ⟨hp, g, d, tk, os⟩ := s; obtain ⟨hl, h⟩ := h
    wp_walk using wpAny_loadPart' hl, wpAny_load hl
    exact ⟨_, rfl, h⟩
section
variable {prog : Program} {w : World} {A : Around} {E : Value → Shared → Prop} {s : Shared} {R : Result → Shared → Prop}
theorem tup_eq_inst {l x C dx : Addr} {items : Array Value} {n : Nat} {dd : Option Addr} {sl : Array (Option Value)} (hI : PySem.W.Looks (model prog w) s.heap (isSubtype (.ref C) (.type "tuple")) false) (hx : s.heap.get? x = some { cls := .ref C, dict := some dx, data := .plain })
    (hl : s.heap.get? l = some { cls := .type "tuple", dict := dd, data := .seq items n, slots := sl }) (h : R (.ok (.ret .notImplemented)) s) : wpAny (model prog w) A.in1 (Builtin.«tuple.__eq__» ⟨[.ref l, .ref x], []⟩) (GQ.FinOf prog w A R) (fun e s' => R (.error e) s') s := by
  obtain ⟨hp, g, d, tk, os⟩ := s
  wp_walk using wpAny_loadPart' hl, wpAny_loadPart' hx, hI.here
  exact h
theorem tup_ne_inst {l x C dx : Addr} {items : Array Value} {n : Nat} {dd : Option Addr} {sl : Array (Option Value)} (hI : PySem.W.Looks (model prog w) s.heap (isSubtype (.ref C) (.type "tuple")) false) (hx : s.heap.get? x = some { cls := .ref C, dict := some dx, data := .plain })
    (hl : s.heap.get? l = some { cls := .type "tuple", dict := dd, data := .seq items n, slots := sl }) (h : R (.ok (.ret .notImplemented)) s) : wpAny (model prog w) A.in1 (Builtin.«tuple.__ne__» ⟨[.ref l, .ref x], []⟩) (GQ.FinOf prog w A R) (fun e s' => R (.error e) s') s := by
  obtain ⟨hp, g, d, tk, os⟩ := s
  wp_walk using wpAny_loadPart' hl, wpAny_loadPart' hx, hI.here
  exact h
end
end Hr

/-! == of tuples whose items' == may run code, and may give False. -/
namespace Hr
open PySem PySem.Spec PyProof.Rows PySem.SeqAt
open AutoSeq1 (wpAny_loadPart')
open MeetsSeq MeetsSeq2 MeetsSeq3 SeqRoads2
section
variable {prog : Program} {w : World} {A : Around} {R : Result → Shared → Prop}
/-- all the pairs are equal, and there are as many -/
def allP (bs : Nat → Bool) (m n : Nat) : Bool := (List.range (min m n)).all bs && (m == n)
theorem allP_no {bs : Nat → Bool} {m n i : Nat} (hi : i < min m n) (h : bs i = false) : allP bs m n = false := by
  unfold allP
  have : (List.range (min m n)).all bs = false := by
    rw [List.all_eq_false]
    exact ⟨i, List.mem_range.mpr hi, by rw [h]; exact Bool.false_ne_true⟩
  rw [this]; rfl
theorem allP_yes {bs : Nat → Bool} {m n : Nat} (h : ∀ j, j < min m n → bs j = true) : allP bs m n = (m == n) := by
  unfold allP
  rw [List.all_eq_true.mpr fun j hj => h j (List.mem_range.mp hj)]; rfl
theorem tup_eqB {l b : Addr} {items items2 : Array Value} {n n2 : Nat} {dd dd2 : Option Addr} {sl sl2 : Array (Option Value)} {bs : Nat → Bool} {J : Shared → Prop}
    (turn : ∀ i (h1 : i < items.size) (h2 : i < items2.size) s, J s → wpAny (model prog w) A.in1 (eqBool items[i] items2[i]) (fun r s' => r = bs i ∧ J s') (fun e s' => R (.error e) s') s)
    (fin : ∀ s, J s → R (.ok (.ret (.bool (allP bs items.size items2.size)))) s) {s : Shared} (hl1 : s.heap.get? l = some { cls := .type "tuple", dict := dd, data := .seq items n, slots := sl }) (hb1 : s.heap.get? b = some { cls := .type "tuple", dict := dd2, data := .seq items2 n2, slots := sl2 }) (h : J s) :
    wpAny (model prog w) A.in1 (Builtin.«tuple.__eq__» ⟨[.ref l, .ref b], []⟩) (GQ.FinOf prog w A R) (fun e s' => R (.error e) s') s := by
  have f2 := AutoSeq1.sub_tuple_tuple
  have hZ : (items.toList.zip items2.toList).length = min items.size items2.size := by simp
  have h0 := h
  obtain ⟨hp, g, d, tk, os⟩ := s
  wp_walk using wpAny_loadPart' hl1, wpAny_loadPart' hb1, wpAny_forIn_list _ (fun rest b s' => b.1 = none ∧ ∃ i, rest = (items.toList.zip items2.toList).drop i ∧ i ≤ min items.size items2.size ∧ (∀ j, j < i → bs j = true) ∧ J s') _
  case turn =>
    rintro ⟨y, x⟩ rest b s' ⟨hb', i, hz, hi, hbs, hI⟩
    have hlt : i < (items.toList.zip items2.toList).length := by
      rcases Nat.lt_or_ge i (items.toList.zip items2.toList).length with h' | h'
      · exact h'
      · rw [List.drop_of_length_le h'] at hz; cases hz
    have hm : i < min items.size items2.size := hZ ▸ hlt
    have h1 : i < items.size := Nat.lt_of_lt_of_le hm (Nat.min_le_left _ _)
    have h2 : i < items2.size := Nat.lt_of_lt_of_le hm (Nat.min_le_right _ _)
    rw [List.drop_eq_getElem_cons hlt] at hz
    injection hz with hyx hrest
    have hy : y = items[i] := by have := congrArg Prod.fst hyx; simpa using this
    have hx : x = items2[i] := by have := congrArg Prod.snd hyx; simpa using this
    subst hy hx
    refine wpAny_bind (wpAny_mono (turn i h1 h2 s' hI) (fun r s2 q2 => ?_) fun _ _ x => x)
    obtain ⟨hr, q2⟩ := q2
    subst hr
    cases hbi : bs i with
    | true =>
      wp_walk
      exact ⟨rfl, i + 1, hrest, hm, fun j hj => by
        rcases Nat.lt_succ_iff_lt_or_eq.mp hj with h | rfl
        · exact hbs j h
        · exact hbi, q2⟩
    | false =>
      have hR := fin s2 q2
      rw [allP_no hm hbi] at hR
      wp_walk
      exact hR
  case fin =>
    rintro ⟨b1, b2⟩ s' ⟨hb', i, hz, hi, hbs, hI⟩
    simp only at hb'
    subst hb'
    have hge : min items.size items2.size ≤ i := by
      rcases Nat.lt_or_ge i (items.toList.zip items2.toList).length with h' | h'
      · rw [List.drop_eq_getElem_cons h'] at hz; cases hz
      · exact hZ ▸ h'
    have hR := fin s' hI
    rw [allP_yes fun j hj => hbs j (by omega)] at hR
    wp_walk
    simpa [Builtin.Tuple.tupleCompareSizes] using hR
  case h =>
    exact ⟨rfl, 0, rfl, Nat.zero_le _, fun j hj => absurd hj (Nat.not_lt_zero _), h0⟩
end
end Hr

namespace Hc
open PySem PySem.Spec PyProof.Rows L2 Hr PySem.SeqAt
mutual
def eqD : D → D → Bool
  | .tup a, .tup b => eqL a b
  | .atom k a, .atom k' b => decide (k = k') && eqL a b
  | .non, .non => true
  | .int i, .int j => decide (i = j)
  | .str x, .str y => decide (x = y)
  | _, _ => false
def eqL : List D → List D → Bool
  | [], [] => true
  | x :: a, y :: b => eqD x y && eqL a b
  | _, _ => false
end
mutual
/-- a word, whatever its depth -/
def wrd : D → Bool
  | .tup ds => wrdL ds
  | .atom k ds => wrdL ds && isTermK k ds
  | .non => true
  | .int _ => true
  | .str _ => true
  | _ => false
def wrdL : List D → Bool
  | [] => true
  | d :: ds => wrd d && wrdL ds
end
theorem eqL_app : ∀ {a b x y : List D}, a.length = b.length → eqL (a ++ x) (b ++ y) = (eqL a b && eqL x y)
  | [], [], x, y, _ => by simp [eqL]
  | p :: a, q :: b, x, y, h => by
    rw [List.cons_append, List.cons_append]
    simp only [eqL]
    rw [eqL_app (by simpa using h), Bool.and_assoc]
  | [], _ :: _, _, _, h => by simp at h
  | _ :: _, [], _, _, h => by simp at h
theorem eqL_len : ∀ {a b : List D}, a.length ≠ b.length → eqL a b = false
  | [], [], h => absurd rfl h
  | p :: a, q :: b, h => by
    simp only [eqL]
    rw [eqL_len (fun z => h (by simp [z])), Bool.and_false]
  | [], _ :: _, _ => rfl
  | _ :: _, [], _ => rfl
theorem wrdL_app : ∀ (a b : List D), wrdL (a ++ b) = (wrdL a && wrdL b)
  | [], b => by simp [wrdL]
  | x :: a, b => by rw [List.cons_append]; simp only [wrdL]; rw [wrdL_app a b, Bool.and_assoc]
def isAt : D → Bool | .atom _ _ => true | _ => false
def isTu : D → Bool | .tup _ => true | _ => false
/-- what the loop keeps -/
def LoopS (X : Cx) (pins : List (Addr × Obj)) (σ : L2.St) (H : Hp) (s' : Shared) : Prop := ∃ H', Inv X pins σ H' s' ∧ Same H H'
/-- an atom == something that is none -/
def spEqN (C : Addr) : Sp := fun vs H Q _ => ∃ x y d e, vs = [x, y] ∧ Is C H x d ∧ Is C H y e ∧ isAt d = true ∧ isAt e = false ∧ ∀ H', Same H H' → Q (.bl false) H'
structure OwnS (P : Program) (w : World) (K : PySem.W.Frag) (mg : Str → Option Value) (base : Heap) (n : Nat) (C : Addr) (sp : Sp) : Prop where
  ex : ∃ (f : Addr) (fd : FuncData) (ps : List Str), FnOk P w K mg base C8.CX0 n f fd ps sp ∧ PySem.W.findIn K (.ref C) "__eq__" = some (some (.ref f)) ∧ PySem.W.isFn K (.ref f) = true ∧ Binds K fd ps []
section
variable {X : Cx} {n : Nat} {C : Addr} {sp : Sp}
theorem own_run (O : OwnS X.prog X.w X.K X.mg X.base n C sp) {A : Around} {pins : List (Addr × Obj)} {s : Shared} {σ : L2.St} {H : Hp} {a dx : Addr} {fs : List (Str × V)} {y : V} {v : Value} {r : Bool} (sb : Sub X n A) (I : Inv X pins σ H s) (ha : H a = some (.ins C dx fs)) (ry : RelV y v)
    (hsp : sp [.ref a, y] H (fun z H' => z = .bl r ∧ Same H H') C8.E0) : Own X.prog X.w A X.xe a v r (LoopS X pins σ H) s := by
  obtain ⟨f, fd, ps, F, hs, hf, hb⟩ := O.ex
  obtain ⟨mA, J, _⟩ := ins_get I.hok ha
  obtain ⟨od, J, _⟩ := J.look
  have e0 : Env0 X.prog X.w X.K X.mg X.base A X.stack s H := by
    have e := I.env0
    exact ⟨by rw [sb.fr]; exact e.frames, e.mod, e.bs, e.bsz, e.funs, e.frf, e.hok, e.bare⟩
  have hl := F.len _ _ _ _ hsp
  have r2 : Vals [V.ref a, y] [Value.ref a, v] := .cons rfl (.cons ry .nil)
  refine PySem.W.ifBound_K I.kIn J hs hf (wpAny_call (codeAny_mono (F.run A X.stack s H ⟨[.ref a, v], []⟩ [.ref a, v] [.ref a, y] _ C8.E0 sb.room e0 (by
    have := hb s [.ref a, v] I.kIn (by simpa using hl)
    simpa using this) r2 hsp) fun r s' hq => ?_))
  cases r with
  | error e => exact C8.pass0 (E := C8.E0) pins σ H s e s' I hq
  | ok fl =>
    cases fl with
    | ret w =>
      obtain ⟨z, H', I', rz, ez, ex⟩ := I.after hq
      subst ez
      cases rz
      exact ⟨rfl, H', I', ex⟩
    | next => exact False.elim hq
    | brk => exact False.elim hq
    | cont => exact False.elim hq
end
section
variable {P : Program} {w : World} {K : PySem.W.Frag} {mg : Str → Option Value} {base : Heap} {f : Addr} {fd : FuncData} {C : Addr}
theorem kitA (T : Txt K mg w C) (d : D) : PySem.W.kitOne K (kyU C d) (.ref C) = some (isAt d) := by rw [T.kitC]; cases d <;> rfl
end
section
variable {X : Cx} {n : Nat} {C : Addr}
/-- != of two words of which not both are tuples and not both are atoms -/
def rNeMix (C : Addr) : R2 := fun x y H Q => ∃ d e, Is C H x d ∧ Is C H y e ∧ wrd d = true ∧ wrd e = true ∧ (isTu d && isTu e) = false ∧ (isAt d && isAt e) = false ∧ ∀ H', Same H H' → Q (.bl (!eqD d e)) H'
theorem op_neMix (O : OwnS X.prog X.w X.K X.mg X.base n C (spEqN C)) (o : Oth X.K C) (hr : Room (n + 1) X.A) : OpR X (compareOp .NotEq) (rNeMix C) := by
  intro pins s σ H x y v u Q I rx ry h
  obtain ⟨d, e, hx, hy, wd, we, ht, ha, q⟩ := h
  have sb : Sub X (n + 1) X.A := ⟨hr, rfl⟩
  have hu := hr.units0
  have hu1 := sb.in1.room.units0
  show wpAny (model X.prog X.w) X.A (richCompare .NotEq v u) (EP X pins σ Q) X.xe s
  have fin : ∀ (b : Bool), b = (!eqD d e) → ∀ s', LoopS X pins σ H s' → EP X pins σ Q (.bool b) s' := fun b hb s' j => by
    obtain ⟨H', I', e'⟩ := j
    rw [hb]
    exact ⟨.bl _, H', I', rfl, q H' e'⟩
  have here : LoopS X pins σ H s := ⟨H, I, Same.refl H⟩
  -- the own == says no
  have own : ∀ {a dx : Addr} {fs : List (Str × V)} {y : V} {v : Value} {d e : D}, H a = some (.ins C dx fs) → Is C H (.ref a) d → Is C H y e → RelV y v → isAt d = true → isAt e = false → Own X.prog X.w X.A.in1 X.xe a v false (LoopS X pins σ H) s :=
    fun u1 h1 h2 rv d1 e1 => own_run O sb.in1 I u1 rv ⟨_, _, _, _, rfl, h1, h2, d1, e1, fun H' s' => ⟨rfl, s'⟩⟩
  have inst : ∀ {a dx : Addr} {fs : List (Str × V)}, H a = some (.ins C dx fs) → ∃ od, PySem.W.InstAt s.heap a (PySem.W.instObj C dx) C (some od) := fun u1 => by
    obtain ⟨mA, J, _⟩ := ins_get I.hok u1
    obtain ⟨od, J, _⟩ := J.look
    exact ⟨od, J⟩
  have tups : ∀ {a : Addr} {xs : List V}, H a = some (.tup xs) → ∃ its : Array Value, s.heap.IsTuple a its := fun h => by
    obtain ⟨its, r, e, z⟩ := I.tuple (SqT.of h)
    exact ⟨_, e⟩
  have left : ∀ {a dx : Addr} {fs : List (Str × V)} {T : String}, H a = some (.ins C dx fs) → x = .ref a → s.TypeIs u T → (T = "NoneType" ∨ T = "int" ∨ T = "str" ∨ T = "tuple") → isAt d = true → isAt e = false → wpAny (model X.prog X.w) X.A (richCompare .NotEq v u) (EP X pins σ Q) X.xe s := fun {a dx fs T} u1 hxa ht1 hT d1 e1 => by
    subst hxa
    cases rx
    obtain ⟨od, J⟩ := inst u1
    refine rc_left (op := .NotEq) hu I.kIn J ht1 hT (try_ne hu hu1 I.kIn J o (own u1 hx hy ry d1 e1)) (fun s' j => fin _ ?_ s' j)
    cases d <;> cases e <;> first | rfl | (simp [isAt] at d1; done) | (simp [isAt] at e1; done)
  have right : ∀ {c dy : Addr} {gs : List (Str × V)} {T id : String}, H c = some (.ins C dy gs) → y = .ref c → s.TypeIs v T → PySem.W.subIn X.K (.ref C) (.type T) = some false → oneThing? .NotEq v (.ref c) = none → Slot T (cmpInfo .NotEq).2.1 id →
      wpAny (model X.prog X.w) X.A (call (.builtin id) [v, .ref c]) (fun z s' => z = .notImplemented ∧ s' = s) X.xe s → isAt e = true → isAt d = false → wpAny (model X.prog X.w) X.A (richCompare .NotEq v u) (EP X pins σ Q) X.xe s := fun {c dy gs T id} u1 hyc ht1 hT hone sl dec e1 d1 => by
    subst hyc
    cases ry
    obtain ⟨od, J⟩ := inst u1
    refine rc_right (op := .NotEq) hu I.kIn J ht1 hT hone sl dec (try_ne hu hu1 I.kIn J o (own u1 hy hx rx e1 d1)) (fun s' j => fin _ ?_ s' j)
    cases d <;> cases e <;> first | rfl | (simp [isAt] at d1; done) | (simp [isAt] at e1; done)
  have flat : scal x y = true → (!decide (x = y)) = (!eqD d e) → wpAny (model X.prog X.w) X.A (richCompare .NotEq v u) (EP X pins σ Q) X.xe s := fun hs he => op_ne pins s σ H x y v u Q I rx ry ⟨hs, by rw [he]; exact q H (Same.refl H)⟩
  cases hx with
  | bl b => cases wd
  | lst _ _ => cases wd
  | dct _ => cases wd
  | @atom a1 dx1 t1 k1 xs1 ds1 u1 v1 i1 =>
    cases hy with
    | bl b => cases we
    | lst _ _ => cases we
    | dct _ => cases we
    | atom _ _ _ => cases ha
    | non => cases ry; exact left u1 rfl rfl (.inl rfl) rfl rfl
    | int j => obtain ⟨t, rfl⟩ := ry; exact left u1 rfl rfl (.inr (.inl rfl)) rfl rfl
    | str z => obtain ⟨t, rfl⟩ := ry; exact left u1 rfl rfl (.inr (.inr (.inl rfl))) rfl rfl
    | tup h2 i2 =>
      cases ry
      obtain ⟨its, oo, ho, hc, _⟩ := tups h2
      exact left u1 rfl ⟨oo, ho, hc⟩ (.inr (.inr (.inr rfl))) rfl rfl
  | non =>
    cases rx
    cases hy with
    | bl b => cases we
    | lst _ _ => cases we
    | dct _ => cases we
    | non => exact flat rfl (by simp [eqD])
    | int j => exact flat rfl (by simp [eqD])
    | str z => exact flat rfl (by simp [eqD])
    | tup h2 i2 =>
      cases ry
      obtain ⟨its, hi⟩ := tups h2
      exact RcNeAt.none_tuple hi hu _ _ _ _ (fin _ rfl s here)
    | @atom c dy _ _ _ _ u2 _ _ => exact right u2 rfl rfl o.sN rfl F.slot_NoneType_ne (call_gives F.slot_NoneType_ne rfl F.entry_NoneType_ne (F.args_NoneType_ne_2 _ _) (NoneType___ne___none_ref_0 c) ⟨rfl, rfl⟩) rfl rfl
  | int i =>
    obtain ⟨t, rfl⟩ := rx
    cases hy with
    | bl b => cases we
    | lst _ _ => cases we
    | dct _ => cases we
    | non => exact flat rfl (by simp [eqD])
    | int j => exact flat rfl (by simp [eqD])
    | str z => exact flat rfl (by simp [eqD])
    | tup h2 i2 =>
      cases ry
      obtain ⟨its, hi⟩ := tups h2
      exact RcNeAt.int_tuple i t hi hu _ _ _ _ (fin _ rfl s here)
    | @atom c dy _ _ _ _ u2 _ _ =>
      obtain ⟨od, J⟩ := inst u2
      exact right u2 rfl rfl o.sI rfl F.slot_int_ne (call_meets F.slot_int_ne rfl F.entry_int_ne (F.args_int_ne_2 _ _) (int_ne_inst i t c C dy) ⟨J.at_, rfl, rfl⟩) rfl rfl
  | str z0 =>
    obtain ⟨t, rfl⟩ := rx
    cases hy with
    | bl b => cases we
    | lst _ _ => cases we
    | dct _ => cases we
    | non => exact flat rfl (by simp [eqD])
    | int j => exact flat rfl (by simp [eqD])
    | str z => exact flat rfl (by simp [eqD])
    | tup h2 i2 =>
      cases ry
      obtain ⟨its, hi⟩ := tups h2
      exact RcNeAt.str_tuple z0 t hi hu _ _ _ _ (fin _ rfl s here)
    | @atom c dy _ _ _ _ u2 _ _ =>
      obtain ⟨od, J⟩ := inst u2
      exact right u2 rfl rfl o.sS rfl F.slot_str_ne (call_meets F.slot_str_ne rfl F.entry_str_ne (F.args_str_ne_2 _ _) (str_ne_inst z0 t c C dy) ⟨J.at_, rfl, rfl⟩) rfl rfl
  | @tup a1 xs1 ds1 h1 i1 =>
    cases rx
    obtain ⟨its, hi⟩ := tups h1
    cases hy with
    | bl b => cases we
    | lst _ _ => cases we
    | dct _ => cases we
    | non => cases ry; exact RcNeAt.tuple_none hi hu _ _ _ _ (fin _ rfl s here)
    | int j => obtain ⟨t, rfl⟩ := ry; exact RcNeAt.tuple_int j t hi hu _ _ _ _ (fin _ rfl s here)
    | str z => obtain ⟨t, rfl⟩ := ry; exact RcNeAt.tuple_str z t hi hu _ _ _ _ (fin _ rfl s here)
    | tup h2 i2 => cases ht
    | @atom c dy _ _ _ _ u2 _ _ =>
      obtain ⟨od, J⟩ := inst u2
      obtain ⟨⟨cls, dd, data, sl⟩, ho, hc, k, hd⟩ := id hi
      simp only at hc hd
      subst hc hd
      exact right u2 rfl ⟨_, ho, rfl⟩ o.sT (oneThing_ref _ _ _) F.slot_tuple_ne (GQ.call_here F.slot_tuple_ne ⟨_, ho, rfl⟩ F.entry_tuple_ne (F.args_tuple_ne_2 _ _) (tup_ne_inst (PySem.W.looks_subIn I.kIn o.sT) J.at_ ho ⟨rfl, rfl⟩)) rfl rfl
end
end Hc

namespace Hc
open PySem PySem.Spec PyProof.Rows L2 Hr
mutual
theorem eqD_refl : ∀ {d : D}, wrd d = true → eqD d d = true
  | .tup ds, h => by simp only [eqD]; simp only [wrd] at h; exact eqL_refl h
  | .atom k ds, h => by
    simp only [wrd, Bool.and_eq_true] at h
    simp only [eqD]; rw [eqL_refl h.1]; simp
  | .non, _ => rfl
  | .int i, _ => by simp [eqD]
  | .str s, _ => by simp [eqD]
  | .bl _, h => by simp [wrd] at h
  | .lst _, h => by simp [wrd] at h
  | .dct, h => by simp [wrd] at h
theorem eqL_refl : ∀ {ds : List D}, wrdL ds = true → eqL ds ds = true
  | [], _ => rfl
  | d :: ds, h => by
    simp only [wrdL, Bool.and_eq_true] at h
    simp only [eqL]; rw [eqD_refl h.1, eqL_refl h.2]; rfl
end
theorem term_len {k : Str} {ds es : List D} (h : isTermK k ds = true) (g : isTermK k es = true) : ds.length = es.length := by
  unfold isTermK at h g
  cases hf : formsOf k with
  | none => rw [hf] at h; cases h
  | some fs =>
    rw [hf] at h g
    simp only [Bool.and_eq_true, decide_eq_true_eq] at h g
    rw [h.1, g.1]
def spAre (C : Addr) : Sp := fun vs H Q _ => ∃ a b ds es, vs = [.ref a, .ref b] ∧ Is C H (.ref a) (.tup ds) ∧ Is C H (.ref b) (.tup es) ∧ ds.length = es.length ∧ wrdL ds = true ∧ wrdL es = true ∧ szL ds ≤ 1000000 ∧ szL es ≤ 1000000 ∧ ∀ H', Same H H' → Q (.bl (eqL ds es)) H'
def spSame (C : Addr) : Sp := fun vs H Q _ => ∃ a b dx fs dx' fs', vs = [.ref a, .ref b] ∧ H a = some (.ins C dx fs) ∧ H b = some (.ins C dx' fs') ∧ Q (.bl (decide (a = b))) H
section
variable {P : Program} {w : World} {K : PySem.W.Frag} {mg : Str → Option Value} {base : Heap} {f : Addr} {fd : FuncData} {C : Addr}
abbrev s_Atom_is_same : Stmt := L2.inClass (top 20) 2
theorem sc_Atom_is_same : FnScope ["self", "other"] ["self", "other"] (C8.fnScope s_Atom_is_same) := C8.fnScope_by (by decide +kernel)
theorem ok_is_same {fI : Addr} {fdI : FuncData} (me : Meth K C "is_same" fI) (T : Txt K mg w C) (F : C8.Fun K "is_same" "Atom.is_same" s_Atom_is_same fI fdI) (b : Binds K fdI ["self", "other"] []) : C8.Met P w K mg base 1 C "is_same" (spSame C) [] := by
  refine C8.met0 T.cl.cl me F b sc_Atom_is_same (fun vs H Q E h => ?_) (fun cdv A outer s H vs Q E hr h => ?_)
  · obtain ⟨a, b, dx, fs, dx', fs', rfl, _⟩ := h; rfl
  obtain ⟨a, b, dx, fs, dx', fs', rfl, h1, h2, q⟩ := h
  refine ⟨_, (pss_one (ps_ret (pe_cmpR op_is_ref (pv 0) (pv 1) (nomark _)))), ?_⟩
  exact ⟨_, rfl, _, rfl, a, b, _, _, rfl, rfl, h1, rfl, h2, rfl, q⟩
abbrev s__are_equal : Stmt := top 23
theorem sc__are_equal : FnScope ["ones", "others", "left", "right", "one", "other"] ["ones", "others"] (C8.fnScope s__are_equal) := C8.fnScope_by (by decide +kernel)
theorem ok__are_equal (F : C8.Def K mg "_are_equal" s__are_equal f fd) (b : Binds K fd ["ones", "others"] []) (T : Txt K mg w C) (O : OwnS P w K mg base 1 C (spEqN C)) (o : Oth K C) (m_is_same : C8.Met P w K mg base 1 C "is_same" (spSame C) []) : C8.Cal P w K mg base 3 "_are_equal" (spAre C) [] := by
  refine C8.cal0 F b .nil sc__are_equal (fun vs H Q E h => ?_) (fun cdv A outer s H vs Q E hr h => ?_)
  · obtain ⟨a, b, ds, es, rfl, _⟩ := h; rfl
  obtain ⟨a, b, ds, es, rfl, ha, hb, hl, hs, hs2, hz1, hz2, q⟩ := h
  refine ⟨_, (pss_cons (ps_set (i := 2) sc__are_equal.nd rfl (Or.inl rfl) (pe_callTy call_list_of rfl T.z_list bt_list (pa_cons (pv 0) pa_nil)))
      (pss_cons (ps_set (i := 3) sc__are_equal.nd rfl (Or.inl rfl) (pe_callTy call_list_of rfl T.z_list bt_list (pa_cons (pv 1) pa_nil)))
      (pss_cons (ps_while PassesOwn.never (pt_truth (pv 2) (fun _ => rfl))
      (pss_cons (ps_set (i := 4) sc__are_equal.nd rfl (Or.inl rfl) (pe_bm0 PySem.F.plainAttrs_list PySem.F.slot_list_pop PySem.F.type_list_pop mt_pop (pv 2)))
      (pss_cons (ps_set (i := 5) sc__are_equal.nd rfl (Or.inl rfl) (pe_bm0 PySem.F.plainAttrs_list PySem.F.slot_list_pop PySem.F.type_list_pop mt_pop (pv 3)))
      (pss_one (ps_if (PW.pt (pw_and (pt_cmpR (op_isTyA (C := C)) (pe_callTy (call_typeA (C := C)) rfl T.z_type bt_type (pa_cons (pv 4) pa_nil)) (pe_bltn (v := .ty "tuple") rfl T.z_tuple bt_tuple rfl) (nomark _)) (pw_and1 (pt_cmpR (op_isTyA (C := C)) (pe_callTy (call_typeA (C := C)) rfl T.z_type bt_type (pa_cons (pv 5) pa_nil)) (pe_bltn (v := .ty "tuple") rfl T.z_tuple bt_tuple rfl) (nomark _))))) (pss_cons (ps_if (pt_cmpR op_ne (pe_callB call_lenS rfl T.z_len bt_len (pa_cons (pv 4) pa_nil)) (pe_callB call_lenS rfl T.z_len bt_len (pa_cons (pv 5) pa_nil)) (nomark _)) (pss_one (ps_ret pe_bl)) pss_nil)
      (pss_cons (ps_expr (pe_bm PySem.F.plainAttrs_list PySem.F.slot_list_extend PySem.F.type_list_extend mt_extendT (pv 2) (pa_cons (pv 4) pa_nil)))
      (pss_one (ps_expr (pe_bm PySem.F.plainAttrs_list PySem.F.slot_list_extend PySem.F.type_list_extend mt_extendT (pv 3) (pa_cons (pv 5) pa_nil)))))) (pss_one (ps_if (PW.pt (pw_and (pt_cmpR (op_isTyA (C := C)) (pe_callTy (call_typeA (C := C)) rfl T.z_type bt_type (pa_cons (pv 4) pa_nil)) (pe_glob (v := .ref C) rfl T.g_Atom rfl) (nomark _)) (pw_and1 (pt_cmpR (op_isTyA (C := C)) (pe_callTy (call_typeA (C := C)) rfl T.z_type bt_type (pa_cons (pv 5) pa_nil)) (pe_glob (v := .ref C) rfl T.g_Atom rfl) (nomark _))))) (pss_cons (ps_if (pt_val (C8.pe_mt m_is_same hr (by first | decide | omega) (pv 4) (pa_cons (pv 5) pa_nil))) (pss_one ps_continue) pss_nil)
      (pss_cons (ps_if (pt_cmpR op_ne (pe_fld (pv 4) rfl) (pe_fld (pv 5) rfl) (nomark _)) (pss_one (ps_ret pe_bl)) pss_nil)
      (pss_cons (ps_expr (pe_bm PySem.F.plainAttrs_list PySem.F.slot_list_extend PySem.F.type_list_extend mt_extendT (pv 2) (pa_cons (pe_fld (pv 4) rfl) pa_nil)))
      (pss_one (ps_expr (pe_bm PySem.F.plainAttrs_list PySem.F.slot_list_extend PySem.F.type_list_extend mt_extendT (pv 3) (pa_cons (pe_fld (pv 5) rfl) pa_nil))))))) (pss_one (ps_if (pt_cmpR (op_neMix O o (hr.mono (by decide))) (pv 4) (pv 5) (nomark _)) (pss_one (ps_ret pe_bl)) pss_nil)))))))))
      (pss_one (ps_ret pe_bl))))), ?_⟩
  cases ha with
  | @tup _ xs _ ta ia =>
    cases hb with
    | @tup _ ys _ tb ib =>
      refine ⟨_, rfl, a, xs, rfl, .inr (SqT.of ta), fun l hl0 => ?_⟩
      have s1 := same_new (o := .lst xs) hl0
      refine ⟨_, rfl, b, ys, rfl, .inr (SqT.of (s1 _ _ tb)), fun r hr0 => ?_⟩
      have s2 := same_new (o := .lst ys) hr0
      have hrH : H r = none := s1.free hr0
      have nlr : l ≠ r := fun z => by rw [← z, upd_same] at hr0; cases hr0
      refine ⟨fun m σ' H' => ∃ v4 v5 xs ys as bs, σ' = [some (.ref a), some (.ref b), some (.ref l), some (.ref r), v4, v5] ∧ Same H H' ∧ H' l = some (.lst xs) ∧ H' r = some (.lst ys) ∧ IsA C H xs as ∧ IsA C H ys bs ∧ as.length = bs.length ∧ wrdL as = true ∧ wrdL bs = true ∧ eqL as bs = eqL ds es ∧ m = szL as ∧ szL as ≤ 1000000 ∧ szL bs ≤ 1000000,
        ⟨_, none, none, xs, ys, ds, es, rfl, s1.trans s2, s2 _ _ upd_same, upd_same, ia, ib, hl, hs, hs2, rfl, rfl, hz1, hz2⟩, ?_⟩
      clear hs hs2 hz1 hz2 hl s1 s2 ia ib ta tb hr0
      rintro m σ' H' ⟨v4, v5, xs, ys, as, bs, rfl, sm, hxl, hyr, ixs, iys, hl, hs, hs2, he, rfl, hza, hzb⟩
      refine ⟨_, rfl, _, .inl ⟨xs, SqL.of hxl, rfl⟩, ?_⟩
      rcases List.eq_nil_or_concat as with rfl | ⟨as', d, rfl⟩
      · have hb0 : bs = [] := List.eq_nil_of_length_eq_zero hl.symm
        subst hb0
        cases ixs
        refine iteF ?_
        have q := q H' sm
        rw [← he] at q
        exact q
      rcases List.eq_nil_or_concat bs with rfl | ⟨bs', e, rfl⟩
      · simp at hl
      obtain ⟨xs', x, rfl, ixs', hx⟩ := ixs.concat
      obtain ⟨ys', y, rfl, iys', hy⟩ := iys.concat
      simp only [List.concat_eq_append] at hl hs hs2 he hza hzb ⊢
      have hl' : as'.length = bs'.length := by simpa using hl
      rw [wrdL_app, Bool.and_eq_true] at hs hs2
      rw [eqL_app hl'] at he
      have wd : wrd d = true := by simpa [wrdL] using hs.2
      have we : wrd e = true := by simpa [wrdL] using hs2.2
      have he2 : eqL [d] [e] = eqD d e := by simp [eqL]
      rw [he2] at he
      have hsa : szL (as' ++ [d]) = szL as' + sz d := by rw [szL_app]; simp [szL]
      have hsb : szL (bs' ++ [e]) = szL bs' + sz e := by rw [szL_app]; simp [szL]
      have hpd := sz_pos d
      have hla := len_szL as'
      have hlb := len_szL bs'
      have hlx := ixs'.len
      have hly := iys'.len
      refine bT (by simp) ⟨fun σ2 H2 => ∃ m', m' < szL (as' ++ [d]) ∧ ∃ v4 v5 xs ys as bs, σ2 = [some (.ref a), some (.ref b), some (.ref l), some (.ref r), v4, v5] ∧ Same H H2 ∧ H2 l = some (.lst xs) ∧ H2 r = some (.lst ys) ∧ IsA C H xs as ∧ IsA C H ys bs ∧ as.length = bs.length ∧ wrdL as = true ∧ wrdL bs = true ∧ eqL as bs = eqL ds es ∧ m' = szL as ∧ szL as ≤ 1000000 ∧ szL bs ≤ 1000000, fun σ2 H2 h => h, ?_⟩
      -- one = left.pop(); other = right.pop()
      refine ⟨_, rfl, .inl ⟨rfl, _, SqL.of hxl⟩, l, _, x, rfl, rfl, hxl, by simp, ?_⟩
      rw [List.dropLast_concat]
      have hyr1 : (upd H' l (.lst xs')) r = some (.lst (ys' ++ [y])) := by rw [upd_ne nlr.symm]; exact hyr
      refine ⟨_, rfl, .inl ⟨rfl, _, SqL.of hyr1⟩, r, _, y, rfl, rfl, hyr1, by simp, ?_⟩
      rw [List.dropLast_concat]
      have sm2 : Same H (upd (upd H' l (.lst xs')) r (.lst ys')) := same_put (same_put sm hl0) hrH
      have hl2 : (upd (upd H' l (.lst xs')) r (.lst ys')) l = some (.lst xs') := by rw [upd_ne nlr]; exact upd_same
      have hr2 : (upd (upd H' l (.lst xs')) r (.lst ys')) r = some (.lst ys') := upd_same
      generalize upd (upd H' l (.lst xs')) r (.lst ys') = H2 at sm2 hl2 hr2
      have hx2 := hx.same sm2
      have hy2 := hy.same sm2
      -- nothing more is asked of the pair
      have good : ∀ H3, Same H2 H3 → eqD d e = true → ∃ m', m' < szL (as' ++ [d]) ∧ ∃ v4 v5 xs ys as bs, ([some (.ref a), some (.ref b), some (.ref l), some (.ref r), some x, some y] : L2.St) = [some (.ref a), some (.ref b), some (.ref l), some (.ref r), v4, v5] ∧ Same H H3 ∧ H3 l = some (.lst xs) ∧ H3 r = some (.lst ys) ∧ IsA C H xs as ∧ IsA C H ys bs ∧ as.length = bs.length ∧ wrdL as = true ∧ wrdL bs = true ∧ eqL as bs = eqL ds es ∧ m' = szL as ∧ szL as ≤ 1000000 ∧ szL bs ≤ 1000000 := fun H3 s3 h =>
        ⟨szL as', by omega, _, _, xs', ys', as', bs', rfl, sm2.trans s3, s3 _ _ hl2, s3 _ _ hr2, ixs', iys', hl', hs.1, hs2.1, by rw [← he, h, Bool.and_true], rfl, by omega, by omega⟩
      have bad : ∀ H3, Same H2 H3 → eqD d e = false → Q (.bl false) H3 := fun H3 s3 h => by
        have q := q H3 (sm2.trans s3)
        rw [← he, h, Bool.and_false] at q
        exact q
      -- both are opened
      have open_ : ∀ {ts us : List V} {gs hs' : List D} {p1 p2 : Addr}, H2 p1 = some (.tup ts) → H2 p2 = some (.tup us) → IsA C H ts gs → IsA C H us hs' → gs.length = hs'.length → wrdL gs = true → wrdL hs' = true → eqL gs hs' = eqD d e → szL gs < sz d → szL hs' ≤ sz e →
          (xs'.length + ts.length ≤ sizeLine ∧ ys'.length + us.length ≤ sizeLine) ∧ (upd H2 l (.lst (xs' ++ ts))) r = some (.lst ys') ∧ (upd H2 l (.lst (xs' ++ ts))) p2 = some (.tup us) ∧
          ∃ m', m' < szL (as' ++ [d]) ∧ ∃ v4 v5 xs ys as bs, ([some (.ref a), some (.ref b), some (.ref l), some (.ref r), some x, some y] : L2.St) = [some (.ref a), some (.ref b), some (.ref l), some (.ref r), v4, v5] ∧ Same H (upd (upd H2 l (.lst (xs' ++ ts))) r (.lst (ys' ++ us))) ∧ (upd (upd H2 l (.lst (xs' ++ ts))) r (.lst (ys' ++ us))) l = some (.lst xs) ∧ (upd (upd H2 l (.lst (xs' ++ ts))) r (.lst (ys' ++ us))) r = some (.lst ys) ∧ IsA C H xs as ∧ IsA C H ys bs ∧ as.length = bs.length ∧ wrdL as = true ∧ wrdL bs = true ∧ eqL as bs = eqL ds es ∧ m' = szL as ∧ szL as ≤ 1000000 ∧ szL bs ≤ 1000000 := fun {ts us gs hs' p1 p2} e1 e2 i1 i2 hlen hsp hsp2 heq z1 z2 => by
        have k1 := i1.len
        have k2 := i2.len
        have k3 := len_szL gs
        have k4 := len_szL hs'
        refine ⟨⟨Nat.le_trans (show _ ≤ 1000000 by omega) (by decide), Nat.le_trans (show _ ≤ 1000000 by omega) (by decide)⟩, by rw [upd_ne nlr.symm]; exact hr2, Tups.put hl2 _ _ e2, ?_⟩
        refine ⟨szL (as' ++ gs), ?_, _, _, xs' ++ ts, ys' ++ us, as' ++ gs, bs' ++ hs', rfl, same_put (same_put sm2 hl0) hrH, by rw [upd_ne nlr]; exact upd_same, upd_same, ixs'.app i1, iys'.app i2, by simp; omega, ?_, ?_, ?_, rfl, ?_, ?_⟩
        · rw [szL_app, hsa]; omega
        · rw [wrdL_app, hs.1, hsp]; rfl
        · rw [wrdL_app, hs2.1, hsp2]; rfl
        · rw [eqL_app hl', heq]; exact he
        · rw [szL_app]; omega
        · rw [szL_app]; omega
      refine ⟨_, rfl, x, d, rfl, hx2, kyV_ok d, .inl ⟨_, rfl⟩, _, rfl, ?_⟩
      by_cases ct : kyV C d = .ty "tuple"
      · refine ifT ct ⟨_, rfl, y, e, rfl, hy2, kyV_ok e, .inl ⟨_, rfl⟩, _, rfl, ?_⟩
        obtain ⟨gs, rfl⟩ := kyV_tup.mp ct
        by_cases cu : kyV C e = .ty "tuple"
        · refine ifT cu ?_
          obtain ⟨hs', rfl⟩ := kyV_tup.mp cu
          cases hx with
          | @tup p1 ts _ t1 i1 =>
            cases hy with
            | @tup p2 us _ t2 i2 =>
              have k1 := i1.len
              have k2 := i2.len
              refine ⟨_, rfl, p1, ts, rfl, .inr (SqT.of (sm2 _ _ t1)), _, rfl, p2, us, rfl, .inr (SqT.of (sm2 _ _ t2)), rfl, _, rfl, ?_⟩
              by_cases cl : gs.length = hs'.length
              · refine bF (by rw [k1, k2, cl]; simp) ?_
                have hsp : wrdL gs = true := by simpa [wrd] using wd
                have hsp2 : wrdL hs' = true := by simpa [wrd] using we
                obtain ⟨⟨b1, b2⟩, f1, f2, fin⟩ := open_ (sm2 _ _ t1) (sm2 _ _ t2) i1 i2 cl hsp hsp2 (by simp [eqD]) (by simp only [sz]; omega) (by simp only [sz]; omega)
                refine ⟨_, rfl, .inl ⟨rfl, _, SqL.of hl2⟩, _, rfl, l, p1, xs', ts, rfl, rfl, hl2, sm2 _ _ t1, b1, ?_⟩
                exact ⟨_, rfl, .inl ⟨rfl, _, SqL.of f1⟩, _, rfl, r, p2, ys', us, rfl, rfl, f1, f2, b2, fin⟩
              · refine bT (by rw [k1, k2, decide_eq_false (fun z => cl (by have := V.int.inj z; omega))]; rfl) ?_
                exact bad H2 (Same.refl H2) (by simp only [eqD]; exact eqL_len cl)
        · refine ifF cu ?_
          have hnt : (isTu (.tup gs) && isTu e) = false := by cases e <;> first | exact absurd rfl cu | simp [isTu]
          have hna : (isAt (.tup gs) && isAt e) = false := rfl
          refine ⟨_, rfl, x, .tup gs, rfl, hx2, kyV_ok _, .inr rfl, _, rfl, ifF (fun z => nomatch z) ?_⟩
          refine ⟨_, rfl, _, rfl, .tup gs, e, hx2, hy2, wd, we, hnt, hna, fun H3 s3 => ⟨_, rfl, ?_⟩⟩
          cases hq : eqD (.tup gs) e with
          | true => exact bF rfl (good H3 s3 hq)
          | false => exact bT rfl (bad H3 s3 hq)
      · refine ifF ct ?_
        refine ⟨_, rfl, x, d, rfl, hx2, kyV_ok d, .inr rfl, _, rfl, ?_⟩
        by_cases ca : kyV C d = .ref C
        · refine ifT ca ⟨_, rfl, y, e, rfl, hy2, kyV_ok e, .inr rfl, _, rfl, ?_⟩
          obtain ⟨k, gs, rfl⟩ := kyV_atom.mp ca
          by_cases cb : kyV C e = .ref C
          · refine ifT cb ?_
            obtain ⟨k', hs', rfl⟩ := kyV_atom.mp cb
            cases hx with
            | @atom a1 dx1 q1 _ ts _ u1 v1 i1 =>
              cases hy with
              | @atom a2 dx2 q2 _ us _ u2 v2 i2 =>
                refine ⟨_, rfl, a1, dx1, _, rfl, sm2 _ _ u1, rfl, _, rfl, a1, a2, dx1, _, dx2, _, rfl, sm2 _ _ u1, sm2 _ _ u2, ⟨_, rfl, ?_⟩⟩
                by_cases cs : a1 = a2
                · subst cs
                  have eds := Is.uniq (Is.atom u1 v1 i1) (Is.atom u2 v2 i2)
                  refine bT (by simp) ?_
                  exact good H2 (Same.refl H2) (by rw [eds]; exact eqD_refl we)
                refine bF (by simp [cs]) ?_
                refine ⟨_, rfl, a1, C, dx1, _, _, rfl, sm2 _ _ u1, T.cl.cl, T.cl.nK, rfl, _, rfl, a2, C, dx2, _, _, rfl, sm2 _ _ u2, T.cl.cl, T.cl.nK, rfl, rfl, _, rfl, ?_⟩
                by_cases ck : k = k'
                · refine bF (by rw [ck]; simp) ?_
                  have w1 : wrdL gs = true ∧ isTermK k gs = true := by simpa [wrd] using wd
                  have w2 : wrdL hs' = true ∧ isTermK k hs' = true := by subst ck; simpa [wrd] using we
                  have hlk := term_len w1.2 w2.2
                  obtain ⟨⟨b1, b2⟩, f1, f2, fin⟩ := open_ (sm2 _ _ v1) (sm2 _ _ v2) i1 i2 hlk w1.1 w2.1 (by simp [eqD, ck]) (by simp only [sz]; omega) (by simp only [sz]; omega)
                  refine ⟨_, rfl, .inl ⟨rfl, _, SqL.of hl2⟩, _, rfl, a1, C, dx1, _, _, rfl, sm2 _ _ u1, T.cl.cl, T.cl.nT, rfl, l, q1, xs', ts, rfl, rfl, hl2, sm2 _ _ v1, b1, ?_⟩
                  have n2 : a2 ≠ l := fun z => by have := sm2 _ _ u2; rw [z, hl2] at this; cases this
                  exact ⟨_, rfl, .inl ⟨rfl, _, SqL.of f1⟩, _, rfl, a2, C, dx2, _, _, rfl, by rw [upd_ne n2]; exact sm2 _ _ u2, T.cl.cl, T.cl.nT, rfl, r, q2, ys', us, rfl, rfl, f1, f2, b2, fin⟩
                · refine bT (by rw [decide_eq_false (fun z => ck (V.str.inj z))]; rfl) ?_
                  exact bad H2 (Same.refl H2) (by simp [eqD, ck])
          · refine ifF cb ?_
            have hnt : (isTu (.atom k gs) && isTu e) = false := rfl
            have hna : (isAt (.atom k gs) && isAt e) = false := by cases e <;> first | exact absurd rfl cb | simp [isAt]
            refine ⟨_, rfl, _, rfl, .atom k gs, e, hx2, hy2, wd, we, hnt, hna, fun H3 s3 => ⟨_, rfl, ?_⟩⟩
            cases hq : eqD (.atom k gs) e with
            | true => exact bF rfl (good H3 s3 hq)
            | false => exact bT rfl (bad H3 s3 hq)
        · refine ifF ca ?_
          have hnt : (isTu d && isTu e) = false := by cases d <;> first | rfl | exact absurd rfl ct
          have hna : (isAt d && isAt e) = false := by cases d <;> first | rfl | exact absurd rfl ca
          refine ⟨_, rfl, _, rfl, d, e, hx2, hy2, wd, we, hnt, hna, fun H3 s3 => ⟨_, rfl, ?_⟩⟩
          cases hq : eqD (d) e with
          | true => exact bF rfl (good H3 s3 hq)
          | false => exact bT rfl (bad H3 s3 hq)
end
end Hc

namespace Hc
open PySem PySem.Spec PyProof.Rows L2 Hr
section
variable {P : Program} {w : World} {K : PySem.W.Frag} {mg : Str → Option Value} {base : Heap} {f : Addr} {fd : FuncData} {C : Addr}
abbrev s_Atom___eq__ : Stmt := L2.inClass (top 20) 1
theorem sc_Atom___eq__ : FnScope ["self", "other"] ["self", "other"] (C8.fnScope s_Atom___eq__) := C8.fnScope_by (by decide +kernel)
theorem ok_eqN {fI : Addr} {fdI : FuncData} (F : C8.Fun K "__eq__" "Atom.__eq__" s_Atom___eq__ fI fdI) (T : Txt K mg w C) : FnOk P w K mg base C8.CX0 1 fI fdI ["self", "other"] (spEqN C) := by
  refine C8.fn0 F sc_Atom___eq__ (fun vs H Q E h => ?_) (fun cdv A outer s H vs Q E hr h => ?_)
  · obtain ⟨x, y, d, e, rfl, _⟩ := h; rfl
  obtain ⟨x, y, d, e, rfl, hx, hy, hd, he, q⟩ := h
  refine ⟨_, (pss_cons (ps_if (pt_not (pt_val (pe_callB (call_isiA T.cl) rfl T.z_isinstance bt_isinstance (pa_cons (pv 1) (pa_cons (pe_glob (v := .ref C) rfl T.g_Atom rfl) pa_nil))))) (pss_one (ps_ret pe_bl)) pss_nil)
      (pss_one ps_never)), ?_⟩
  refine ⟨_, rfl, y, _, _, _, _, rfl, hy, .own C, kitA T e, _, rfl, ?_⟩
  rw [he]
  exact bT rfl (q H (Same.refl H))
end
end Hc

namespace Hc
open PySem PySem.Spec PyProof.Rows L2 Hr
/-- an atom == a word -/
def spEqG (C : Addr) : Sp := fun vs H Q _ => ∃ x y d e, vs = [x, y] ∧ Is C H x d ∧ Is C H y e ∧ isAt d = true ∧ wrd d = true ∧ wrd e = true ∧ sz d ≤ 1000000 ∧ sz e ≤ 1000000 ∧ ∀ H', Same H H' → Q (.bl (eqD d e)) H'
section
variable {P : Program} {w : World} {K : PySem.W.Frag} {mg : Str → Option Value} {base : Heap} {f : Addr} {fd : FuncData} {C : Addr}
theorem ok_eq {fI : Addr} {fdI : FuncData} (F : C8.Fun K "__eq__" "Atom.__eq__" s_Atom___eq__ fI fdI) (T : Txt K mg w C)
    (c__are_equal : C8.Cal P w K mg base 3 "_are_equal" (spAre C) []) : FnOk P w K mg base C8.CX0 4 fI fdI ["self", "other"] (spEqG C) := by
  refine C8.fn0 F sc_Atom___eq__ (fun vs H Q E h => ?_) (fun cdv A outer s H vs Q E hr h => ?_)
  · obtain ⟨x, y, d, e, rfl, _⟩ := h; rfl
  obtain ⟨x, y, d, e, rfl, hx, hy, hd, wd, we, zd, ze, q⟩ := h
  obtain ⟨k, ds, rfl⟩ : ∃ k ds, d = .atom k ds := by cases d <;> first | exact ⟨_, _, rfl⟩ | (simp [isAt] at hd; done)
  refine ⟨_, (pss_cons (ps_if (pt_not (pt_val (pe_callB (call_isiA T.cl) rfl T.z_isinstance bt_isinstance (pa_cons (pv 1) (pa_cons (pe_glob (v := .ref C) rfl T.g_Atom rfl) pa_nil))))) (pss_one (ps_ret pe_bl)) pss_nil)
      (pss_one (ps_ret (pe_and (pe_cmpR op_eq (pe_fld (pv 0) rfl) (pe_fld (pv 1) rfl) (nomark _)) (pe_one (C8.pe_c c__are_equal hr (by first | decide | omega) rfl (pa_cons (pe_fld (pv 0) rfl) (pa_cons (pe_fld (pv 1) rfl) pa_nil)))))))), ?_⟩
  refine ⟨_, rfl, y, _, _, _, _, rfl, hy, .own C, kitA T e, _, rfl, ?_⟩
  cases hA : isAt e with
  | false =>
    have e0 : eqD (.atom k ds) e = false := by cases e <;> first | rfl | (simp [isAt] at hA; done)
    rw [e0] at q
    exact bT rfl (q H (Same.refl H))
  | true =>
    obtain ⟨k', es, rfl⟩ : ∃ k ds, e = .atom k ds := by cases e <;> first | exact ⟨_, _, rfl⟩ | (simp [isAt] at hA; done)
    refine bF rfl ?_
    have w1 : wrdL ds = true ∧ isTermK k ds = true := by simpa [wrd] using wd
    have w2 : wrdL es = true ∧ isTermK k' es = true := by simpa [wrd] using we
    cases hx with
    | @atom a1 dx1 t1 _ xs _ u1 v1 i1 =>
      cases hy with
      | @atom a2 dx2 t2 _ ys _ u2 v2 i2 =>
        refine ⟨_, rfl, a1, C, dx1, _, _, rfl, u1, T.cl.cl, T.cl.nK, rfl, _, rfl, a2, C, dx2, _, _, rfl, u2, T.cl.cl, T.cl.nK, rfl, rfl, _, rfl, ?_⟩
        by_cases ck : k = k'
        · subst ck
          refine bT (by simp) ?_
          refine ⟨_, rfl, a1, C, dx1, _, _, rfl, u1, T.cl.cl, T.cl.nT, rfl, _, rfl, a2, C, dx2, _, _, rfl, u2, T.cl.cl, T.cl.nT, rfl, ?_⟩
          simp only [sz] at zd ze
          refine ⟨_, _, ds, es, rfl, .tup v1 i1, .tup v2 i2, term_len w1.2 w2.2, w1.1, w2.1, by omega, by omega, fun H' s' => ?_⟩
          have e0 : eqD (.atom k ds) (.atom k es) = eqL ds es := by simp [eqD]
          rw [e0] at q
          exact q H' s'
        · refine bF (by simpa using ck) ?_
          have e0 : eqD (.atom k ds) (.atom k' es) = false := by simp [eqD, ck]
          rw [e0] at q
          exact q H (Same.refl H)
end
end Hc

namespace Hc
open PySem PySem.Spec PyProof.Rows L2 Hr PySem.SeqAt
mutual
/-- how deep tuples lie in one another -/
def dep : D → Nat
  | .tup ds => depL ds + 1
  | _ => 0
def depL : List D → Nat
  | [] => 0
  | d :: ds => max (dep d) (depL ds)
end
theorem depL_mem : ∀ {ds : List D} {d : D}, d ∈ ds → dep d ≤ depL ds
  | x :: ds, d, h => by
    simp only [depL]
    rcases List.mem_cons.mp h with rfl | h
    · omega
    · have := depL_mem h; omega
theorem szL_mem : ∀ {ds : List D} {d : D}, d ∈ ds → sz d ≤ szL ds
  | x :: ds, d, h => by
    simp only [szL]
    rcases List.mem_cons.mp h with rfl | h
    · omega
    · have := szL_mem h; omega
theorem wrdL_mem : ∀ {ds : List D} {d : D}, wrdL ds = true → d ∈ ds → wrd d = true
  | x :: ds, d, w, h => by
    simp only [wrdL, Bool.and_eq_true] at w
    rcases List.mem_cons.mp h with rfl | h
    · exact w.1
    · exact wrdL_mem w.2 h
section
variable {prog : Program} {w : World} {A : Around} {E : Value → Shared → Prop} {s : Shared}
def noFl : Value → Bool
  | .none => true | .int _ _ => true | .str _ _ => true | .ref _ => true | _ => false
theorem eqB_of_rc {u v : Value} {Q : Bool → Shared → Prop} (hne : (u == v) = true → False) (h : wpAny (model prog w) A (richCompare .Eq u v) (fun z s' => ∃ r, z = .bool r ∧ Q r s') E s) (hf : noFl u = true := by rfl) : wpAny (model prog w) A (eqBool u v) Q E s := by
  have go : wpAny (model prog w) A (do truthOfDropped (← richCompare .Eq u v)) Q E s := by
    refine wpAny_bind (wpAny_mono h (fun z s' hz => ?_) fun _ _ x => x)
    obtain ⟨r, rfl, q⟩ := hz
    exact wpAny_truthy_bool q
  cases u <;> first
    | (simp [noFl] at hf; done)
    | (unfold eqBool
       refine wpAny_holding ?_
       exact wpAny_ite_split (fun hab => (hne hab).elim) (fun _ => go))
end
section
variable {X : Cx} {n : Nat} {C : Addr}
/-- == of two words that are not both tuples -/
theorem eqMix (O : OwnS X.prog X.w X.K X.mg X.base n C (spEqG C)) (o : Oth X.K C) {A : Around} (sb : Sub X n A) {pins : List (Addr × Obj)} {s : Shared} {σ : L2.St} {H : Hp} {x y : V} {v u : Value} {d e : D} (I : Inv X pins σ H s) (rx : RelV x v) (ry : RelV y u)
    (hx : Is C H x d) (hy : Is C H y e) (wd : wrd d = true) (we : wrd e = true) (zd : sz d ≤ 1000000) (ze : sz e ≤ 1000000) (ht : (isTu d && isTu e) = false) : wpAny (model X.prog X.w) A (eqBool v u) (fun r s' => r = eqD d e ∧ LoopS X pins σ H s') X.xe s := by
  have hu := sb.room.units0
  have here : LoopS X pins σ H s := ⟨H, I, Same.refl H⟩
  have own : ∀ {a dx : Addr} {fs : List (Str × V)} {y : V} {v : Value} {d e : D}, H a = some (.ins C dx fs) → Is C H (.ref a) d → Is C H y e → RelV y v → isAt d = true → wrd d = true → wrd e = true → sz d ≤ 1000000 → sz e ≤ 1000000 → Own X.prog X.w A X.xe a v (eqD d e) (LoopS X pins σ H) s :=
    fun u1 h1 h2 rv d1 wd we zd ze => own_run O sb I u1 rv ⟨_, _, _, _, rfl, h1, h2, d1, wd, we, zd, ze, fun H' s' => ⟨rfl, s'⟩⟩
  have inst : ∀ {a dx : Addr} {fs : List (Str × V)}, H a = some (.ins C dx fs) → ∃ od, PySem.W.InstAt s.heap a (PySem.W.instObj C dx) C (some od) := fun u1 => by
    obtain ⟨mA, J, _⟩ := ins_get I.hok u1
    obtain ⟨od, J, _⟩ := J.look
    exact ⟨od, J⟩
  have tups : ∀ {a : Addr} {xs : List V}, H a = some (.tup xs) → ∃ its : Array Value, s.heap.IsTuple a its := fun h => by
    obtain ⟨its, r, e, z⟩ := I.tuple (SqT.of h)
    exact ⟨_, e⟩
  have comm : isAt d = false → isAt e = true → eqD e d = eqD d e := fun h1 h2 => by
    cases d <;> cases e <;> first | rfl | (simp [isAt] at h1; done) | (simp [isAt] at h2; done)
  have left : ∀ {a dx : Addr} {fs : List (Str × V)} {T : String}, H a = some (.ins C dx fs) → x = .ref a → s.TypeIs u T → (T = "NoneType" ∨ T = "int" ∨ T = "str" ∨ T = "tuple") → isAt d = true → wpAny (model X.prog X.w) A (richCompare .Eq v u) (fun z s' => ∃ r, z = .bool r ∧ r = eqD d e ∧ LoopS X pins σ H s') X.xe s := fun {a dx fs T} u1 hxa ht1 hT d1 => by
    subst hxa
    cases rx
    obtain ⟨od, J⟩ := inst u1
    exact rc_left (op := .Eq) hu I.kIn J ht1 hT (try_eq (own u1 hx hy ry d1 wd we zd ze)) (fun s' j => ⟨_, rfl, rfl, j⟩)
  have right : ∀ {c dy : Addr} {gs : List (Str × V)} {T id : String}, H c = some (.ins C dy gs) → y = .ref c → s.TypeIs v T → PySem.W.subIn X.K (.ref C) (.type T) = some false → oneThing? .Eq v (.ref c) = none → Slot T (cmpInfo .Eq).2.1 id →
      wpAny (model X.prog X.w) A (call (.builtin id) [v, .ref c]) (fun z s' => z = .notImplemented ∧ s' = s) X.xe s → isAt e = true → isAt d = false → wpAny (model X.prog X.w) A (richCompare .Eq v u) (fun z s' => ∃ r, z = .bool r ∧ r = eqD d e ∧ LoopS X pins σ H s') X.xe s := fun {c dy gs T id} u1 hyc ht1 hT hone sl dec e1 d1 => by
    subst hyc
    cases ry
    obtain ⟨od, J⟩ := inst u1
    exact rc_right (op := .Eq) hu I.kIn J ht1 hT hone sl dec (try_eq (own u1 hy hx rx e1 we wd ze zd)) (fun s' j => ⟨_, rfl, comm d1 e1, j⟩)
  have flat : flatV x = true → flatV y = true → eqV x y = eqD d e → wpAny (model X.prog X.w) A (eqBool v u) (fun r s' => r = eqD d e ∧ LoopS X pins σ H s') X.xe s := fun h1 h2 he => eqAt_V (A := A) (s := s) rx ry h1 h2 X.prog X.w X.xe _ ⟨he, here⟩
  cases hx with
  | bl b => cases wd
  | lst _ _ => cases wd
  | dct _ => cases wd
  | @atom a1 dx1 t1 k1 xs1 ds1 u1 v1 i1 =>
    cases hy with
    | bl b => cases we
    | lst _ _ => cases we
    | dct _ => cases we
    | non => cases rx; cases ry; exact eqB_of_rc (fun z => nomatch (eq_of_beq z)) (left u1 rfl rfl (.inl rfl) rfl)
    | int j => cases rx; obtain ⟨t, rfl⟩ := ry; exact eqB_of_rc (fun z => nomatch (eq_of_beq z)) (left u1 rfl rfl (.inr (.inl rfl)) rfl)
    | str z => cases rx; obtain ⟨t, rfl⟩ := ry; exact eqB_of_rc (fun z => nomatch (eq_of_beq z)) (left u1 rfl rfl (.inr (.inr (.inl rfl))) rfl)
    | @tup t2 _ _ h2 i2 =>
      cases rx
      cases ry
      obtain ⟨its, oo, ho, hc, _⟩ := tups h2
      refine eqB_of_rc (fun z => ?_) (left u1 rfl ⟨oo, ho, hc⟩ (.inr (.inr (.inr rfl))) rfl)
      have e1 := Value.ref.inj (eq_of_beq z)
      rw [e1, h2] at u1; cases u1
    | @atom a2 dx2 t2 k2 xs2 ds2 u2 v2 i2 =>
      cases rx
      cases ry
      by_cases hac : a1 = a2
      · subst hac
        have ed := Is.uniq (Is.atom u1 v1 i1) (Is.atom u2 v2 i2)
        rw [← ed, eqD_refl wd]
        exact SeqAt.EqAt.same (A := A) (s := s) (.ref a1) X.prog X.w X.xe _ ⟨rfl, here⟩
      · refine eqB_of_rc (fun z => hac (Value.ref.inj (eq_of_beq z))) ?_
        obtain ⟨od, J⟩ := inst u1
        obtain ⟨od2, J2⟩ := inst u2
        have ow := try_eq (own u1 (.atom u1 v1 i1) (.atom u2 v2 i2) (rfl : RelV (.ref a2) (.ref a2)) rfl wd we zd ze)
        unfold richCompare
        simp only [oneThing_ref]
        refine wpAny_holding (wpAny_bind (wpAny_cRoomFor hu ?_))
        refine wpAny_bind (J.type.here (wpAny_bind (J2.type.here ?_)))
        split
        · rename_i z
          exact absurd z (by simp)
        · refine wpAny_bind (wpAny_pure ?_)
          simp only [Bool.false_eq_true, if_false]
          refine wpAny_bind (wpAny_mono ow (fun r s' z => ?_) fun _ _ z => z)
          obtain ⟨rfl, j⟩ := z
          exact wpAny_pure ⟨_, rfl, rfl, j⟩
  | non =>
    cases hy with
    | bl b => cases we
    | lst _ _ => cases we
    | dct _ => cases we
    | non => exact flat rfl rfl rfl
    | int j => exact flat rfl rfl rfl
    | str z => exact flat rfl rfl rfl
    | tup h2 i2 =>
      cases rx
      cases ry
      obtain ⟨its, hi⟩ := tups h2
      exact EqAt.none_tuple hi hu _ _ _ _ ⟨rfl, here⟩
    | @atom c dy _ _ _ _ u2 _ _ =>
      cases rx
      have r := right u2 rfl (T := "NoneType") rfl o.sN rfl F.slot_NoneType_eq (call_gives F.slot_NoneType_eq rfl F.entry_NoneType_eq (F.args_NoneType_eq_2 _ _) (NoneType___eq___none_ref_0 c) ⟨rfl, rfl⟩) rfl rfl
      cases ry
      exact eqB_of_rc (fun z => nomatch (eq_of_beq z)) r
  | int i =>
    cases hy with
    | bl b => cases we
    | lst _ _ => cases we
    | dct _ => cases we
    | non => exact flat rfl rfl rfl
    | int j => exact flat rfl rfl (by simp only [eqV, eqD]; exact Bool.eq_iff_iff.mpr (by simp))
    | str z => exact flat rfl rfl rfl
    | tup h2 i2 =>
      obtain ⟨t, rfl⟩ := rx
      cases ry
      obtain ⟨its, hi⟩ := tups h2
      exact EqAt.int_tuple i t hi hu _ _ _ _ ⟨rfl, here⟩
    | @atom c dy _ _ _ _ u2 _ _ =>
      obtain ⟨t, rfl⟩ := rx
      obtain ⟨od, J⟩ := inst u2
      have r := right u2 rfl (T := "int") rfl o.sI rfl F.slot_int_eq (call_meets F.slot_int_eq rfl F.entry_int_eq (F.args_int_eq_2 _ _) (int_eq_inst i t c C dy) ⟨J.at_, rfl, rfl⟩) rfl rfl
      cases ry
      exact eqB_of_rc (fun z => nomatch (eq_of_beq z)) r
  | str z0 =>
    cases hy with
    | bl b => cases we
    | lst _ _ => cases we
    | dct _ => cases we
    | non => exact flat rfl rfl rfl
    | int j => exact flat rfl rfl rfl
    | str z => exact flat rfl rfl (by simp only [eqV, eqD]; exact Bool.eq_iff_iff.mpr (by simp))
    | tup h2 i2 =>
      obtain ⟨t, rfl⟩ := rx
      cases ry
      obtain ⟨its, hi⟩ := tups h2
      exact EqAt.str_tuple z0 t hi hu _ _ _ _ ⟨rfl, here⟩
    | @atom c dy _ _ _ _ u2 _ _ =>
      obtain ⟨t, rfl⟩ := rx
      obtain ⟨od, J⟩ := inst u2
      have r := right u2 rfl (T := "str") rfl o.sS rfl F.slot_str_eq (call_meets F.slot_str_eq rfl F.entry_str_eq (F.args_str_eq_2 _ _) (str_eq_inst z0 t c C dy) ⟨J.at_, rfl, rfl⟩) rfl rfl
      cases ry
      exact eqB_of_rc (fun z => nomatch (eq_of_beq z)) r
  | @tup a1 xs1 ds1 h1 i1 =>
    cases rx
    obtain ⟨its, hi⟩ := tups h1
    cases hy with
    | bl b => cases we
    | lst _ _ => cases we
    | dct _ => cases we
    | non => cases ry; exact EqAt.tuple_none hi hu _ _ _ _ ⟨rfl, here⟩
    | int j => obtain ⟨t, rfl⟩ := ry; exact EqAt.tuple_int j t hi hu _ _ _ _ ⟨rfl, here⟩
    | str z => obtain ⟨t, rfl⟩ := ry; exact EqAt.tuple_str z t hi hu _ _ _ _ ⟨rfl, here⟩
    | tup h2 i2 => cases ht
    | @atom c dy _ _ _ _ u2 _ _ =>
      obtain ⟨od, J⟩ := inst u2
      obtain ⟨⟨cls, dd, data, sl⟩, ho, hc, k, hd⟩ := id hi
      simp only at hc hd
      subst hc hd
      have r := right u2 rfl (T := "tuple") ⟨_, ho, rfl⟩ o.sT (oneThing_ref _ _ _) F.slot_tuple_eq (GQ.call_here F.slot_tuple_eq ⟨_, ho, rfl⟩ F.entry_tuple_eq (F.args_tuple_eq_2 _ _) (tup_eq_inst (PySem.W.looks_subIn I.kIn o.sT) J.at_ ho ⟨rfl, rfl⟩)) rfl rfl
      cases ry
      refine eqB_of_rc (fun z => ?_) r
      have e1 := Value.ref.inj (eq_of_beq z)
      rw [e1, u2] at h1; cases h1
end
end Hc

namespace Hc
open PySem PySem.Spec PyProof.Rows L2 Hr PySem.SeqAt
theorem eqL_all : ∀ {ds es : List D} (bs : Nat → Bool), (∀ i d e, ds[i]? = some d → es[i]? = some e → bs i = eqD d e) → allP bs ds.length es.length = eqL ds es
  | [], [], bs, _ => rfl
  | [], _ :: _, bs, _ => by simp [allP, eqL]
  | _ :: _, [], bs, _ => by simp [allP, eqL]
  | d :: ds, e :: es, bs, h => by
    have h0 := h 0 d e rfl rfl
    have ih := eqL_all (ds := ds) (es := es) (fun i => bs (i + 1)) fun i d' e' h1 h2 => h (i + 1) d' e' (by simpa using h1) (by simpa using h2)
    simp only [eqL]
    rw [← ih, ← h0]
    unfold allP
    simp only [List.length_cons]
    have hm : min (ds.length + 1) (es.length + 1) = min ds.length es.length + 1 := by omega
    rw [hm, List.range_succ_eq_map, List.all_cons, List.all_map]
    have : (ds.length + 1 == es.length + 1) = (ds.length == es.length) := by simp
    rw [this, Bool.and_assoc]
    rfl
section
variable {X : Cx} {n : Nat} {C : Addr}
/-- what is asked of two words that are compared -/
structure W2 (C : Addr) (H : Hp) (x y : V) (d e : D) : Prop where
  x : Is C H x d
  y : Is C H y e
  wd : wrd d = true
  we : wrd e = true
  zd : sz d ≤ 1000000
  ze : sz e ≤ 1000000
theorem W2.same {H H' : Hp} {x y : V} {d e : D} (w : W2 C H x y d e) (s : Same H H') : W2 C H' x y d e := ⟨w.x.same s, w.y.same s, w.wd, w.we, w.zd, w.ze⟩
/-- == of two words -/
theorem eqW (O : OwnS X.prog X.w X.K X.mg X.base n C (spEqG C)) (o : Oth X.K C) : ∀ (N : Nat) {A : Around} (sb : Sub X (N + n) A) {pins : List (Addr × Obj)} {s : Shared} {σ : L2.St} {H : Hp} {x y : V} {v u : Value} {d e : D}, dep d ≤ N → Inv X pins σ H s → RelV x v → RelV y u → W2 C H x y d e →
    wpAny (model X.prog X.w) A (eqBool v u) (fun r s' => r = eqD d e ∧ LoopS X pins σ H s') X.xe s := by
  intro N
  induction N with
  | zero =>
    intro A sb pins s σ H x y v u d e hd I rx ry w
    have ht : isTu d = false := by cases d <;> first | rfl | (simp [dep] at hd; done)
    exact eqMix O o (sb.mono (by omega)) I rx ry w.x w.y w.wd w.we w.zd w.ze (by rw [ht]; rfl)
  | succ N ih =>
    intro A sb pins s σ H x y v u d e hd I rx ry w
    by_cases ht : (isTu d && isTu e) = false
    · exact eqMix O o (sb.mono (by omega)) I rx ry w.x w.y w.wd w.we w.zd w.ze ht
    · have ht2 : isTu d = true ∧ isTu e = true := by simpa using ht
      obtain ⟨ds, rfl⟩ : ∃ ds, d = .tup ds := by cases d <;> first | exact ⟨_, rfl⟩ | (simp [isTu] at ht2; done)
      obtain ⟨es, rfl⟩ : ∃ es, e = .tup es := by cases e <;> first | exact ⟨_, rfl⟩ | (simp [isTu] at ht2; done)
      have hx := w.x
      have hy := w.y
      have wd := w.wd
      have we := w.we
      have zd := w.zd
      have ze := w.ze
      simp only [wrd] at wd we
      simp only [sz] at zd ze
      cases hx with
      | @tup a xs _ h1 i1 =>
      cases hy with
      | @tup b ys _ h2 i2 =>
      cases rx
      cases ry
      have here : LoopS X pins σ H s := ⟨H, I, Same.refl H⟩
      by_cases hab : a = b
      · subst hab
        have ed := Is.uniq w.x w.y
        rw [← ed, eqD_refl w.wd]
        exact SeqAt.EqAt.same (A := A) (s := s) (.ref a) X.prog X.w X.xe _ ⟨rfl, here⟩
      · refine eqB_of_rc (fun z => hab (Value.ref.inj (eq_of_beq z))) ?_
        obtain ⟨its, r, eT, z⟩ := I.tuple (SqT.of h1)
        obtain ⟨its2, r2, eT2, z2⟩ := I.tuple (SqT.of h2)
        have l1 := r.length
        have l2 := r2.length
        have l3 := i1.len
        have l4 := i2.len
        obtain ⟨⟨cls, dd, data, sl⟩, ho, hc, n1, hd1⟩ := id eT
        obtain ⟨⟨cls2, dd2, data2, sl2⟩, ho2, hc2, n2, hd2⟩ := id eT2
        simp only at hc hd1 hc2 hd2
        subst hc hd1 hc2 hd2
        have hdep : depL ds ≤ N := by simp only [dep] at hd; omega
        have sb1 : Sub X (N + n + 1) A := sb.mono (by omega)
        -- the pairs
        have pair : ∀ i (k1 : i < its.toArray.size) (k2 : i < its2.toArray.size) s1, LoopS X pins σ H s1 → wpAny (model X.prog X.w) A.in1 (eqBool its.toArray[i] its2.toArray[i]) (fun r s' => r = (match ds[i]?, es[i]? with | some d, some e => eqD d e | _, _ => false) ∧ LoopS X pins σ H s') X.xe s1 := fun i k1 k2 s1 j => by
          obtain ⟨H1, I1, e1⟩ := j
          have k1' : i < its.length := by simpa using k1
          have k2' : i < its2.length := by simpa using k2
          obtain ⟨p, hp, rp⟩ := r.get (List.getElem?_eq_getElem (show i < xs.length by omega))
          obtain ⟨q, hq, rq⟩ := r2.get (List.getElem?_eq_getElem (show i < ys.length by omega))
          rw [List.getElem?_eq_getElem k1'] at hp
          rw [List.getElem?_eq_getElem k2'] at hq
          have ep : its.toArray[i] = p := by simpa using Option.some.inj hp
          have eq : its2.toArray[i] = q := by simpa using Option.some.inj hq
          obtain ⟨d', hd', ix⟩ := i1.at (List.getElem?_eq_getElem (show i < xs.length by omega))
          obtain ⟨e', he', iy⟩ := i2.at (List.getElem?_eq_getElem (show i < ys.length by omega))
          have md := List.mem_of_getElem? hd'
          have me := List.mem_of_getElem? he'
          have s1' := szL_mem md
          have s2' := szL_mem me
          rw [ep, eq, hd', he']
          refine wpAny_mono (ih (A := A.in1) sb1.in1 (Nat.le_trans (depL_mem md) hdep) I1 rp rq ⟨ix.same e1, iy.same e1, wrdL_mem wd md, wrdL_mem we me, by omega, by omega⟩) (fun r s2 q2 => ?_) fun _ _ z => z
          obtain ⟨hr, H2, I2, e2⟩ := q2
          exact ⟨hr, H2, I2, e1.trans e2⟩
        have hall : allP (fun i => match ds[i]?, es[i]? with | some d, some e => eqD d e | _, _ => false) its.toArray.size its2.toArray.size = eqL ds es := by
          rw [List.size_toArray, List.size_toArray, ← l1, ← l2, l3, l4]
          exact eqL_all _ fun i d' e' h1 h2 => by simp only [h1, h2]
        refine wpAny_richCompare_same_room (op := .Eq) ⟨_, ho, rfl⟩ ⟨_, ho2, rfl⟩ F.slot_tuple_eq (GQ.call_here F.slot_tuple_eq ⟨_, ho, rfl⟩ F.entry_tuple_eq (F.args_tuple_eq_2 _ _) ?_) sb.room.units0
        exact tup_eqB (R := wants (fun z s' => z ≠ .notImplemented ∧ ∃ r, z = .bool r ∧ r = eqD (.tup ds) (.tup es) ∧ LoopS X pins σ H s') X.xe) pair (fun s' j => ⟨(fun z => nomatch z), _, rfl, by rw [hall]; rfl, j⟩) ho ho2 here
end
section
variable {X : Cx} {n N : Nat} {C : Addr}
/-- x in l, x not in l: words -/
def rInW (C : Addr) (N : Nat) (g : Bool → Bool) : R2 := fun x y H Q => ∃ l xs ds d, y = .ref l ∧ H l = some (.lst xs) ∧ IsA C H xs ds ∧ Is C H x d ∧ wrd d = true ∧ wrdL ds = true ∧ depL ds ≤ N ∧ sz d ≤ 1000000 ∧ szL ds ≤ 1000000 ∧ ∀ H', Same H H' → Q (.bl (g (ds.any fun e => eqD e d))) H'
theorem asksW (O : OwnS X.prog X.w X.K X.mg X.base n C (spEqG C)) (o : Oth X.K C) {A : Around} {pins : List (Addr × Obj)} {σ : L2.St} {H : Hp} (sb : Sub X (N + n + 1) A) {l : Addr} {xs : List V} {ds : List D} {x : V} {v : Value} {d : D}
    (hl : H l = some (.lst xs)) (hxs : IsA C H xs ds) (hx : Is C H x d) (rx : RelV x v) (wd : wrd d = true) (ws : wrdL ds = true) (hdp : depL ds ≤ N) (zd : sz d ≤ 1000000) (zs : szL ds ≤ 1000000) : Asks X.prog X.w A X.xe l v (LoopS X pins σ H) (ds.map fun e => eqD e d) := by
  refine ⟨fun s1 j => ?_⟩
  obtain ⟨H1, I1, e1⟩ := j
  obtain ⟨z, its, k, r, e⟩ := I1.hok l _ (e1 _ _ hl)
  have hlen := r.length
  have hxl := hxs.len
  refine ⟨its.toArray, k, e, by rw [List.size_toArray, List.length_map]; omega, fun i h h2 => ?_⟩
  have h' : i < its.length := by simpa using h
  have hi : i < xs.length := by omega
  obtain ⟨u, hu, ru⟩ := r.get (List.getElem?_eq_getElem hi)
  rw [List.getElem?_eq_getElem h'] at hu
  have hu2 : its.toArray[i] = u := by simpa using Option.some.inj hu
  obtain ⟨y, hy, hyi⟩ := hxs.at (List.getElem?_eq_getElem hi)
  have my := List.mem_of_getElem? hy
  have hb : (ds.map fun e => eqD e d)[i] = eqD y d := by
    have : (ds.map fun e => eqD e d)[i]? = some (eqD y d) := by rw [List.getElem?_map, hy]; rfl
    rw [List.getElem?_eq_getElem h2] at this
    exact Option.some.inj this
  rw [hu2, hb]
  have sy := szL_mem my
  refine wpAny_mono (eqW O o N sb.in1 (Nat.le_trans (depL_mem my) hdp) I1 ru rx ⟨hyi.same e1, hx.same e1, wrdL_mem ws my, wd, by omega, zd⟩) (fun r s2 q => ?_) fun _ _ x => x
  obtain ⟨hr, H2, I2, e2⟩ := q
  exact ⟨hr, H2, I2, e1.trans e2⟩
theorem op_inW (O : OwnS X.prog X.w X.K X.mg X.base n C (spEqG C)) (o : Oth X.K C) (hr : Room (N + n + 1) X.A) : OpR X (compareOp .In) (rInW C N id) := by
  intro pins s σ H x y v u Q I rx ry h
  obtain ⟨l, xs, ds, d, rfl, hl, hxs, hx, wd, ws, hdp, zd, zs, q⟩ := h
  cases ry
  refine op_in_ (asksW O o ⟨hr, rfl⟩ hl hxs hx rx wd ws hdp zd zs) (s := s) ⟨H, I, Same.refl H⟩ (fun s' j => ?_)
  obtain ⟨H', I', e⟩ := j
  have e9 : ((ds.map fun e => eqD e d).any id) = ds.any fun e => eqD e d := by rw [List.any_map]; rfl
  rw [e9]
  exact ⟨.bl _, H', I', rfl, q H' e⟩
theorem op_notInW (O : OwnS X.prog X.w X.K X.mg X.base n C (spEqG C)) (o : Oth X.K C) (hr : Room (N + n + 1) X.A) : OpR X (compareOp .NotIn) (rInW C N not) := by
  intro pins s σ H x y v u Q I rx ry h
  obtain ⟨l, xs, ds, d, rfl, hl, hxs, hx, wd, ws, hdp, zd, zs, q⟩ := h
  cases ry
  refine op_notIn_ (asksW O o ⟨hr, rfl⟩ hl hxs hx rx wd ws hdp zd zs) (s := s) ⟨H, I, Same.refl H⟩ (fun s' j => ?_)
  obtain ⟨H', I', e⟩ := j
  have e9 : ((ds.map fun e => eqD e d).any id) = ds.any fun e => eqD e d := by rw [List.any_map]; rfl
  rw [e9]
  exact ⟨.bl _, H', I', rfl, q H' e⟩
/-- x == y as an expression, from the == inside a list -/
def rEqW (C : Addr) (N : Nat) : R2 := fun x y H Q => ∃ d e, W2 C H x y d e ∧ dep d ≤ N ∧ ∀ H', Same H H' → Q (.bl (eqD d e)) H'
end
end Hc

namespace Hc
open PySem PySem.Spec PyProof.Rows L2 Hr
/-- tuples and atoms stay -/
structure Keep (C : Addr) (H H' : Hp) : Prop where
  tup : ∀ b xs, H b = some (.tup xs) → H' b = some (.tup xs)
  ins : ∀ b dx fs, H b = some (.ins C dx fs) → H' b = some (.ins C dx fs)
theorem Keep.of {C : Addr} {H H' : Hp} (s : Same H H') : Keep C H H' := ⟨fun b _ e => s b _ e, fun b _ _ e => s b _ e⟩
theorem Keep.trans {C : Addr} {H H1 H2 : Hp} (a : Keep C H H1) (b : Keep C H1 H2) : Keep C H H2 := ⟨fun c xs e => b.tup c xs (a.tup c xs e), fun c dx fs e => b.ins c dx fs (a.ins c dx fs e)⟩
theorem Keep.lst {C : Addr} {H : Hp} {l : Addr} {xs ys : List V} (h : H l = some (.lst xs)) : Keep C H (upd H l (.lst ys)) :=
  ⟨fun b _ e => by rw [upd_ne (fun z => by rw [z, h] at e; cases e)]; exact e, fun b _ _ e => by rw [upd_ne (fun z => by rw [z, h] at e; cases e)]; exact e⟩
/-- all but the list at l stays -/
def But (l : Addr) (H H' : Hp) : Prop := ∀ b o, H b = some o → b ≠ l → H' b = some o
theorem But.keep {C l : Addr} {H H' : Hp} {xs : List V} (h : H l = some (.lst xs)) (b : But l H H') : Keep C H H' :=
  ⟨fun c _ e => b c _ e (fun z => by rw [z, h] at e; cases e), fun c _ _ e => b c _ e (fun z => by rw [z, h] at e; cases e)⟩
mutual
/-- no lists and no dicts within -/
def cln : D → Bool
  | .tup ds => clnL ds
  | .atom _ ds => clnL ds
  | .lst _ => false
  | .dct => false
  | _ => true
def clnL : List D → Bool
  | [] => true
  | d :: ds => cln d && clnL ds
end
mutual
theorem Is.keep {C : Addr} {H H' : Hp} (k : Keep C H H') : ∀ {x : V} {d : D}, cln d = true → Is C H x d → Is C H' x d
  | _, _, _, .non => .non
  | _, _, _, .bl b => .bl b
  | _, _, _, .int i => .int i
  | _, _, _, .str s => .str s
  | _, _, c, .tup h t => .tup (k.tup _ _ h) (IsA.keep k (by simpa [cln] using c) t)
  | _, _, c, .lst h t => by simp [cln] at c
  | _, _, c, .dct h => by simp [cln] at c
  | _, _, c, .atom h h2 t => .atom (k.ins _ _ _ h) (k.tup _ _ h2) (IsA.keep k (by simpa [cln] using c) t)
theorem IsA.keep {C : Addr} {H H' : Hp} (k : Keep C H H') : ∀ {xs : List V} {ds : List D}, clnL ds = true → IsA C H xs ds → IsA C H' xs ds
  | _, _, _, .nil => .nil
  | _, _, c, .cons h t => by
    simp only [clnL, Bool.and_eq_true] at c
    exact .cons (Is.keep k c.1 h) (IsA.keep k c.2 t)
end
theorem clnL_iff : ∀ {ds : List D}, clnL ds = true ↔ ∀ d ∈ ds, cln d = true
  | [] => by simp [clnL]
  | d :: ds => by simp [clnL, clnL_iff (ds := ds)]
theorem clnL_app (a b : List D) : clnL (a ++ b) = (clnL a && clnL b) := by
  induction a with
  | nil => simp [clnL]
  | cons x a ih => rw [List.cons_append]; simp only [clnL]; rw [ih, Bool.and_assoc]
/-- what is there already is passed over -/
def add1 (ds : List D) (a : D) : List D := if ds.any (fun e => eqD e a) then ds else ds ++ [a]
def addAll (ds ps : List D) : List D := ps.foldl add1 ds
theorem add1_mem {ds : List D} {a e : D} (h : e ∈ add1 ds a) : e ∈ ds ∨ e = a := by
  unfold add1 at h
  split at h
  · exact .inl h
  · simpa using h
theorem addAll_mem : ∀ {ps ds : List D} {e : D}, e ∈ addAll ds ps → e ∈ ds ∨ e ∈ ps
  | [], ds, e, h => .inl h
  | p :: ps, ds, e, h => by
    rcases addAll_mem (ps := ps) (ds := add1 ds p) h with h | h
    · rcases add1_mem h with h | h
      · exact .inl h
      · exact .inr (by rw [h]; exact List.mem_cons_self)
    · exact .inr (List.mem_cons_of_mem _ h)
theorem addAll_app (ds ps qs : List D) : addAll ds (ps ++ qs) = addAll (addAll ds ps) qs := List.foldl_append
theorem add1_len (ds : List D) (a : D) : (add1 ds a).length ≤ ds.length + 1 := by
  unfold add1
  split
  · omega
  · simp
theorem addAll_len : ∀ (ps ds : List D), (addAll ds ps).length ≤ ds.length + ps.length
  | [], ds => Nat.le_refl _
  | p :: ps, ds => by
    have := addAll_len ps (add1 ds p)
    have := add1_len ds p
    show (addAll (add1 ds p) ps).length ≤ _
    simp only [List.length_cons]; omega
mutual
theorem wrd_cln : ∀ {d : D}, wrd d = true → cln d = true
  | .tup ds, h => by simp only [wrd] at h; simp only [cln]; exact wrdL_cln h
  | .atom k ds, h => by simp only [wrd, Bool.and_eq_true] at h; simp only [cln]; exact wrdL_cln h.1
  | .non, _ => rfl
  | .int _, _ => rfl
  | .str _, _ => rfl
  | .bl _, h => by simp [wrd] at h
  | .lst _, h => by simp [wrd] at h
  | .dct, h => by simp [wrd] at h
theorem wrdL_cln : ∀ {ds : List D}, wrdL ds = true → clnL ds = true
  | [], _ => rfl
  | d :: ds, h => by
    simp only [wrdL, Bool.and_eq_true] at h
    simp only [clnL]; rw [wrd_cln h.1, wrdL_cln h.2]; rfl
end
theorem wrdL_iff : ∀ {ds : List D}, wrdL ds = true ↔ ∀ d ∈ ds, wrd d = true
  | [] => by simp [wrdL]
  | d :: ds => by simp [wrdL, wrdL_iff (ds := ds)]
mutual
theorem places_sz : ∀ d : D, szL (places d) ≤ sz d
  | .tup ds => by simp only [places, sz]; have := placesL_sz ds; omega
  | .atom k ds => by simp [places, sz, szL]
  | .non | .bl _ | .int _ | .str _ | .lst _ | .dct => by simp [places, szL]
theorem placesL_sz : ∀ ds : List D, szL (placesL ds) ≤ szL ds
  | [] => Nat.le_refl _
  | d :: ds => by simp only [placesL, szL]; rw [szL_app]; have := places_sz d; have := placesL_sz ds; omega
end
theorem add1_sz (ds : List D) (a : D) : szL (add1 ds a) ≤ szL ds + sz a := by
  unfold add1
  split
  · omega
  · rw [szL_app]; simp [szL]
theorem addAll_sz : ∀ (ps ds : List D), szL (addAll ds ps) ≤ szL ds + szL ps
  | [], ds => Nat.le_refl _
  | p :: ps, ds => by
    have h1 := addAll_sz ps (add1 ds p)
    have h2 := add1_sz ds p
    show szL (addAll (add1 ds p) ps) ≤ _
    simp only [szL]; omega
theorem szL_take (ds : List D) (i : Nat) : szL (ds.take i) ≤ szL ds := by
  have : szL ds = szL (ds.take i) + szL (ds.drop i) := by rw [← szL_app, List.take_append_drop]
  omega
theorem depL_atoms : ∀ {ds : List D}, (∀ d ∈ ds, ∃ k gs, d = .atom k gs) → depL ds = 0
  | [], _ => rfl
  | d :: ds, h => by
    obtain ⟨k, gs, rfl⟩ := h d List.mem_cons_self
    simp only [depL]
    rw [depL_atoms fun e he => h e (List.mem_cons_of_mem _ he)]; rfl
end Hc

namespace Hc
open PySem PySem.Spec PyProof.Rows L2 Hr
theorem ru {k : Nat} {A : Around} (r : Room k A) : A.units + 1 < cLine := by have := r.units; omega
def kD (c : Addr) (r m : Int) : List (Key × V) := [(.inr "cells", .ref c), (.inr "rest", .int r), (.inr "mixed", .int m)]
theorem n_rc : ¬ (("cells" : Str) = "rest") := by decide +kernel
theorem n_mc : ¬ (("cells" : Str) = "mixed") := by decide +kernel
theorem n_mr : ¬ (("rest" : Str) = "mixed") := by decide +kernel
theorem n_cr : ¬ (("rest" : Str) = "cells") := by decide +kernel
theorem n_cm : ¬ (("mixed" : Str) = "cells") := by decide +kernel
theorem n_rm : ¬ (("mixed" : Str) = "rest") := by decide +kernel
section
variable {H : Hp} {d c : Addr} {r m : Int}
theorem dg_cells (h : H d = some (.dK (kD c r m))) : DGet H d (.str "cells") (some (.ref c)) := by
  have := DGet.k (k := .inr "cells") h
  rwa [show valV (kD c r m) (.inr "cells") = some (.ref c) by simp [kD, valV]] at this
theorem dg_rest (h : H d = some (.dK (kD c r m))) : DGet H d (.str "rest") (some (.int r)) := by
  have := DGet.k (k := .inr "rest") h
  rwa [show valV (kD c r m) (.inr "rest") = some (.int r) by simp [kD, valV, n_rc]] at this
theorem dg_mixed (h : H d = some (.dK (kD c r m))) : DGet H d (.str "mixed") (some (.int m)) := by
  have := DGet.k (k := .inr "mixed") h
  rwa [show valV (kD c r m) (.inr "mixed") = some (.int m) by simp [kD, valV, n_mc, n_mr]] at this
theorem dp_rest {v : Int} (h : H d = some (.dK (kD c r m))) : DPut H d (.str "rest") (.int v) (upd H d (.dK (kD c v m))) := by
  have := DPut.k (k := .inr "rest") (v := .int v) h (Nat.lt_of_lt_of_le (show 3 < 1000001 by decide) (by decide))
  rwa [show putK (kD c r m) (.inr "rest") (.int v) = kD c v m by simp [kD, putK, n_rc, n_mr, n_rm]] at this
theorem dp_mixed {v : Int} (h : H d = some (.dK (kD c r m))) : DPut H d (.str "mixed") (.int v) (upd H d (.dK (kD c r v))) := by
  have := DPut.k (k := .inr "mixed") (v := .int v) h (Nat.lt_of_lt_of_le (show 3 < 1000001 by decide) (by decide))
  rwa [show putK (kD c r m) (.inr "mixed") (.int v) = kD c r v by simp [kD, putK, n_mc, n_mr]] at this
end
/-- the drawing dict, its cells -/
def Dr (H : Hp) (d c : Addr) : Prop := (∃ r m, H d = some (.dK (kD c r m))) ∧ ∃ ns : List Int, ns.length ≤ 1000 ∧ H c = some (.lst (ns.map V.int))
/-- all but those two stay -/
def Bu2 (d c : Addr) (H H' : Hp) : Prop := ∀ b o, H b = some o → b ≠ d → b ≠ c → H' b = some o
theorem Bu2.refl {d c : Addr} {H : Hp} : Bu2 d c H H := fun _ _ e _ _ => e
theorem Bu2.of {d c : Addr} {H H' : Hp} (s : Same H H') : Bu2 d c H H' := fun b o e _ _ => s b o e
theorem Bu2.trans {d c : Addr} {H H1 H2 : Hp} (a : Bu2 d c H H1) (b : Bu2 d c H1 H2) : Bu2 d c H H2 := fun x o e n1 n2 => b x o (a x o e n1 n2) n1 n2
theorem Bu2.d {d c : Addr} {H : Hp} {o : HO} : Bu2 d c H (upd H d o) := fun x _ e n _ => by rw [upd_ne n]; exact e
theorem Bu2.c {d c : Addr} {H : Hp} {o : HO} : Bu2 d c H (upd H c o) := fun x _ e _ n => by rw [upd_ne n]; exact e
theorem Dr.ne {H : Hp} {d c : Addr} (h : Dr H d c) : d ≠ c := fun z => by
  obtain ⟨⟨r, m, h1⟩, ns, _, h2⟩ := h
  rw [z, h2] at h1; cases h1
theorem Dr.keep {C : Addr} {H H' : Hp} {d c : Addr} (h : Dr H d c) (b : Bu2 d c H H') : Keep C H H' := by
  obtain ⟨⟨r, m, h1⟩, ns, _, h2⟩ := h
  exact ⟨fun x _ e => b x _ e (fun z => by rw [z, h1] at e; cases e) (fun z => by rw [z, h2] at e; cases e), fun x _ _ e => b x _ e (fun z => by rw [z, h1] at e; cases e) (fun z => by rw [z, h2] at e; cases e)⟩
theorem Dr.same {H H' : Hp} {d c : Addr} (s : Same H H') (h : Dr H d c) : Dr H' d c := by
  obtain ⟨⟨r, m, h1⟩, ns, hn, h2⟩ := h
  exact ⟨⟨r, m, s _ _ h1⟩, ns, hn, s _ _ h2⟩
/-- what is none of the two stays none -/
theorem Dr.off {H : Hp} {d c : Addr} (h : Dr H d c) {p : Addr} (hp : H p = none) : p ≠ d ∧ p ≠ c := by
  obtain ⟨⟨r, m, h1⟩, ns, hn, h2⟩ := h
  exact ⟨fun z => (by rw [z, h1] at hp; cases hp), fun z => (by rw [z, h2] at hp; cases hp)⟩
def spDraw : Sp := fun vs H Q _ => ∃ d c many, vs = [.ref d, .int many] ∧ Dr H d c ∧ 0 < many ∧ many < 1073741824 ∧ ∀ H' r, Dr H' d c → Bu2 d c H H' → 0 ≤ r → r < many → Q (.int r) H'
def spPick : Sp := fun vs H Q _ => ∃ (d c l : Addr) (xs : List V), vs = [.ref d, .ref l] ∧ Dr H d c ∧ H l = some (.lst xs) ∧ l ≠ c ∧ 0 < xs.length ∧ xs.length < 1000000 ∧ ∀ (H' : Hp) (i : Nat) (x : V), Dr H' d c → Bu2 d c H H' → xs[i]? = some x → Q x H'
section
variable {P : Program} {w : World} {K : PySem.W.Frag} {mg : Str → Option Value} {base : Heap} {f : Addr} {fd : FuncData} {C : Addr}
abbrev s__law_begin : Stmt := top 64
theorem sc__law_begin : FnScope ["script"] ["script"] (C8.fnScope s__law_begin) := C8.fnScope_by (by decide +kernel)
theorem ok__law_begin (F : C8.Def K mg "_law_begin" s__law_begin f fd) (b : Binds K fd ["script"] []) (T : Txt K mg w C) : C8.Cal P w K mg base 1 "_law_begin" (fun vs H Q _ => ∃ (a : Addr) (ns : List Int), vs = [.ref a] ∧ SqL K H a (ns.map V.int) ∧ ns.length ≤ 1000 ∧ ∀ H' d c, Same H H' → H d = none → H c = none → Dr H' d c → Q (.ref d) H') [] := by
  refine C8.cal0 F b .nil sc__law_begin (fun vs H Q E h => ?_) (fun cdv A outer s H vs Q E hr h => ?_)
  · obtain ⟨a, ns, rfl, _⟩ := h; rfl
  obtain ⟨a, ns, rfl, hl, hn, q⟩ := h
  refine ⟨_, (pss_one (ps_ret (pe_disp (pps_cons pe_str (pe_callTy call_list_of rfl T.z_list bt_list (pa_cons (pv 0) pa_nil)) (pps_cons pe_str pe_int (pps_cons pe_str pe_int pps_nil))) rfl rfl (List.cons_ne_nil _ _) (by decide)))), ?_⟩
  intro d hd
  have s1 := same_new (o := .dK []) hd
  refine ⟨_, rfl, a, ns.map V.int, rfl, .inl (hl.ext s1), fun c hc => ?_⟩
  have ndc : d ≠ c := fun z => by rw [← z, upd_same] at hc; cases hc
  refine ⟨by rw [upd_ne ndc]; exact upd_same, kD c 0 1, rfl, by show 3 ≤ 15; decide, ?_⟩
  refine q _ d c (same_put (same_put s1 (s1.free hc)) hd) hd (s1.free hc) ⟨⟨0, 1, ?_⟩, ns, hn, by rw [upd_ne ndc.symm]; exact upd_same⟩
  rw [upd_same]
  refine congrArg (fun l => some (HO.dK l)) ?_
  simp [kD, mergeK, putK, n_rc, n_mc, n_mr]
abbrev s__law_draw : Stmt := top 65
theorem sc__law_draw : FnScope ["draws", "many", "cells", "cell", "value"] ["draws", "many"] (C8.fnScope s__law_draw) := C8.fnScope_by (by decide +kernel)
theorem ok__law_draw (F : C8.Def K mg "_law_draw" s__law_draw f fd) (b : Binds K fd ["draws", "many"] []) (T : Txt K mg w C) : C8.Cal P w K mg base 1 "_law_draw" spDraw [] := by
  refine C8.cal0 F b .nil sc__law_draw (fun vs H Q E h => ?_) (fun cdv A outer s H vs Q E hr h => ?_)
  · obtain ⟨d, c, many, rfl, _⟩ := h; rfl
  obtain ⟨d, c, many, rfl, hD, hm0, hm1, q⟩ := h
  refine ⟨_, (C8.pss_cut (ps_if (PW.pt (pw_and (pt_cmpR op_eq (pe_dget (ru hr) (pv 0) pe_str (fun _ _ => rfl)) pe_int (nomark _)) (pw_and1 (pt_cmpR op_gt (pe_callB call_lenS rfl T.z_len bt_len (pa_cons (pe_dget (ru hr) (pv 0) pe_str (fun _ _ => rfl)) pa_nil)) pe_int (nomark _))))) (pss_cons (ps_set (i := 2) sc__law_draw.nd rfl (Or.inl rfl) (pe_dget (ru hr) (pv 0) pe_str (fun _ _ => rfl)))
      (pss_cons (ps_set (i := 3) sc__law_draw.nd rfl (Or.inl rfl) (pe_callB call_abs rfl T.z_abs bt_abs (pa_cons (pe_bm PySem.F.plainAttrs_list PySem.F.slot_list_pop PySem.F.type_list_pop mt_popAt (pv 2) (pa_cons pe_int pa_nil)) pa_nil)))
      (pss_cons (ps_if (pt_cmpR op_ge (pv 3) (pe_op op_pow pe_int pe_int) (nomark _)) (pss_one (ps_dput (ru hr) (pv 0) pe_str (pv 3) rfl)) pss_nil)
      (pss_one (ps_dput (ru hr) (pv 0) pe_str (pe_op op_mod (pe_callTy call_int1 rfl T.z_int bt_int (pa_cons (pe_op op_add (pe_op op_add (pe_op op_mul (pe_dget (ru hr) (pv 0) pe_str (fun _ _ => rfl)) pe_int) (pv 3)) pe_int) pa_nil)) pe_int) rfl))))) pss_nil)
      (pss_cons (ps_if (pt_cmpR op_gt (pe_dget (ru hr) (pv 0) pe_str (fun _ _ => rfl)) pe_int (nomark _)) (pss_cons (ps_set (i := 4) sc__law_draw.nd rfl (Or.inl rfl) (pe_op op_mod (pe_callTy call_int1 rfl T.z_int bt_int (pa_cons (pe_dget (ru hr) (pv 0) pe_str (fun _ _ => rfl)) pa_nil)) (pv 1)))
      (pss_cons (ps_dput (ru hr) (pv 0) pe_str (pe_op op_fdiv (pe_dget (ru hr) (pv 0) pe_str (fun _ _ => rfl)) (pv 1)) rfl)
      (pss_one (ps_ret (pv 4))))) pss_nil)
      (pss_cons (ps_dput (ru hr) (pv 0) pe_str (pe_op op_mod (pe_callTy call_int1 rfl T.z_int bt_int (pa_cons (pe_op op_add (pe_op op_mul (pe_dget (ru hr) (pv 0) pe_str (fun _ _ => rfl)) pe_int) pe_int) pa_nil)) pe_int) rfl)
      (pss_one (ps_ret (pe_op op_mod (pe_callTy call_int1 rfl T.z_int bt_int (pa_cons (pe_op op_fdiv (pe_dget (ru hr) (pv 0) pe_str (fun _ _ => rfl)) pe_int) pa_nil)) (pv 1))))))), ?_⟩
  obtain ⟨⟨r0, m0, hd⟩, ns, hn, hc⟩ := id hD
  have ndc := hD.ne
  refine ⟨fun σ H1 => ∃ v2 v3, σ = [some (.ref d), some (.int many), v2, v3, none] ∧ Dr H1 d c ∧ Bu2 d c H H1, ?_, ?_⟩
  · have fin : ∃ v2 v3, (L2.start ["draws", "many", "cells", "cell", "value"] [.ref d, .int many] : L2.St) = [some (.ref d), some (.int many), v2, v3, none] ∧ Dr H d c ∧ Bu2 d c H H := ⟨none, none, rfl, hD, Bu2.refl⟩
    refine ⟨_, rfl, d, _, rfl, dg_rest hd, rfl, _, rfl, ?_⟩
    by_cases c1 : r0 = 0
    · refine ifT (by rw [c1]) ⟨_, rfl, d, _, rfl, dg_cells hd, c, _, rfl, .inl (SqL.of hc), _, _, rfl, rfl, _, rfl, ?_⟩
      cases ns with
      | nil => exact ifF (by simp) fin
      | cons n ns =>
        refine ifT (by simp) ?_
        refine ⟨_, rfl, d, _, rfl, dg_cells hd, ?_⟩
        refine ⟨_, rfl, .inl ⟨rfl, _, SqL.of hc⟩, c, _, 0, 0, .int n, rfl, rfl, hc, by decide, by decide, PySem.StrLaws.seqIndex_nonneg (by omega) (by simp), rfl, n, rfl, ?_⟩
        have hd1 : (upd H c (.lst (ns.map V.int))) d = some (.dK (kD c r0 m0)) := by rw [upd_ne ndc]; exact hd
        have hc1 : (upd H c (.lst (ns.map V.int))) c = some (.lst (ns.map V.int)) := upd_same
        have b1 : Bu2 d c H (upd H c (.lst (ns.map V.int))) := Bu2.c
        have hn1 : ns.length ≤ 1000 := by simp at hn; omega
        show _
        have hEr : (List.map V.int (n :: ns)).eraseIdx 0 = ns.map V.int := rfl
        rw [hEr]
        generalize (upd H c (.lst (ns.map V.int))) = H1 at hd1 hc1 b1
        -- behind the test of the cell
        have go : ∀ (H2 : Hp) (r m : Int) (v2 : Option V) (cell : Int), H2 d = some (.dK (kD c r m)) → H2 c = some (.lst (ns.map V.int)) → Bu2 d c H H2 → ∀ x, ∃ (v2 v3 : Option V), ([some (.ref d), some (.int many), some (.ref c), some (.int cell), none] : L2.St) = [some (.ref d), some (.int many), v2, v3, none] ∧ Dr (upd H2 d (.dK (kD c r x))) d c ∧ Bu2 d c H (upd H2 d (.dK (kD c r x))) := fun H2 r m v2 cell e1 e2 b2 x =>
          ⟨_, _, rfl, ⟨⟨r, x, upd_same⟩, ns, hn1, by rw [upd_ne ndc.symm]; exact e2⟩, b2.trans Bu2.d⟩
        refine ⟨_, rfl, _, _, rfl, rfl, ⟨by decide, by decide, by decide⟩, _, _, rfl, rfl, _, rfl, ite2 (fun _ => ?_) (fun _ => ?_)⟩
        · refine ⟨_, rfl, _, rfl, d, _, rfl, dp_rest hd1, ?_⟩
          exact ⟨_, rfl, d, _, rfl, dg_mixed upd_same, _, _, rfl, rfl, .inr ⟨by decide, by decide⟩, _, rfl, _, _, rfl, rfl, _, _, rfl, rfl, .inl ⟨_, rfl, _, _, rfl, rfl, (show (0 : Int) < 2147483647 by decide), _, rfl, d, _, rfl, dp_mixed upd_same, go _ _ _ none _ upd_same (by rw [upd_ne ndc.symm]; exact hc1) (b1.trans Bu2.d) _⟩⟩
        · exact ⟨_, rfl, d, _, rfl, dg_mixed hd1, _, _, rfl, rfl, .inr ⟨by decide, by decide⟩, _, rfl, _, _, rfl, rfl, _, _, rfl, rfl, .inl ⟨_, rfl, _, _, rfl, rfl, (show (0 : Int) < 2147483647 by decide), _, rfl, d, _, rfl, dp_mixed hd1, go _ _ _ none _ hd1 hc1 b1 _⟩⟩
    · exact ifF (by simpa using c1) fin
  · rintro σ H1 ⟨v2, v3, rfl, hD1, b1⟩
    obtain ⟨⟨r, m, e1⟩, ns1, hn1, e2⟩ := id hD1
    refine ⟨_, rfl, d, _, rfl, dg_rest e1, _, _, rfl, rfl, _, rfl, ite2 (fun _ => ?_) (fun _ => ?_)⟩
    · refine ⟨_, rfl, d, _, rfl, dg_rest e1, .inl ⟨_, rfl, _, rfl, _, _, rfl, rfl, hm0, ?_⟩⟩
      refine ⟨_, rfl, d, _, rfl, dg_rest e1, _, rfl, _, _, rfl, rfl, ⟨hm0, hm1⟩, _, rfl, d, _, rfl, dp_rest e1, _, rfl, ?_⟩
      exact q _ _ ⟨⟨_, m, upd_same⟩, ns1, hn1, by rw [upd_ne ndc.symm]; exact e2⟩ (b1.trans Bu2.d) (Int.emod_nonneg _ (by omega)) (Int.emod_lt_of_pos _ hm0)
    · refine ⟨_, rfl, d, _, rfl, dg_mixed e1, _, _, rfl, rfl, .inr ⟨by decide, by decide⟩, _, _, rfl, rfl, .inl ⟨_, rfl, _, _, rfl, rfl, (show (0 : Int) < 2147483629 by decide), ?_⟩⟩
      refine ⟨_, rfl, d, _, rfl, dp_mixed e1, ?_⟩
      refine ⟨_, rfl, d, _, rfl, dg_mixed upd_same, _, _, rfl, rfl, ⟨by decide, by decide⟩, .inl ⟨_, rfl, _, rfl, _, _, rfl, rfl, hm0, ?_⟩⟩
      exact q _ _ ⟨⟨r, _, upd_same⟩, ns1, hn1, by rw [upd_ne ndc.symm]; exact e2⟩ (b1.trans Bu2.d) (Int.emod_nonneg _ (by omega)) (Int.emod_lt_of_pos _ hm0)
abbrev s__law_pick : Stmt := top 66
theorem sc__law_pick : FnScope ["draws", "row"] ["draws", "row"] (C8.fnScope s__law_pick) := C8.fnScope_by (by decide +kernel)
theorem ok__law_pick (F : C8.Def K mg "_law_pick" s__law_pick f fd) (b : Binds K fd ["draws", "row"] []) (T : Txt K mg w C) (c__law_draw : C8.Cal P w K mg base 1 "_law_draw" spDraw []) : C8.Cal P w K mg base 2 "_law_pick" spPick [] := by
  refine C8.cal0 F b .nil sc__law_pick (fun vs H Q E h => ?_) (fun cdv A outer s H vs Q E hr h => ?_)
  · obtain ⟨d, c, l, xs, rfl, _⟩ := h; rfl
  obtain ⟨d, c, l, xs, rfl, hD, hl, hlc, h0, h1, q⟩ := h
  have hld : l ≠ d := fun z => by
    obtain ⟨⟨r, m, hd⟩, _⟩ := hD
    rw [z, hd] at hl; cases hl
  refine ⟨_, (pss_one (ps_ret (pe_ix ix_list (pv 1) (C8.pe_c c__law_draw hr (by first | decide | omega) rfl (pa_cons (pv 0) (pa_cons (pe_callB call_lenS rfl T.z_len bt_len (pa_cons (pv 1) pa_nil)) pa_nil))) (fun _ _ => rfl)))), ?_⟩
  refine ⟨_, rfl, _, rfl, _, rfl, l, xs, rfl, .inl (SqL.of hl), d, c, _, rfl, hD, by omega, by omega, fun H1 r hD1 b1 g0 g1 => ?_⟩
  have hlt : r.toNat < xs.length := by omega
  have hx : xs[r.toNat]? = some xs[r.toNat] := List.getElem?_eq_getElem hlt
  have hr2 : ((r.toNat : Nat) : Int) = r := by omega
  refine ⟨l, xs, r, _, rfl, rfl, SqL.of (b1 _ _ hl hld hlc), (show atI xs r = some xs[r.toNat] by have := atI_nat hx; rwa [hr2] at this), q H1 _ _ hD1 b1 hx⟩
end
end Hc

namespace Hc
open PySem PySem.Spec PyProof.Rows L2 Hr
theorem pmk_own0 {X : Cx} {C : Addr} {bmB : List Value} {B newId initId : String} {x : Str} {p pos : Pos} (F : ExcBaseFacts B newId initId bmB) (q : PySem.W.excIn X.K C bmB newId = true) (gC : X.mg x = some (.ref C))
    (kC : PySem.W.keepIn X.K (.ref C) = true) (r : Raises X (.ref C)) (hg : Gl X x) (hdb : (x == ("__debug__" : Str)) = false := by decide) :
    PMk X (.Call (.Name x p) [] [] pos) (fun _ H Q => Q (.ref C) none H) := by
  intro pins s σ H Q I h
  refine wpAny_Call_Name_kw (ld_glob I hg gC ?_ hdb)
  refine PySem.W.callWith_K0 I.kIn kC ?_
  obtain ⟨bm, N, nm, qn, bs, hdct, sn, sub, ab, col, dd, k0, k1, k2, k3, k5, mN, hC, hN, hni, T⟩ := exc_obj I.kIn q
  refine wpAny_call_exc_subT F T hC hN hni (fun h' e hm => ?_) (by decide)
  exact mk_of I hm r h (I.hok.gone hm.new)
/-- the class NotValid at V -/
structure NvOk (K : PySem.W.Frag) (mg : Str → Option Value) (V : Addr) (bmB : List Value) (newId : String) : Prop where
  q : PySem.W.excIn K V bmB newId = true
  g : mg "NotValid" = some (.ref V)
  k : PySem.W.keepIn K (.ref V) = true
  e : PySem.W.subIn K (.ref V) (.type "BaseException") = some true
  t : PySem.W.typeIn K (.ref V) = some (.type "type")
/-- a def that may raise -/
theorem fnX {P : Program} {w : World} {K : PySem.W.Frag} {mg : Str → Option Value} {base : Heap} {x qual : Str} {st : Stmt} {f : Addr} {fd : FuncData} {N ps : List Str} {k : Nat} {sp : Sp} (F : C8.Fun K x qual st f fd) (S : FnScope N ps (C8.fnScope st)) (len : ∀ vs H Q E, sp vs H Q E → vs.length = ps.length)
    (hbody : ∀ (cdv : Value) (A : Around) (outer : List Env) (s : Shared) (H : Hp) (vs : List V) (Q : VK) (E : XK), Room k (A.deeper (envOfC qual (C8.fnScope st) s.heap.objs.size f cdv)) → sp vs H Q E →
      ∃ t, PSs (cxOf (L2.CX P w) P w K mg base N qual (C8.fnScope st) f cdv A outer s H E) (C8.fnBody st) t ∧ t { nx := fun _ H' => Q .non H', rt := Q } (L2.start N vs) H) : FnOk P w K mg base (L2.CX P w) (k + 1) f fd ps sp := by
  obtain ⟨oc, od, dV, kV, doc, pm, an, cdv, ct, osl, rfl, lk, hcd⟩ := F.ex
  exact fn_of lk hcd S len fun A outer s H vs Q E hr hsp => hbody cdv A outer s H vs Q E hr hsp
def spInitR (C N : Addr) : Sp := fun vs H _ E => ∃ p dx xk xt dk dt, vs = [.ref p, xk, xt] ∧ H p = some (.ins C dx []) ∧ Is C H xk dk ∧ Is C H xt dt ∧ KindOk dk ∧ Fit dt ∧ (isTermD dk dt = false ∨ ∃ k ds, dk = .str k ∧ dt = .tup ds ∧ isTermK k ds = true ∧ mostR k < rank (.atom k ds)) ∧ ∀ H', Same H H' → E (.ref N) none H'
section
variable {P : Program} {w : World} {K : PySem.W.Frag} {mg : Str → Option Value} {base : Heap} {f : Addr} {fd : FuncData} {C N : Addr} {bmB : List Value} {newId : String}
theorem ok_initX {fI : Addr} {fdI : FuncData} {initId : String} (FB : ExcBaseFacts "ValueError" newId initId bmB) (nv : NvOk K mg N bmB newId) (F : C8.Fun K "__init__" "Atom.__init__" s_Atom___init__ fI fdI) (T : Txt K mg w C)
    (c__is_term : C8.Cal P w K mg base 4 "_is_term" (spTerm C) []) (c__rank_of_atom : C8.Cal P w K mg base 3 "_rank_of_atom" (spRk C) []) (c__most_rank : C8.Cal P w K mg base 1 "_most_rank" spMost []) : FnOk P w K mg base (L2.CX P w) 5 fI fdI ["self", "kind", "term"] (spInitR C N) := by
  refine fnX F sc_Atom___init__ (fun vs H Q E h => ?_) (fun cdv A outer s H vs Q E hr h => ?_)
  · obtain ⟨p, dx, xk, xt, dk, dt, rfl, _⟩ := h; rfl
  obtain ⟨p, dx, xk, xt, dk, dt, rfl, hp, hk, ht, hok, hz, hbad, q⟩ := h
  refine ⟨_, (pss_cons (ps_if (pt_not (pt_val (C8.pe_c c__is_term hr (by first | decide | omega) rfl (pa_cons (pv 1) (pa_cons (pv 2) pa_nil))))) (pss_one (ps_raise rfl (takes_of rfl rfl rfl rfl) (pmk_own0 FB nv.q nv.g nv.k (raises_own nv.e nv.t) rfl))) pss_nil)
      (pss_cons (ps_set (i := 3) sc_Atom___init__.nd rfl (Or.inl rfl) (C8.pe_c c__rank_of_atom hr (by first | decide | omega) rfl (pa_cons (pv 1) (pa_cons (pv 2) pa_nil))))
      (pss_cons (ps_if (pt_cmpR op_gt (pv 3) (C8.pe_c c__most_rank hr (by first | decide | omega) rfl (pa_cons (pv 1) pa_nil)) (nomark _)) (pss_one (ps_raise rfl (takes_of rfl rfl rfl rfl) (pmk_own0 FB nv.q nv.g nv.k (raises_own nv.e nv.t) rfl))) pss_nil)
      (pss_cons (ps_fld (pv 0) (pv 1) rfl)
      (pss_cons (ps_fld (pv 0) (pv 2) rfl)
      (pss_cons (ps_fld (pv 0) (pv 3) rfl)
      (pss_one (ps_fld (pv 0) pe_non rfl)))))))), ?_⟩
  refine ⟨_, rfl, _, rfl, _, _, dk, dt, rfl, hk, ht, hok, hz, fun H1 s1 => ⟨_, rfl, ?_⟩⟩
  rcases hbad with hb | ⟨k, ds, rfl, rfl, hterm, hrk⟩
  · refine bT (by rw [hb]; rfl) ?_
    exact q H1 s1
  · cases hk
    refine bF (by simp only [isTermD, hterm]; rfl) ?_
    have htx := ht.same s1
    obtain ⟨t, rfl⟩ : ∃ t, xt = .ref t := by cases ht; exact ⟨_, rfl⟩
    refine ⟨_, rfl, _, rfl, k, t, ds, rfl, htx, hz, fun H2 s2 => ?_⟩
    refine ⟨_, rfl, _, rfl, k, rfl, _, _, rfl, rfl, _, rfl, ?_⟩
    refine ifT (by omega) ?_
    exact q H2 (s1.trans s2)
end
end Hc

namespace Hc
open PySem PySem.Spec PyProof.Rows L2 Hr
/-! ### slices and sums of tuples, whatever they are -/
theorem cut_to (xs : List V) (k : Nat) : cutV xs none (some (k : Int)) = xs.take k := by
  unfold cutV
  rw [HT.sIx_none, HT.sIx_nat, List.drop_zero, Nat.sub_zero]
  by_cases h : k ≤ xs.length
  · rw [Nat.min_eq_left h]
  · rw [Nat.min_eq_right (by omega), List.take_of_length_le (Nat.le_refl _), List.take_of_length_le (by omega)]
theorem cut_from (xs : List V) (k : Nat) : cutV xs (some (k : Int)) none = xs.drop k := by
  unfold cutV
  rw [HT.sIx_none, HT.sIx_nat]
  by_cases h : k ≤ xs.length
  · rw [Nat.min_eq_left h]
    exact List.take_of_length_le (by rw [List.length_drop]; exact Nat.le_refl _)
  · rw [Nat.min_eq_right (by omega), List.drop_of_length_le (Nat.le_refl _), List.drop_of_length_le (by omega), List.take_nil]
theorem sl_go {K : PySem.W.Frag} {H : Hp} {a : Addr} {xs : List V} {lo hi : Option Int} {Q : VK} (h : H a = some (.tup xs)) (q : ∀ H' p, Same H H' → H' p = some (.tup (cutV xs lo hi)) → Q (.ref p) H') : rSlA K (.ref a) lo hi H Q := by
  refine ⟨a, xs, rfl, SqT.of h, fun z => q H a (Same.refl H) ?_, fun _ p hp => q _ p (same_new hp) upd_same⟩
  have e : cutV xs lo hi = xs := by
    unfold cutV
    rw [z.1, z.2, List.drop_zero, Nat.sub_zero]
    exact List.take_of_length_le (Nat.le_refl _)
  rw [e]; exact h
theorem sl_goL {K : PySem.W.Frag} {σ : L2.St} {H : Hp} {a : Addr} {xs : List V} {lo : Int} {Q : VK} (h : H a = some (.tup xs)) (q : ∀ H' p, Same H H' → H' p = some (.tup (cutV xs (some lo) none)) → Q (.ref p) H') : tNoPart σ H (fun u H3 => rSlA K (.ref a) (some lo) u H3 Q) := sl_go h q
theorem cat_go {K : PySem.W.Frag} {H : Hp} {a b : Addr} {xs ys : List V} {Q : VK} (ha : H a = some (.tup xs)) (hb : H b = some (.tup ys)) (hl : xs.length + ys.length ≤ sizeLine) (q : ∀ H' p, Same H H' → H' p = some (.tup (xs ++ ys)) → Q (.ref p) H') : rCatA K (.ref a) (.ref b) H Q := by
  refine ⟨a, b, xs, ys, rfl, rfl, SqT.of ha, SqT.of hb, hl, fun z => q H b (Same.refl H) (by rw [z]; exact hb), fun _ z => q H a (Same.refl H) (by rw [z, List.append_nil]; exact ha), fun _ _ p hp => q _ p (same_new hp) upd_same⟩
theorem isA_take {C : Addr} {H : Hp} : ∀ {xs : List V} {ds : List D} (n : Nat), IsA C H xs ds → IsA C H (xs.take n) (ds.take n)
  | _, _, 0, _ => by simp only [List.take_zero]; exact .nil
  | _, _, n + 1, .nil => by simp only [List.take_nil]; exact .nil
  | _, _, n + 1, .cons h t => by simp only [List.take_succ_cons]; exact .cons h (isA_take n t)
theorem isA_drop {C : Addr} {H : Hp} : ∀ {xs : List V} {ds : List D} (n : Nat), IsA C H xs ds → IsA C H (xs.drop n) (ds.drop n)
  | _, _, 0, h => by simp only [List.drop_zero]; exact h
  | _, _, n + 1, .nil => by simp only [List.drop_nil]; exact .nil
  | _, _, n + 1, .cons h t => by simp only [List.drop_succ_cons]; exact isA_drop n t
theorem szLtk : ∀ (ds : List D) (n : Nat), szL (ds.take n) ≤ szL ds
  | _, 0 => by simp only [List.take_zero, szL]; omega
  | [], n + 1 => by simp only [List.take_nil, szL]; omega
  | d :: ds, n + 1 => by simp only [List.take_succ_cons, szL]; have := szLtk ds n; omega
theorem szLdr : ∀ (ds : List D) (n : Nat), szL (ds.drop n) ≤ szL ds
  | _, 0 => by simp only [List.drop_zero]; omega
  | [], n + 1 => by simp only [List.drop_nil, szL]; omega
  | d :: ds, n + 1 => by simp only [List.drop_succ_cons, szL]; have := szLdr ds n; omega
theorem txlL_app : ∀ (a b : List D), txlL (a ++ b) ↔ txlL a ∧ txlL b
  | [], b => by simp [txlL]
  | x :: a, b => by rw [List.cons_append]; simp only [txlL]; rw [txlL_app a b, and_assoc]
theorem txlLtk : ∀ (ds : List D) (n : Nat), txlL ds → txlL (ds.take n)
  | _, 0, _ => by simp only [List.take_zero, txlL]
  | [], n + 1, _ => by simp only [List.take_nil, txlL]
  | d :: ds, n + 1, h => by simp only [txlL] at h; simp only [List.take_succ_cons, txlL]; exact ⟨h.1, txlLtk ds n h.2⟩
theorem txlLdr : ∀ (ds : List D) (n : Nat), txlL ds → txlL (ds.drop n)
  | _, 0, h => by simp only [List.drop_zero]; exact h
  | [], n + 1, _ => by simp only [List.drop_nil, txlL]
  | d :: ds, n + 1, h => by simp only [txlL] at h; simp only [List.drop_succ_cons]; exact txlLdr ds n h.2
/-! ### terms that are none -/
theorem bad_len {k : Str} {fs : List Str} {ds : List D} (h : formsOf k = some fs) (hl : ds.length ≠ fs.length) : isTermK k ds = false := by
  unfold isTermK; rw [h]; simp [hl]
theorem bad_at {k : Str} {fs : List Str} {ds : List D} (h : formsOf k = some fs) {i : Nat} {d : D} {z : Str} (h1 : ds[i]? = some d) (h2 : fs[i]? = some z) (hb : partOk d z = false) : isTermK k ds = false := by
  unfold isTermK; rw [h]
  have h3 : (ds.zip fs)[i]? = some (d, z) := List.getElem?_zip_eq_some.mpr ⟨h1, h2⟩
  have h4 : ((ds.zip fs).all fun p => partOk p.1 p.2) = false := by
    rw [List.all_eq_false]
    exact ⟨(d, z), List.mem_of_getElem? h3, by simp [hb]⟩
  simp only [h4, Bool.and_false]
theorem set_at {ds : List D} {i : Nat} {e : D} {r : List D} (h : i ≤ ds.length) : (ds.take i ++ [e] ++ r)[i]? = some e := by
  have h1 : (ds.take i).length = i := by rw [List.length_take]; omega
  rw [List.append_assoc, List.getElem?_append_right (by omega), h1, Nat.sub_self]; rfl
/-- a pair of a kind and a term that is none -/
def BadP (dk dt : D) : Prop := KindOk dk ∧ Fit dt ∧ isTermD dk dt = false
def RowB (C : Addr) (H : Hp) (x : V) : Prop := ∃ a xk xt dk dt, x = .ref a ∧ H a = some (.tup [xk, xt]) ∧ Is C H xk dk ∧ Is C H xt dt ∧ BadP dk dt
theorem RowB.same {C : Addr} {H H' : Hp} {x : V} (s : Same H H') (h : RowB C H x) : RowB C H' x := by
  obtain ⟨a, xk, xt, dk, dt, rfl, h1, h2, h3, h4⟩ := h
  exact ⟨a, xk, xt, dk, dt, rfl, s _ _ h1, h2.same s, h3.same s, h4⟩
/-! ### a heap without some cells -/
def nx (ps : List Addr) (H : Hp) : Hp := fun b => if b ∈ ps then none else H b
theorem nx_le {ps : List Addr} {H : Hp} : Same (nx ps H) H := fun b o e => by
  unfold nx at e
  by_cases h : b ∈ ps
  · rw [if_pos h] at e; cases e
  · rwa [if_neg h] at e
theorem nx_off {ps : List Addr} {H : Hp} {b : Addr} (h : b ∉ ps) : nx ps H b = H b := if_neg h
theorem nx_in {ps : List Addr} {H : Hp} {b : Addr} {o : HO} (e : nx ps H b = some o) : b ∉ ps := fun h => by
  unfold nx at e; rw [if_pos h] at e; cases e
theorem nx_bu {d c : Addr} {ps : List Addr} {H H' : Hp} (b : Bu2 d c H H') (hd : d ∈ ps) (hc : c ∈ ps) : Same (nx ps H) (nx ps H') := fun x o e => by
  have h := nx_in e
  rw [nx_off h] at e ⊢
  exact b _ _ e (fun z => h (z ▸ hd)) (fun z => h (z ▸ hc))
theorem nx_same {ps : List Addr} {H H' : Hp} (s : Same H H') : Same (nx ps H) (nx ps H') := fun x o e => by
  have h := nx_in e
  rw [nx_off h] at e ⊢
  exact s _ _ e
theorem nx_upd {ps : List Addr} {H : Hp} {l : Addr} {o : HO} (h : l ∈ ps) : Same (nx ps H) (nx ps (upd H l o)) := fun x u e => by
  have n := nx_in e
  rw [nx_off n] at e ⊢
  rw [upd_ne (fun z => n (by rw [z]; exact h))]; exact e
/-- a fresh cell is left out, too -/
theorem nx_add {ps : List Addr} {H : Hp} {l : Addr} {o : HO} (h : H l = none) : Same (nx ps H) (nx (ps ++ [l]) (upd H l o)) := fun x u e => by
  have n := nx_in e
  rw [nx_off n] at e
  have nl : x ≠ l := fun z => by rw [z, h] at e; cases e
  rw [nx_off (by simp [n, nl]), upd_ne nl]; exact e
end Hc

set_option maxHeartbeats 8000000
namespace Hr
open PySem PySem.Spec PyProof.Rows PySem.SeqAt
open AutoSeq1 (wpAny_loadPart')
open MeetsSeq MeetsSeq2 MeetsSeq3 SeqRoads2
section
variable {prog : Program} {w : World} {A : Around} {R : Result → Shared → Prop}
theorem tup_neB {l b : Addr} {items items2 : Array Value} {n n2 : Nat} {dd dd2 : Option Addr} {sl sl2 : Array (Option Value)} {bs : Nat → Bool} {J : Shared → Prop}
    (turn : ∀ i (h1 : i < items.size) (h2 : i < items2.size) s, J s → wpAny (model prog w) A.in1 (eqBool items[i] items2[i]) (fun r s' => r = bs i ∧ J s') (fun e s' => R (.error e) s') s)
    (fin : ∀ s, J s → R (.ok (.ret (.bool (!allP bs items.size items2.size)))) s) {s : Shared} (hl1 : s.heap.get? l = some { cls := .type "tuple", dict := dd, data := .seq items n, slots := sl }) (hb1 : s.heap.get? b = some { cls := .type "tuple", dict := dd2, data := .seq items2 n2, slots := sl2 }) (h : J s) :
    wpAny (model prog w) A.in1 (Builtin.«tuple.__ne__» ⟨[.ref l, .ref b], []⟩) (GQ.FinOf prog w A R) (fun e s' => R (.error e) s') s := by
  have f2 := AutoSeq1.sub_tuple_tuple
  have hZ : (items.toList.zip items2.toList).length = min items.size items2.size := by simp
  have h0 := h
  obtain ⟨hp, g, d, tk, os⟩ := s
  wp_walk using wpAny_loadPart' hl1, wpAny_loadPart' hb1, wpAny_forIn_list _ (fun rest b s' => b.1 = none ∧ ∃ i, rest = (items.toList.zip items2.toList).drop i ∧ i ≤ min items.size items2.size ∧ (∀ j, j < i → bs j = true) ∧ J s') _
  case turn =>
    rintro ⟨y, x⟩ rest b s' ⟨hb', i, hz, hi, hbs, hI⟩
    have hlt : i < (items.toList.zip items2.toList).length := by
      rcases Nat.lt_or_ge i (items.toList.zip items2.toList).length with h' | h'
      · exact h'
      · rw [List.drop_of_length_le h'] at hz; cases hz
    have hm : i < min items.size items2.size := hZ ▸ hlt
    have h1 : i < items.size := Nat.lt_of_lt_of_le hm (Nat.min_le_left _ _)
    have h2 : i < items2.size := Nat.lt_of_lt_of_le hm (Nat.min_le_right _ _)
    rw [List.drop_eq_getElem_cons hlt] at hz
    injection hz with hyx hrest
    have hy : y = items[i] := by have := congrArg Prod.fst hyx; simpa using this
    have hx : x = items2[i] := by have := congrArg Prod.snd hyx; simpa using this
    subst hy hx
    refine wpAny_bind (wpAny_mono (turn i h1 h2 s' hI) (fun r s2 q2 => ?_) fun _ _ x => x)
    obtain ⟨hr, q2⟩ := q2
    subst hr
    cases hbi : bs i with
    | true =>
      wp_walk
      exact ⟨rfl, i + 1, hrest, hm, fun j hj => by
        rcases Nat.lt_succ_iff_lt_or_eq.mp hj with h | rfl
        · exact hbs j h
        · exact hbi, q2⟩
    | false =>
      have hR := fin s2 q2
      rw [allP_no hm hbi] at hR
      wp_walk
      exact hR
  case fin =>
    rintro ⟨b1, b2⟩ s' ⟨hb', i, hz, hi, hbs, hI⟩
    simp only at hb'
    subst hb'
    have hge : min items.size items2.size ≤ i := by
      rcases Nat.lt_or_ge i (items.toList.zip items2.toList).length with h' | h'
      · rw [List.drop_eq_getElem_cons h'] at hz; cases hz
      · exact hZ ▸ h'
    have hR := fin s' hI
    rw [allP_yes fun j hj => hbs j (by omega)] at hR
    wp_walk
    simpa [Builtin.Tuple.tupleCompareSizes, bne] using hR
  case h =>
    exact ⟨rfl, 0, rfl, Nat.zero_le _, fun j hj => absurd hj (Nat.not_lt_zero _), h0⟩
end
end Hr
namespace Hc
open PySem PySem.Spec PyProof.Rows L2 Hr PySem.SeqAt
section
variable {X : Cx} {n N : Nat} {C : Addr}
def rNeW (C : Addr) (N : Nat) : R2 := fun x y H Q => ∃ d e, W2 C H x y d e ∧ dep d ≤ N ∧ ∀ H', Same H H' → Q (.bl (!eqD d e)) H'

theorem op_eqW (O : OwnS X.prog X.w X.K X.mg X.base n C (spEqG C)) (o : Oth X.K C) (hr : Room (N + n + 1) X.A) : OpR X (compareOp .Eq) (rEqW C N) := by
  intro pins s σ H x y v u Q I rx ry h
  obtain ⟨d, e, w2, hdp, q⟩ := h
  have hx := w2.x
  have hy := w2.y
  have wd := w2.wd
  have we := w2.we
  have zd := w2.zd
  have ze := w2.ze
  have sb0 : Sub X (N + n + 1) X.A := ⟨hr, rfl⟩
  have sb1 : Sub X n X.A.in1 := (sb0.mono (by omega : n + 1 ≤ N + n + 1)).in1
  have sb : Sub X n X.A := sb0.mono (by omega)
  have hu := hr.units0
  have hu1 := sb1.room.units0
  show wpAny (model X.prog X.w) X.A (richCompare .Eq v u) (EP X pins σ Q) X.xe s
  have fin : ∀ (b : Bool), b = (eqD d e) → ∀ s', LoopS X pins σ H s' → EP X pins σ Q (.bool b) s' := fun b hb s' j => by
    obtain ⟨H', I', e'⟩ := j
    rw [hb]
    exact ⟨.bl _, H', I', rfl, q H' e'⟩
  have here : LoopS X pins σ H s := ⟨H, I, Same.refl H⟩
  have own : ∀ {a dx : Addr} {fs : List (Str × V)} {y : V} {v : Value} {d e : D}, H a = some (.ins C dx fs) → Is C H (.ref a) d → Is C H y e → RelV y v → isAt d = true → wrd d = true → wrd e = true → sz d ≤ 1000000 → sz e ≤ 1000000 → Own X.prog X.w X.A X.xe a v (eqD d e) (LoopS X pins σ H) s :=
    fun u1 h1 h2 rv d1 wd we zd ze => own_run O sb I u1 rv ⟨_, _, _, _, rfl, h1, h2, d1, wd, we, zd, ze, fun H' s' => ⟨rfl, s'⟩⟩
  have inst : ∀ {a dx : Addr} {fs : List (Str × V)}, H a = some (.ins C dx fs) → ∃ od, PySem.W.InstAt s.heap a (PySem.W.instObj C dx) C (some od) := fun u1 => by
    obtain ⟨mA, J, _⟩ := ins_get I.hok u1
    obtain ⟨od, J, _⟩ := J.look
    exact ⟨od, J⟩
  have tups : ∀ {a : Addr} {xs : List V}, H a = some (.tup xs) → ∃ its : Array Value, s.heap.IsTuple a its := fun h => by
    obtain ⟨its, r, e, z⟩ := I.tuple (SqT.of h)
    exact ⟨_, e⟩
  have comm : isAt d = false → isAt e = true → eqD e d = eqD d e := fun h1 h2 => by
    cases d <;> cases e <;> first | rfl | (simp [isAt] at h1; done) | (simp [isAt] at h2; done)
  have left : ∀ {a dx : Addr} {fs : List (Str × V)} {T : String}, H a = some (.ins C dx fs) → x = .ref a → s.TypeIs u T → (T = "NoneType" ∨ T = "int" ∨ T = "str" ∨ T = "tuple") → isAt d = true → wpAny (model X.prog X.w) X.A (richCompare .Eq v u) (EP X pins σ Q) X.xe s := fun {a dx fs T} u1 hxa ht1 hT d1 => by
    subst hxa
    cases rx
    obtain ⟨od, J⟩ := inst u1
    exact rc_left (op := .Eq) hu I.kIn J ht1 hT (try_eq (own u1 hx hy ry d1 wd we zd ze)) (fun s' j => fin _ rfl s' j)
  have right : ∀ {c dy : Addr} {gs : List (Str × V)} {T id : String}, H c = some (.ins C dy gs) → y = .ref c → s.TypeIs v T → PySem.W.subIn X.K (.ref C) (.type T) = some false → oneThing? .Eq v (.ref c) = none → Slot T (cmpInfo .Eq).2.1 id →
      wpAny (model X.prog X.w) X.A (call (.builtin id) [v, .ref c]) (fun z s' => z = .notImplemented ∧ s' = s) X.xe s → isAt e = true → isAt d = false → wpAny (model X.prog X.w) X.A (richCompare .Eq v u) (EP X pins σ Q) X.xe s := fun {c dy gs T id} u1 hyc ht1 hT hone sl dec e1 d1 => by
    subst hyc
    cases ry
    obtain ⟨od, J⟩ := inst u1
    exact rc_right (op := .Eq) hu I.kIn J ht1 hT hone sl dec (try_eq (own u1 hy hx rx e1 we wd ze zd)) (fun s' j => fin _ (by rw [comm d1 e1]) s' j)
  have flat : scal x y = true → (decide (x = y)) = ((eqD d e)) → wpAny (model X.prog X.w) X.A (richCompare .Eq v u) (EP X pins σ Q) X.xe s := fun hs he => op_eq pins s σ H x y v u Q I rx ry ⟨hs, by rw [he]; exact q H (Same.refl H)⟩
  cases hx with
  | bl b => cases wd
  | lst _ _ => cases wd
  | dct _ => cases wd
  | @atom a1 dx1 t1 k1 xs1 ds1 u1 v1 i1 =>
    cases hy with
    | bl b => cases we
    | lst _ _ => cases we
    | dct _ => cases we
    | @atom a2 dx2 t2 k2 xs2 ds2 u2 v2 i2 =>
      cases rx
      cases ry
      obtain ⟨od, J⟩ := inst u1
      obtain ⟨od2, J2⟩ := inst u2
      have ow := try_eq (own u1 (.atom u1 v1 i1) (.atom u2 v2 i2) (rfl : RelV (.ref a2) (.ref a2)) rfl wd we zd ze)
      unfold richCompare
      simp only [oneThing_ref]
      refine wpAny_holding (wpAny_bind (wpAny_cRoomFor hu ?_))
      refine wpAny_bind (J.type.here (wpAny_bind (J2.type.here ?_)))
      split
      · rename_i z
        exact absurd z (by simp)
      · refine wpAny_bind (wpAny_pure ?_)
        simp only [Bool.false_eq_true, if_false]
        refine wpAny_bind (wpAny_mono ow (fun r s' z => ?_) fun _ _ z => z)
        obtain ⟨rfl, j⟩ := z
        exact wpAny_pure (fin _ rfl s' j)
    | non => cases ry; exact left u1 rfl rfl (.inl rfl) rfl
    | int j => obtain ⟨t, rfl⟩ := ry; exact left u1 rfl rfl (.inr (.inl rfl)) rfl
    | str z => obtain ⟨t, rfl⟩ := ry; exact left u1 rfl rfl (.inr (.inr (.inl rfl))) rfl
    | tup h2 i2 =>
      cases ry
      obtain ⟨its, oo, ho, hc, _⟩ := tups h2
      exact left u1 rfl ⟨oo, ho, hc⟩ (.inr (.inr (.inr rfl))) rfl
  | non =>
    cases rx
    cases hy with
    | bl b => cases we
    | lst _ _ => cases we
    | dct _ => cases we
    | non => exact flat rfl (by simp [eqD])
    | int j => exact flat rfl (by simp [eqD])
    | str z => exact flat rfl (by simp [eqD])
    | tup h2 i2 =>
      cases ry
      obtain ⟨its, hi⟩ := tups h2
      exact RcAt.none_tuple hi hu _ _ _ _ (fin _ rfl s here)
    | @atom c dy _ _ _ _ u2 _ _ => exact right u2 rfl rfl o.sN rfl F.slot_NoneType_eq (call_gives F.slot_NoneType_eq rfl F.entry_NoneType_eq (F.args_NoneType_eq_2 _ _) (NoneType___eq___none_ref_0 c) ⟨rfl, rfl⟩) rfl rfl
  | int i =>
    obtain ⟨t, rfl⟩ := rx
    cases hy with
    | bl b => cases we
    | lst _ _ => cases we
    | dct _ => cases we
    | non => exact flat rfl (by simp [eqD])
    | int j => exact flat rfl (by simp [eqD])
    | str z => exact flat rfl (by simp [eqD])
    | tup h2 i2 =>
      cases ry
      obtain ⟨its, hi⟩ := tups h2
      exact RcAt.int_tuple i t hi hu _ _ _ _ (fin _ rfl s here)
    | @atom c dy _ _ _ _ u2 _ _ =>
      obtain ⟨od, J⟩ := inst u2
      exact right u2 rfl rfl o.sI rfl F.slot_int_eq (call_meets F.slot_int_eq rfl F.entry_int_eq (F.args_int_eq_2 _ _) (int_eq_inst i t c C dy) ⟨J.at_, rfl, rfl⟩) rfl rfl
  | str z0 =>
    obtain ⟨t, rfl⟩ := rx
    cases hy with
    | bl b => cases we
    | lst _ _ => cases we
    | dct _ => cases we
    | non => exact flat rfl (by simp [eqD])
    | int j => exact flat rfl (by simp [eqD])
    | str z => exact flat rfl (by simp [eqD])
    | tup h2 i2 =>
      cases ry
      obtain ⟨its, hi⟩ := tups h2
      exact RcAt.str_tuple z0 t hi hu _ _ _ _ (fin _ rfl s here)
    | @atom c dy _ _ _ _ u2 _ _ =>
      obtain ⟨od, J⟩ := inst u2
      exact right u2 rfl rfl o.sS rfl F.slot_str_eq (call_meets F.slot_str_eq rfl F.entry_str_eq (F.args_str_eq_2 _ _) (str_eq_inst z0 t c C dy) ⟨J.at_, rfl, rfl⟩) rfl rfl
  | @tup a1 xs1 ds1 h1 i1 =>
    cases rx
    obtain ⟨its, hi⟩ := tups h1
    cases hy with
    | bl b => cases we
    | lst _ _ => cases we
    | dct _ => cases we
    | non => cases ry; exact RcAt.tuple_none hi hu _ _ _ _ (fin _ rfl s here)
    | int j => obtain ⟨t, rfl⟩ := ry; exact RcAt.tuple_int j t hi hu _ _ _ _ (fin _ rfl s here)
    | str z => obtain ⟨t, rfl⟩ := ry; exact RcAt.tuple_str z t hi hu _ _ _ _ (fin _ rfl s here)
    | @atom c dy _ _ _ _ u2 _ _ =>
      obtain ⟨od, J⟩ := inst u2
      obtain ⟨⟨cls, dd, data, sl⟩, ho, hc, k, hd⟩ := id hi
      simp only at hc hd
      subst hc hd
      exact right u2 rfl ⟨_, ho, rfl⟩ o.sT (oneThing_ref _ _ _) F.slot_tuple_eq (GQ.call_here F.slot_tuple_eq ⟨_, ho, rfl⟩ F.entry_tuple_eq (F.args_tuple_eq_2 _ _) (tup_eq_inst (PySem.W.looks_subIn I.kIn o.sT) J.at_ ho ⟨rfl, rfl⟩)) rfl rfl
    | @tup a2 ys1 es1 h2 i2 =>
      cases ry
      obtain ⟨its, r, eT, z⟩ := I.tuple (SqT.of h1)
      obtain ⟨its2, r2, eT2, z2⟩ := I.tuple (SqT.of h2)
      simp only [wrd] at wd we
      simp only [sz] at zd ze
      have l1 := r.length
      have l2 := r2.length
      have l3 := i1.len
      have l4 := i2.len
      obtain ⟨⟨cls, dd, data, sl⟩, ho, hc, n1, hd1⟩ := id eT
      obtain ⟨⟨cls2, dd2, data2, sl2⟩, ho2, hc2, n2, hd2⟩ := id eT2
      simp only at hc hd1 hc2 hd2
      subst hc hd1 hc2 hd2
      have hdep : depL ds1 ≤ N := by simp only [dep] at hdp; omega
      have pair : ∀ i (k1 : i < its.toArray.size) (k2 : i < its2.toArray.size) s1, LoopS X pins σ H s1 → wpAny (model X.prog X.w) X.A.in1 (eqBool its.toArray[i] its2.toArray[i]) (fun r s' => r = (match ds1[i]?, es1[i]? with | some d, some e => eqD d e | _, _ => false) ∧ LoopS X pins σ H s') X.xe s1 := fun i k1 k2 s1 j => by
        obtain ⟨H1, I1, e1⟩ := j
        have k1' : i < its.length := by simpa using k1
        have k2' : i < its2.length := by simpa using k2
        obtain ⟨p, hp, rp⟩ := r.get (List.getElem?_eq_getElem (show i < xs1.length by omega))
        obtain ⟨q, hq, rq⟩ := r2.get (List.getElem?_eq_getElem (show i < ys1.length by omega))
        rw [List.getElem?_eq_getElem k1'] at hp
        rw [List.getElem?_eq_getElem k2'] at hq
        have ep : its.toArray[i] = p := by simpa using Option.some.inj hp
        have eq : its2.toArray[i] = q := by simpa using Option.some.inj hq
        obtain ⟨d', hd', ix⟩ := i1.at (List.getElem?_eq_getElem (show i < xs1.length by omega))
        obtain ⟨e', he', iy⟩ := i2.at (List.getElem?_eq_getElem (show i < ys1.length by omega))
        have md := List.mem_of_getElem? hd'
        have me := List.mem_of_getElem? he'
        have s1' := szL_mem md
        have s2' := szL_mem me
        rw [ep, eq, hd', he']
        refine wpAny_mono (eqW O o N (A := X.A.in1) sb0.in1 (Nat.le_trans (depL_mem md) hdep) I1 rp rq ⟨ix.same e1, iy.same e1, wrdL_mem wd md, wrdL_mem we me, by omega, by omega⟩) (fun r s2 q2 => ?_) fun _ _ z => z
        obtain ⟨hr, H2, I2, e2⟩ := q2
        exact ⟨hr, H2, I2, e1.trans e2⟩
      have hall : allP (fun i => match ds1[i]?, es1[i]? with | some d, some e => eqD d e | _, _ => false) its.toArray.size its2.toArray.size = eqL ds1 es1 := by
        rw [List.size_toArray, List.size_toArray, ← l1, ← l2, l3, l4]
        exact eqL_all _ fun i d' e' h1 h2 => by simp only [h1, h2]
      refine wpAny_richCompare_same_room (op := .Eq) ⟨_, ho, rfl⟩ ⟨_, ho2, rfl⟩ F.slot_tuple_eq (GQ.call_here F.slot_tuple_eq ⟨_, ho, rfl⟩ F.entry_tuple_eq (F.args_tuple_eq_2 _ _) ?_) hu
      exact tup_eqB (R := wants (fun z s' => z ≠ .notImplemented ∧ EP X pins σ Q z s') X.xe) pair (fun s' j => ⟨(fun z => nomatch z), fin _ (by rw [hall]; rfl) s' j⟩) ho ho2 here

theorem op_neW (O : OwnS X.prog X.w X.K X.mg X.base n C (spEqG C)) (o : Oth X.K C) (hr : Room (N + n + 1) X.A) : OpR X (compareOp .NotEq) (rNeW C N) := by
  intro pins s σ H x y v u Q I rx ry h
  obtain ⟨d, e, w2, hdp, q⟩ := h
  have hx := w2.x
  have hy := w2.y
  have wd := w2.wd
  have we := w2.we
  have zd := w2.zd
  have ze := w2.ze
  have sb0 : Sub X (N + n + 1) X.A := ⟨hr, rfl⟩
  have sb1 : Sub X n X.A.in1 := (sb0.mono (by omega : n + 1 ≤ N + n + 1)).in1
  have sb : Sub X n X.A := sb0.mono (by omega)
  have hu := hr.units0
  have hu1 := sb1.room.units0
  show wpAny (model X.prog X.w) X.A (richCompare .NotEq v u) (EP X pins σ Q) X.xe s
  have fin : ∀ (b : Bool), b = !(eqD d e) → ∀ s', LoopS X pins σ H s' → EP X pins σ Q (.bool b) s' := fun b hb s' j => by
    obtain ⟨H', I', e'⟩ := j
    rw [hb]
    exact ⟨.bl _, H', I', rfl, q H' e'⟩
  have here : LoopS X pins σ H s := ⟨H, I, Same.refl H⟩
  have own : ∀ {a dx : Addr} {fs : List (Str × V)} {y : V} {v : Value} {d e : D}, H a = some (.ins C dx fs) → Is C H (.ref a) d → Is C H y e → RelV y v → isAt d = true → wrd d = true → wrd e = true → sz d ≤ 1000000 → sz e ≤ 1000000 → Own X.prog X.w X.A.in1 X.xe a v (eqD d e) (LoopS X pins σ H) s :=
    fun u1 h1 h2 rv d1 wd we zd ze => own_run O sb1 I u1 rv ⟨_, _, _, _, rfl, h1, h2, d1, wd, we, zd, ze, fun H' s' => ⟨rfl, s'⟩⟩
  have inst : ∀ {a dx : Addr} {fs : List (Str × V)}, H a = some (.ins C dx fs) → ∃ od, PySem.W.InstAt s.heap a (PySem.W.instObj C dx) C (some od) := fun u1 => by
    obtain ⟨mA, J, _⟩ := ins_get I.hok u1
    obtain ⟨od, J, _⟩ := J.look
    exact ⟨od, J⟩
  have tups : ∀ {a : Addr} {xs : List V}, H a = some (.tup xs) → ∃ its : Array Value, s.heap.IsTuple a its := fun h => by
    obtain ⟨its, r, e, z⟩ := I.tuple (SqT.of h)
    exact ⟨_, e⟩
  have comm : isAt d = false → isAt e = true → eqD e d = eqD d e := fun h1 h2 => by
    cases d <;> cases e <;> first | rfl | (simp [isAt] at h1; done) | (simp [isAt] at h2; done)
  have left : ∀ {a dx : Addr} {fs : List (Str × V)} {T : String}, H a = some (.ins C dx fs) → x = .ref a → s.TypeIs u T → (T = "NoneType" ∨ T = "int" ∨ T = "str" ∨ T = "tuple") → isAt d = true → wpAny (model X.prog X.w) X.A (richCompare .NotEq v u) (EP X pins σ Q) X.xe s := fun {a dx fs T} u1 hxa ht1 hT d1 => by
    subst hxa
    cases rx
    obtain ⟨od, J⟩ := inst u1
    exact rc_left (op := .NotEq) hu I.kIn J ht1 hT (try_ne hu hu1 I.kIn J o (own u1 hx hy ry d1 wd we zd ze)) (fun s' j => fin _ rfl s' j)
  have right : ∀ {c dy : Addr} {gs : List (Str × V)} {T id : String}, H c = some (.ins C dy gs) → y = .ref c → s.TypeIs v T → PySem.W.subIn X.K (.ref C) (.type T) = some false → oneThing? .NotEq v (.ref c) = none → Slot T (cmpInfo .NotEq).2.1 id →
      wpAny (model X.prog X.w) X.A (call (.builtin id) [v, .ref c]) (fun z s' => z = .notImplemented ∧ s' = s) X.xe s → isAt e = true → isAt d = false → wpAny (model X.prog X.w) X.A (richCompare .NotEq v u) (EP X pins σ Q) X.xe s := fun {c dy gs T id} u1 hyc ht1 hT hone sl dec e1 d1 => by
    subst hyc
    cases ry
    obtain ⟨od, J⟩ := inst u1
    exact rc_right (op := .NotEq) hu I.kIn J ht1 hT hone sl dec (try_ne hu hu1 I.kIn J o (own u1 hy hx rx e1 we wd ze zd)) (fun s' j => fin _ (by rw [comm d1 e1]) s' j)
  have flat : scal x y = true → (!decide (x = y)) = (!(eqD d e)) → wpAny (model X.prog X.w) X.A (richCompare .NotEq v u) (EP X pins σ Q) X.xe s := fun hs he => op_ne pins s σ H x y v u Q I rx ry ⟨hs, by rw [he]; exact q H (Same.refl H)⟩
  cases hx with
  | bl b => cases wd
  | lst _ _ => cases wd
  | dct _ => cases wd
  | @atom a1 dx1 t1 k1 xs1 ds1 u1 v1 i1 =>
    cases hy with
    | bl b => cases we
    | lst _ _ => cases we
    | dct _ => cases we
    | @atom a2 dx2 t2 k2 xs2 ds2 u2 v2 i2 =>
      cases rx
      cases ry
      obtain ⟨od, J⟩ := inst u1
      obtain ⟨od2, J2⟩ := inst u2
      have ow := try_ne hu hu1 I.kIn J o (own u1 (.atom u1 v1 i1) (.atom u2 v2 i2) (rfl : RelV (.ref a2) (.ref a2)) rfl wd we zd ze)
      unfold richCompare
      simp only [oneThing_ref]
      refine wpAny_holding (wpAny_bind (wpAny_cRoomFor hu ?_))
      refine wpAny_bind (J.type.here (wpAny_bind (J2.type.here ?_)))
      split
      · rename_i z
        exact absurd z (by simp)
      · refine wpAny_bind (wpAny_pure ?_)
        simp only [Bool.false_eq_true, if_false]
        refine wpAny_bind (wpAny_mono ow (fun r s' z => ?_) fun _ _ z => z)
        obtain ⟨rfl, j⟩ := z
        exact wpAny_pure (fin _ rfl s' j)
    | non => cases ry; exact left u1 rfl rfl (.inl rfl) rfl
    | int j => obtain ⟨t, rfl⟩ := ry; exact left u1 rfl rfl (.inr (.inl rfl)) rfl
    | str z => obtain ⟨t, rfl⟩ := ry; exact left u1 rfl rfl (.inr (.inr (.inl rfl))) rfl
    | tup h2 i2 =>
      cases ry
      obtain ⟨its, oo, ho, hc, _⟩ := tups h2
      exact left u1 rfl ⟨oo, ho, hc⟩ (.inr (.inr (.inr rfl))) rfl
  | non =>
    cases rx
    cases hy with
    | bl b => cases we
    | lst _ _ => cases we
    | dct _ => cases we
    | non => exact flat rfl (by simp [eqD])
    | int j => exact flat rfl (by simp [eqD])
    | str z => exact flat rfl (by simp [eqD])
    | tup h2 i2 =>
      cases ry
      obtain ⟨its, hi⟩ := tups h2
      exact RcNeAt.none_tuple hi hu _ _ _ _ (fin _ rfl s here)
    | @atom c dy _ _ _ _ u2 _ _ => exact right u2 rfl rfl o.sN rfl F.slot_NoneType_ne (call_gives F.slot_NoneType_ne rfl F.entry_NoneType_ne (F.args_NoneType_ne_2 _ _) (NoneType___ne___none_ref_0 c) ⟨rfl, rfl⟩) rfl rfl
  | int i =>
    obtain ⟨t, rfl⟩ := rx
    cases hy with
    | bl b => cases we
    | lst _ _ => cases we
    | dct _ => cases we
    | non => exact flat rfl (by simp [eqD])
    | int j => exact flat rfl (by simp [eqD])
    | str z => exact flat rfl (by simp [eqD])
    | tup h2 i2 =>
      cases ry
      obtain ⟨its, hi⟩ := tups h2
      exact RcNeAt.int_tuple i t hi hu _ _ _ _ (fin _ rfl s here)
    | @atom c dy _ _ _ _ u2 _ _ =>
      obtain ⟨od, J⟩ := inst u2
      exact right u2 rfl rfl o.sI rfl F.slot_int_ne (call_meets F.slot_int_ne rfl F.entry_int_ne (F.args_int_ne_2 _ _) (int_ne_inst i t c C dy) ⟨J.at_, rfl, rfl⟩) rfl rfl
  | str z0 =>
    obtain ⟨t, rfl⟩ := rx
    cases hy with
    | bl b => cases we
    | lst _ _ => cases we
    | dct _ => cases we
    | non => exact flat rfl (by simp [eqD])
    | int j => exact flat rfl (by simp [eqD])
    | str z => exact flat rfl (by simp [eqD])
    | tup h2 i2 =>
      cases ry
      obtain ⟨its, hi⟩ := tups h2
      exact RcNeAt.str_tuple z0 t hi hu _ _ _ _ (fin _ rfl s here)
    | @atom c dy _ _ _ _ u2 _ _ =>
      obtain ⟨od, J⟩ := inst u2
      exact right u2 rfl rfl o.sS rfl F.slot_str_ne (call_meets F.slot_str_ne rfl F.entry_str_ne (F.args_str_ne_2 _ _) (str_ne_inst z0 t c C dy) ⟨J.at_, rfl, rfl⟩) rfl rfl
  | @tup a1 xs1 ds1 h1 i1 =>
    cases rx
    obtain ⟨its, hi⟩ := tups h1
    cases hy with
    | bl b => cases we
    | lst _ _ => cases we
    | dct _ => cases we
    | non => cases ry; exact RcNeAt.tuple_none hi hu _ _ _ _ (fin _ rfl s here)
    | int j => obtain ⟨t, rfl⟩ := ry; exact RcNeAt.tuple_int j t hi hu _ _ _ _ (fin _ rfl s here)
    | str z => obtain ⟨t, rfl⟩ := ry; exact RcNeAt.tuple_str z t hi hu _ _ _ _ (fin _ rfl s here)
    | @atom c dy _ _ _ _ u2 _ _ =>
      obtain ⟨od, J⟩ := inst u2
      obtain ⟨⟨cls, dd, data, sl⟩, ho, hc, k, hd⟩ := id hi
      simp only at hc hd
      subst hc hd
      exact right u2 rfl ⟨_, ho, rfl⟩ o.sT (oneThing_ref _ _ _) F.slot_tuple_ne (GQ.call_here F.slot_tuple_ne ⟨_, ho, rfl⟩ F.entry_tuple_ne (F.args_tuple_ne_2 _ _) (tup_ne_inst (PySem.W.looks_subIn I.kIn o.sT) J.at_ ho ⟨rfl, rfl⟩)) rfl rfl
    | @tup a2 ys1 es1 h2 i2 =>
      cases ry
      obtain ⟨its, r, eT, z⟩ := I.tuple (SqT.of h1)
      obtain ⟨its2, r2, eT2, z2⟩ := I.tuple (SqT.of h2)
      simp only [wrd] at wd we
      simp only [sz] at zd ze
      have l1 := r.length
      have l2 := r2.length
      have l3 := i1.len
      have l4 := i2.len
      obtain ⟨⟨cls, dd, data, sl⟩, ho, hc, n1, hd1⟩ := id eT
      obtain ⟨⟨cls2, dd2, data2, sl2⟩, ho2, hc2, n2, hd2⟩ := id eT2
      simp only at hc hd1 hc2 hd2
      subst hc hd1 hc2 hd2
      have hdep : depL ds1 ≤ N := by simp only [dep] at hdp; omega
      have pair : ∀ i (k1 : i < its.toArray.size) (k2 : i < its2.toArray.size) s1, LoopS X pins σ H s1 → wpAny (model X.prog X.w) X.A.in1 (eqBool its.toArray[i] its2.toArray[i]) (fun r s' => r = (match ds1[i]?, es1[i]? with | some d, some e => eqD d e | _, _ => false) ∧ LoopS X pins σ H s') X.xe s1 := fun i k1 k2 s1 j => by
        obtain ⟨H1, I1, e1⟩ := j
        have k1' : i < its.length := by simpa using k1
        have k2' : i < its2.length := by simpa using k2
        obtain ⟨p, hp, rp⟩ := r.get (List.getElem?_eq_getElem (show i < xs1.length by omega))
        obtain ⟨q, hq, rq⟩ := r2.get (List.getElem?_eq_getElem (show i < ys1.length by omega))
        rw [List.getElem?_eq_getElem k1'] at hp
        rw [List.getElem?_eq_getElem k2'] at hq
        have ep : its.toArray[i] = p := by simpa using Option.some.inj hp
        have eq : its2.toArray[i] = q := by simpa using Option.some.inj hq
        obtain ⟨d', hd', ix⟩ := i1.at (List.getElem?_eq_getElem (show i < xs1.length by omega))
        obtain ⟨e', he', iy⟩ := i2.at (List.getElem?_eq_getElem (show i < ys1.length by omega))
        have md := List.mem_of_getElem? hd'
        have me := List.mem_of_getElem? he'
        have s1' := szL_mem md
        have s2' := szL_mem me
        rw [ep, eq, hd', he']
        refine wpAny_mono (eqW O o N (A := X.A.in1) sb0.in1 (Nat.le_trans (depL_mem md) hdep) I1 rp rq ⟨ix.same e1, iy.same e1, wrdL_mem wd md, wrdL_mem we me, by omega, by omega⟩) (fun r s2 q2 => ?_) fun _ _ z => z
        obtain ⟨hr, H2, I2, e2⟩ := q2
        exact ⟨hr, H2, I2, e1.trans e2⟩
      have hall : allP (fun i => match ds1[i]?, es1[i]? with | some d, some e => eqD d e | _, _ => false) its.toArray.size its2.toArray.size = eqL ds1 es1 := by
        rw [List.size_toArray, List.size_toArray, ← l1, ← l2, l3, l4]
        exact eqL_all _ fun i d' e' h1 h2 => by simp only [h1, h2]
      refine wpAny_richCompare_same_room (op := .NotEq) ⟨_, ho, rfl⟩ ⟨_, ho2, rfl⟩ F.slot_tuple_ne (GQ.call_here F.slot_tuple_ne ⟨_, ho, rfl⟩ F.entry_tuple_ne (F.args_tuple_ne_2 _ _) ?_) hu
      exact tup_neB (R := wants (fun z s' => z ≠ .notImplemented ∧ EP X pins σ Q z s') X.xe) pair (fun s' j => ⟨(fun z => nomatch z), fin _ (by rw [hall]; rfl) s' j⟩) ho ho2 here
end
end Hc

namespace Hc
open PySem PySem.Spec PyProof.Rows L2 Hr
open PyProof in
/-- s * n -/
def rSMul : R2 := fun x y H Q => ∃ s n, x = .str s ∧ y = .int n ∧ MulOk s n ∧ Q (.str (Txt.mul s n)) H
open PyProof in
theorem op_smul {X : Cx} : OpR X (binaryOp .Mult) rSMul := by
  intro pins s σ H x y v u Q I rx ry h
  obtain ⟨i, j, rfl, rfl, hz, q⟩ := h
  obtain ⟨t, rfl⟩ := rx
  obtain ⟨t', rfl⟩ := ry
  exact SB.mul hz (fun t' tk => ⟨.str (Txt.mul i j), H, I.tok _, ⟨_, rfl⟩, q⟩)
open PyProof in
theorem smul24 : MulOk "x" 24 := by unfold MulOk; decide +kernel
open PyProof in
theorem smul25 : MulOk "x" 25 := by unfold MulOk; decide +kernel
open PyProof in
theorem smul24v : Txt.mul "x" 24 = "xxxxxxxxxxxxxxxxxxxxxxxx" := by decide +kernel
open PyProof in
theorem smul25v : Txt.mul "x" 25 = "xxxxxxxxxxxxxxxxxxxxxxxxx" := by decide +kernel
end Hc

namespace Hc
open PySem PySem.Spec PyProof.Rows L2 Hr
def isLD : HO → Bool | .lst _ => true | .dK _ => true | _ => false
/-- H' without what was a list or a dict in H -/
def nw (H H' : Hp) : Hp := fun b => match H b with | some o => if isLD o = true then none else H' b | none => H' b
theorem nw_le {H H' : Hp} : Same (nw H H') H' := fun x o e => by
  unfold nw at e
  cases h : H x with
  | none => rw [h] at e; exact e
  | some u =>
    rw [h] at e
    by_cases z : isLD u = true
    · simp [z] at e
    · simpa [z] using e
theorem nw_at {H H' : Hp} {b : Addr} {o : HO} (h : H b = none) (e : H' b = some o) : nw H H' b = some o := by
  unfold nw; rw [h]; exact e
theorem nw_ld {H H' : Hp} {b : Addr} {o : HO} (h : H b = some o) (l : isLD o = true) : nw H H' b = none := by
  unfold nw; rw [h]; simp [l]
theorem nw_eq {H H' : Hp} {b : Addr} (h : ∀ o, H b = some o → isLD o = false) : nw H H' b = H' b := by
  unfold nw
  cases e : H b with
  | none => rfl
  | some o => simp [h o e]
theorem nw_bu {d c : Addr} {H H1 H2 : Hp} (hD : Dr H d c) (b : Bu2 d c H1 H2) : Same (nw H H1) (nw H H2) := fun x o e => by
  obtain ⟨⟨r, m, h1⟩, ns, _, h2⟩ := hD
  have nd : x ≠ d := fun z => by rw [z, nw_ld h1 rfl] at e; cases e
  have nc : x ≠ c := fun z => by rw [z, nw_ld h2 rfl] at e; cases e
  have e1 := nw_le _ _ e
  rw [← b _ _ e1 nd nc]
  unfold nw at e ⊢
  rw [e1] at e
  rw [b _ _ e1 nd nc]; exact e
theorem newF {H0 H : Hp} {p d c : Addr} {o : HO} (hD : Dr H0 d c) (s : Same H0 H) (h : H p = none) : Same H0 (upd H p o) ∧ nw H0 (upd H p o) p = some o ∧ Same (nw H0 H) (nw H0 (upd H p o)) :=
  ⟨s.trans (same_new h), nw_at (s.free h) upd_same, nw_bu hD (Bu2.of (same_new h))⟩
/-- one of a fresh row is picked -/
theorem pick_new {H : Hp} {d c l : Addr} {xs : List V} {Q : VK} (hD : Dr H d c) (hl : H l = none) (h0 : 0 < xs.length) (h1 : xs.length < 1000000) (q : ∀ H' x, Dr H' d c → Bu2 d c H H' → x ∈ xs → Q x H') : spPick [.ref d, .ref l] (upd H l (.lst xs)) Q C8.E0 := by
  have s1 := same_new (o := .lst xs) hl
  exact ⟨d, c, l, xs, rfl, hD.same s1, upd_same, (hD.off hl).2, h0, h1, fun H' i x hD' b' hx => q H' x hD' ((Bu2.of s1).trans b') (List.mem_of_getElem? hx)⟩
/-- lists and dicts stay lists and dicts -/
def LDk (H H1 : Hp) : Prop := ∀ b o, H b = some o → isLD o = true → ∃ o', H1 b = some o' ∧ isLD o' = true
theorem LDk.of {H H1 : Hp} (s : Same H H1) : LDk H H1 := fun b o e l => ⟨o, s _ _ e, l⟩
theorem LDk.trans {H H1 H2 : Hp} (a : LDk H H1) (b : LDk H1 H2) : LDk H H2 := fun x o e l => by
  obtain ⟨o1, e1, l1⟩ := a x o e l
  exact b x o1 e1 l1
theorem LDk.bu {d c : Addr} {H H1 : Hp} (hD : Dr H1 d c) (b : Bu2 d c H H1) : LDk H H1 := fun x o e l => by
  obtain ⟨⟨r, m, h1⟩, ns, _, h2⟩ := hD
  by_cases z : x = d
  · rw [z]; exact ⟨_, h1, rfl⟩
  by_cases y : x = c
  · rw [y]; exact ⟨_, h2, rfl⟩
  exact ⟨o, b x o e z y, l⟩
theorem nw_sub {H H1 H2 : Hp} (k : LDk H H1) : Same (nw H1 H2) (nw H H2) := fun x o e => by
  rw [nw_eq (H := H) fun u hu => ?_]
  · exact nw_le _ _ e
  · cases l : isLD u with
    | false => rfl
    | true =>
      obtain ⟨u1, e1, l1⟩ := k x u hu l
      rw [nw_ld e1 l1] at e; cases e
theorem nw_keep {C : Addr} {H H' : Hp} (k : LDk H H') : Keep C H' (nw H H') := by
  have h : ∀ b o, H' b = some o → isLD o = false → nw H H' b = some o := fun b o e l => by
    rw [nw_eq fun u hu => ?_]
    · exact e
    · cases l2 : isLD u with
      | false => rfl
      | true =>
        obtain ⟨u1, e1, l1⟩ := k b u hu l2
        rw [e] at e1; cases e1
        rw [l] at l1; cases l1
  exact ⟨fun b xs e => h b _ e rfl, fun b dx fs e => h b _ e rfl⟩
theorem nw_upd {H X : Hp} {l : Addr} {o u : HO} (h : H l = some o) (hl : isLD o = true) : Same (nw H X) (nw H (upd X l u)) := fun x v e => by
  have n : x ≠ l := fun z => by rw [z, nw_ld h hl] at e; cases e
  have : nw H (upd X l u) x = nw H X x := by
    unfold nw; rw [upd_ne n]
  rw [this]; exact e
/-- a row of drawn data, lists among them -/
theorem drawn_lcV {J : It} {n : Nat} {G : Hp → Prop} {Y : Nat → Hp → V → Hp → Prop} (w : Walk J n G Y) {g : TG} {tt : TT} {te : TE} {vs : List Nat} {σ : L2.St} {H0 H2 : Hp} {Dl d c C : Addr} {Qd : Hp → Prop} {good : D → Prop} (hD : Dr H2 d c) (hDl : H2 Dl = none) (hn : n ≤ 1000) (hG : ∀ H, G H)
    (hL : LDk H0 H2) (hY : ∀ i H x H', Y i H x H' → H' = H)
    (ht : ∀ i x H H3 (R : VK) (N : Hp → Prop), i < n → Y i H x H3 → Dr H3 d c → Bu2 d c H2 H3 → (∀ H5 v w, Dr H5 d c → Bu2 d c H3 H5 → Is C (nw H3 H5) v w → good w → R v H5) → g x (wipe σ vs) H3 fun σ2 H4 => wipe σ2 vs = wipe σ vs ∧ tt σ2 H4 fun b H5 => if b = true then te σ2 H5 R else N H5)
    (hq : ∀ H3 acc ws, Dr H3 d c → Bu2 d c H2 H3 → H3 Dl = some (.lst acc) → IsA C (nw H0 H3) acc ws → ws.length = n → (∀ e ∈ ws, good e) → Qd H3) :
    ∃ W : Nat → Nat → Hp → Prop, (∃ m, W 0 m (upd H2 Dl (.lst []))) ∧ ∀ i m H, W i m H →
      (J.stop i H ∧ Qd H) ∨ (J.go i H ∧ ∃ Nx : Hp → Prop, (∀ H', Nx H' → ∃ m', m' < m ∧ W (i + 1) m' H') ∧ ∀ x H', J.yld i H x H' → g x (wipe σ vs) H' fun σ2 H2 => wipe σ2 vs = wipe σ vs ∧ tt σ2 H2 fun b H3 =>
        if b = true then te σ2 H3 fun y H4 => ∃ acc, H4 Dl = some (.lst acc) ∧ acc.length < sizeLine ∧ Nx (upd H4 Dl (.lst (acc ++ [y]))) else Nx H3) := by
  have hoff := hD.off hDl
  have sA := same_new (o := .lst []) hDl
  have hDA := hD.same sA
  have eA : upd H2 Dl (.lst []) Dl = some (.lst []) := upd_same
  have hL0 : LDk H0 (upd H2 Dl (.lst [])) := hL.trans (LDk.of sA)
  have frA : ∀ b o, upd H2 Dl (.lst []) b = some o → b ≠ Dl → H2 b = some o := fun b o e n => by rwa [upd_ne n] at e
  refine lc_it w (fun i H3 => Dr H3 d c ∧ Bu2 d c H2 H3 ∧ ∃ acc ws, H3 Dl = some (.lst acc) ∧ IsA C (nw (upd H2 Dl (.lst [])) H3) acc ws ∧ ws.length = i ∧ ∀ e ∈ ws, good e) ⟨hDA, Bu2.of sA, [], [], upd_same, .nil, rfl, fun e he => by cases he⟩ (fun _ _ _ _ => hG _) ?_ ?_
  · rintro i x H3 H4 hi ⟨hD3, b3, acc, ws, hz, ia, hl, hw⟩ y
    have e := hY _ _ _ _ y
    subst e
    refine ht i x _ _ _ _ hi y hD3 b3 fun H5 v w' hD5 b5 iv hwd => ?_
    have hz5 := b5 _ _ hz hoff.1 hoff.2
    have hal := ia.len
    have kA : LDk (upd H2 Dl (.lst [])) H4 := fun b o e l => by
      by_cases z : b = Dl
      · rw [z]; exact ⟨_, hz, rfl⟩
      · exact LDk.bu hD3 b3 b o (frA b o e z) l
    have ia5 := ia.same (nw_bu hDA b5)
    have iv5 := iv.same (nw_sub kA)
    have su : Same (nw (upd H2 Dl (.lst [])) H5) (nw (upd H2 Dl (.lst [])) (upd H5 Dl (.lst (acc ++ [v])))) := nw_upd eA rfl
    refine ⟨acc, hz5, by have : (1000 : Nat) < sizeLine := by decide
                         omega, ?_, fun b o e n1 n2 => ?_, acc ++ [v], ws ++ [w'], upd_same, ?_, by simp [hl], fun e he => ?_⟩
    · obtain ⟨⟨r0, m0, f1⟩, ns, hn, f2⟩ := hD5
      exact ⟨⟨r0, m0, by rw [upd_ne hoff.1.symm]; exact f1⟩, ns, hn, by rw [upd_ne hoff.2.symm]; exact f2⟩
    · rw [upd_ne (ne_of_none e hDl)]
      exact b5 _ _ (b3 _ _ e n1 n2) n1 n2
    · exact (ia5.same su).app (.cons (iv5.same su) .nil)
    · rcases List.mem_append.mp he with he | he
      · exact hw e he
      · rw [List.mem_singleton.mp he]; exact hwd
  · rintro H3 ⟨hD3, b3, acc, ws, hz, ia, hl, hw⟩
    exact hq H3 acc ws hD3 b3 hz (ia.same (nw_sub hL0)) hl hw
/-- data without lists and dicts is there without the old ones, too -/
theorem Is.nw {C : Addr} {H H' : Hp} (k : LDk H H') {x : V} {d : D} (c : cln d = true) (i : Is C H' x d) : Is C (nw H H') x d := Is.keep (nw_keep k) c i
theorem IsA.nw {C : Addr} {H H' : Hp} (k : LDk H H') {xs : List V} {ds : List D} (c : clnL ds = true) (i : IsA C H' xs ds) : IsA C (nw H H') xs ds := IsA.keep (nw_keep k) c i
end Hc

namespace Hc
open PySem PySem.Spec PyProof.Rows L2 Hr
def nameD : D → Bool | .tup (.str _ :: _) => true | _ => false
def belD (d : D) (m : Int) : Bool := match d with | .int i => decide (0 ≤ i) && decide (i < m) | _ => false
def formB (d : D) (nm : Str) (m : Int) : Bool := match d with | .tup (.str k :: ds) => decide (((ds.length + 1 : Nat) : Int) = m) && decide (k = nm) | _ => false
/-- a part of a call: its form is one of those of moves -/
def partB (z : Str) (d : D) : Bool := if z = "text" then isTxt d else if z = "granule" then belD d 24 else if z = "page" then belD d 16 else okW 40 40 0 d
def formZ (z : Str) : Prop := z = "text" ∨ z = "granule" ∨ z = "page" ∨ z = "word"
def spHN (C : Addr) : Sp := fun vs H Q _ => ∃ x d, vs = [x] ∧ Is C H x d ∧ Q (.bl (nameD d)) H
def spBel (C : Addr) : Sp := fun vs H Q _ => ∃ x d m, vs = [x, .int m] ∧ Is C H x d ∧ Q (.bl (belD d m)) H
def spBel1 (C : Addr) (m : Int) : Sp := fun vs H Q _ => ∃ x d, vs = [x] ∧ Is C H x d ∧ Q (.bl (belD d m)) H
def spForm (C : Addr) : Sp := fun vs H Q _ => ∃ x d nm m, vs = [x, .str nm, .int m] ∧ Is C H x d ∧ 0 < m ∧ Q (.bl (formB d nm m)) H
def spPt (C : Addr) : Sp := fun vs H Q _ => ∃ x d z, vs = [x, .str z] ∧ Is C H x d ∧ Fit d ∧ formZ z ∧ ∀ H', Same H H' → Q (.bl (partB z d)) H'
def spFt (C : Addr) : Sp := fun vs H Q _ => ∃ x d z, vs = [x, .str z] ∧ Is C H x d ∧ Fit d ∧ formZ z ∧ z ≠ "text" ∧ ∀ H', Same H H' → Q (.bl (partB z d)) H'
theorem zz1 : ¬ (("text" : Str) = "granule") := by decide +kernel
theorem zz2 : ¬ (("text" : Str) = "page") := by decide +kernel
theorem zz3 : ¬ (("granule" : Str) = "text") := by decide +kernel
theorem zz4 : ¬ (("granule" : Str) = "page") := by decide +kernel
theorem zz5 : ¬ (("page" : Str) = "text") := by decide +kernel
theorem zz6 : ¬ (("page" : Str) = "granule") := by decide +kernel
theorem zz7 : ¬ (("word" : Str) = "text") := by decide +kernel
theorem zz8 : ¬ (("word" : Str) = "granule") := by decide +kernel
theorem zz9 : ¬ (("word" : Str) = "page") := by decide +kernel
theorem off_form {z : Str} (h : formZ z) (y : Str) (n : ∀ u, formZ u → ¬ u = y) : ¬ (V.str z = V.str y) := fun e => n z h (V.str.inj e)
section
variable {P : Program} {w : World} {K : PySem.W.Frag} {mg : Str → Option Value} {base : Heap} {f : Addr} {fd : FuncData} {C : Addr}
abbrev s_has_name : Stmt := top 39
theorem sc_has_name : FnScope ["value"] ["value"] (C8.fnScope s_has_name) := C8.fnScope_by (by decide +kernel)
theorem ok_has_name (F : C8.Def K mg "has_name" s_has_name f fd) (b : Binds K fd ["value"] []) (T : Txt K mg w C) : C8.Cal P w K mg base 1 "has_name" (spHN C) [] := by
  refine C8.cal0 F b .nil sc_has_name (fun vs H Q E h => ?_) (fun cdv A outer s H vs Q E hr h => ?_)
  · obtain ⟨x, d, rfl, _⟩ := h; rfl
  obtain ⟨x, d, rfl, hx, q⟩ := h
  refine ⟨_, (pss_one (ps_ret (pe_and (pe_cmpR (op_isTyA (C := C)) (pe_callTy (call_typeA (C := C)) rfl T.z_type bt_type (pa_cons (pv 0) pa_nil)) (pe_bltn (v := .ty "tuple") rfl T.z_tuple bt_tuple rfl) (nomark _)) (pe_and (pe_cmpR op_gt (pe_callB call_lenS rfl T.z_len bt_len (pa_cons (pv 0) pa_nil)) pe_int (nomark _)) (pe_one (pe_cmpR (op_isTyA (C := C)) (pe_callTy (call_typeA (C := C)) rfl T.z_type bt_type (pa_cons (pe_ix ix_tup (pv 0) pe_int (fun _ _ => rfl)) pa_nil)) (pe_bltn (v := .ty "str") rfl T.z_str bt_str rfl) (nomark _))))))), ?_⟩
  refine ⟨_, rfl, x, d, rfl, hx, kyV_ok d, .inl ⟨_, rfl⟩, _, rfl, ?_⟩
  by_cases ct : kyV C d = .ty "tuple"
  · refine ifT ct ?_
    obtain ⟨ds, rfl⟩ := kyV_tup.mp ct
    cases hx with
    | @tup a xs _ ha hxs =>
    refine ⟨_, rfl, a, xs, rfl, .inr (SqT.of ha), _, _, rfl, rfl, _, rfl, ?_⟩
    cases hxs with
    | nil => exact ifF (by simp) q
    | @cons y ys e es hy hys =>
      refine ifT (by simp) ⟨_, rfl, a, _, 0, y, rfl, rfl, SqT.of ha, atI_nat (j := 0) rfl, y, e, rfl, hy, kyV_ok e, .inl ⟨_, rfl⟩, ?_⟩
      have h : nameD (.tup (e :: es)) = decide (kyV C e = .ty "str") := by cases e <;> simp [nameD, kyV]
      rw [h] at q; exact q
  · have h : nameD d = false := by cases d <;> first | rfl | exact absurd rfl ct
    rw [h] at q
    exact ifF ct q
abbrev s_is_form : Stmt := top 16
theorem sc_is_form : FnScope ["value", "name", "many"] ["value", "name", "many"] (C8.fnScope s_is_form) := C8.fnScope_by (by decide +kernel)
theorem ok_is_form (F : C8.Def K mg "is_form" s_is_form f fd) (b : Binds K fd ["value", "name", "many"] []) (T : Txt K mg w C) : C8.Cal P w K mg base 1 "is_form" (spForm C) [] := by
  refine C8.cal0 F b .nil sc_is_form (fun vs H Q E h => ?_) (fun cdv A outer s H vs Q E hr h => ?_)
  · obtain ⟨x, d, nm, m, rfl, _⟩ := h; rfl
  obtain ⟨x, d, nm, m, rfl, hx, hm, q⟩ := h
  refine ⟨_, (pss_one (ps_ret (pe_and (pe_cmpR (op_isTyA (C := C)) (pe_callTy (call_typeA (C := C)) rfl T.z_type bt_type (pa_cons (pv 0) pa_nil)) (pe_bltn (v := .ty "tuple") rfl T.z_tuple bt_tuple rfl) (nomark _)) (pe_and (pe_cmpR op_eq (pe_callB call_lenS rfl T.z_len bt_len (pa_cons (pv 0) pa_nil)) (pv 2) (nomark _)) (pe_and (pe_cmpR (op_isTyA (C := C)) (pe_callTy (call_typeA (C := C)) rfl T.z_type bt_type (pa_cons (pe_ix ix_tup (pv 0) pe_int (fun _ _ => rfl)) pa_nil)) (pe_bltn (v := .ty "str") rfl T.z_str bt_str rfl) (nomark _)) (pe_one (pe_cmpR op_eq (pe_ix ix_tup (pv 0) pe_int (fun _ _ => rfl)) (pv 1) (nomark _)))))))), ?_⟩
  refine ⟨_, rfl, x, d, rfl, hx, kyV_ok d, .inl ⟨_, rfl⟩, _, rfl, ?_⟩
  by_cases ct : kyV C d = .ty "tuple"
  · refine ifT ct ?_
    obtain ⟨ds, rfl⟩ := kyV_tup.mp ct
    cases hx with
    | @tup a xs _ ha hxs =>
    have hl := hxs.len
    refine ⟨_, rfl, a, xs, rfl, .inr (SqT.of ha), _, rfl, rfl, _, rfl, ?_⟩
    by_cases cm : (xs.length : Int) = m
    · refine ifT (by rw [cm]) ?_
      cases hxs with
      | nil => simp at cm; omega
      | @cons y ys e es hy hys =>
        refine ⟨_, rfl, a, _, 0, y, rfl, rfl, SqT.of ha, atI_nat (j := 0) rfl, y, e, rfl, hy, kyV_ok e, .inl ⟨_, rfl⟩, _, rfl, ?_⟩
        by_cases cs : kyV C e = .ty "str"
        · obtain ⟨k, rfl⟩ := kyV_str.mp cs
          cases hy
          refine ifT cs ⟨_, rfl, a, _, 0, _, rfl, rfl, SqT.of ha, atI_nat (j := 0) rfl, _, rfl, rfl, ?_⟩
          have e1 : formB (.tup (.str k :: es)) nm m = decide (V.str k = V.str nm) := by
            have e2 : (((es.length + 1 : Nat) : Int) = m) := by rw [← cm]; simp at hl; simp [hl]
            simp only [formB]
            rw [decide_eq_true e2, Bool.true_and]
            by_cases h : k = nm
            · subst h; simp
            · rw [decide_eq_false h, decide_eq_false (fun z => h (V.str.inj z))]
          rw [e1] at q; exact q
        · have e1 : formB (.tup (e :: es)) nm m = false := by cases e <;> first | rfl | exact absurd rfl cs
          rw [e1] at q
          exact ifF cs q
    · have e1 : formB (.tup ds) nm m = false := by
        unfold formB
        split
        · rename_i k ds' q'
          cases q'
          rw [decide_eq_false (fun z => cm (by rw [hl]; exact z))]; rfl
        · rfl
      rw [e1] at q
      exact ifF (fun z => cm (V.int.inj z)) q
  · have h : formB d nm m = false := by cases d <;> first | rfl | exact absurd rfl ct
    rw [h] at q
    exact ifF ct q
abbrev s__is_below : Stmt := top 41
theorem sc__is_below : FnScope ["value", "many"] ["value", "many"] (C8.fnScope s__is_below) := C8.fnScope_by (by decide +kernel)
theorem ok__is_below (F : C8.Def K mg "_is_below" s__is_below f fd) (b : Binds K fd ["value", "many"] []) (T : Txt K mg w C) : C8.Cal P w K mg base 1 "_is_below" (spBel C) [] := by
  refine C8.cal0 F b .nil sc__is_below (fun vs H Q E h => ?_) (fun cdv A outer s H vs Q E hr h => ?_)
  · obtain ⟨x, d, m, rfl, _⟩ := h; rfl
  obtain ⟨x, d, m, rfl, hx, q⟩ := h
  refine ⟨_, (pss_one (ps_ret (pe_and (pe_cmpR (op_isTyA (C := C)) (pe_callTy (call_typeA (C := C)) rfl T.z_type bt_type (pa_cons (pv 0) pa_nil)) (pe_bltn (v := .ty "int") rfl T.z_int bt_int rfl) (nomark _)) (pe_one (pe_chain op_le op_lt pe_int (pv 0) (pv 1)))))), ?_⟩
  refine ⟨_, rfl, x, d, rfl, hx, kyV_ok d, .inl ⟨_, rfl⟩, _, rfl, ?_⟩
  by_cases c : kyV C d = .ty "int"
  · refine ifT c ?_
    obtain ⟨i, rfl⟩ := kyV_int.mp c
    cases hx
    refine ⟨_, rfl, _, _, rfl, rfl, _, rfl, ite2 (fun c => ?_) (fun c => ?_)⟩
    · refine ⟨_, rfl, _, _, rfl, rfl, ?_⟩
      have e : belD (.int i) m = decide (i < m) := by simp [belD, of_decide_eq_true c]
      rw [e] at q; exact q
    · have e : belD (.int i) m = false := by simp [belD] at c ⊢; omega
      rw [e] at q; exact q
  · have e : belD d m = false := by cases d <;> first | rfl | exact absurd rfl c
    rw [e] at q
    exact ifF c q
abbrev s_is_granule : Stmt := top 36
theorem sc_is_granule : FnScope ["value"] ["value"] (C8.fnScope s_is_granule) := C8.fnScope_by (by decide +kernel)
theorem ok_is_granule (F : C8.Def K mg "is_granule" s_is_granule f fd) (b : Binds K fd ["value"] []) (T : Txt K mg w C) (c__is_below : C8.Cal P w K mg base 1 "_is_below" (spBel C) []) : C8.Cal P w K mg base 2 "is_granule" (spBel1 C 24) [] := by
  refine C8.cal0 F b .nil sc_is_granule (fun vs H Q E h => ?_) (fun cdv A outer s H vs Q E hr h => ?_)
  · obtain ⟨x, d, rfl, _⟩ := h; rfl
  obtain ⟨x, d, rfl, hx, q⟩ := h
  refine ⟨_, (pss_one (ps_ret (C8.pe_c c__is_below hr (by first | decide | omega) rfl (pa_cons (pv 0) (pa_cons (C8.pe_gc rfl T.c_GRANULES) pa_nil))))), ?_⟩
  exact ⟨_, rfl, x, d, 24, rfl, hx, q⟩
abbrev s_is_page : Stmt := top 38
theorem sc_is_page : FnScope ["value"] ["value"] (C8.fnScope s_is_page) := C8.fnScope_by (by decide +kernel)
theorem ok_is_page (F : C8.Def K mg "is_page" s_is_page f fd) (b : Binds K fd ["value"] []) (T : Txt K mg w C) (c__is_below : C8.Cal P w K mg base 1 "_is_below" (spBel C) []) : C8.Cal P w K mg base 2 "is_page" (spBel1 C 16) [] := by
  refine C8.cal0 F b .nil sc_is_page (fun vs H Q E h => ?_) (fun cdv A outer s H vs Q E hr h => ?_)
  · obtain ⟨x, d, rfl, _⟩ := h; rfl
  obtain ⟨x, d, rfl, hx, q⟩ := h
  refine ⟨_, (pss_one (ps_ret (C8.pe_c c__is_below hr (by first | decide | omega) rfl (pa_cons (pv 0) (pa_cons (C8.pe_gc rfl T.c_PAGES) pa_nil))))), ?_⟩
  exact ⟨_, rfl, x, d, 16, rfl, hx, q⟩
abbrev s_fits : Stmt := top 40
theorem sc_fits : FnScope ["part", "form"] ["part", "form"] (C8.fnScope s_fits) := C8.fnScope_by (by decide +kernel)
theorem ok_fits (F : C8.Def K mg "fits" s_fits f fd) (b : Binds K fd ["part", "form"] []) (T : Txt K mg w C) (c_is_granule : C8.Cal P w K mg base 2 "is_granule" (spBel1 C 24) []) (c_is_page : C8.Cal P w K mg base 2 "is_page" (spBel1 C 16) []) (c_is_word : C8.Cal P w K mg base 3 "is_word" (spB C Fit (okW 40 40 0)) []) : C8.Cal P w K mg base 4 "fits" (spFt C) [] := by
  refine C8.cal0 F b .nil sc_fits (fun vs H Q E h => ?_) (fun cdv A outer s H vs Q E hr h => ?_)
  · obtain ⟨x, d, z, rfl, _⟩ := h; rfl
  obtain ⟨x, d, z, rfl, hx, hf, hz, nt, q⟩ := h
  refine ⟨_, (pss_cons (ps_if (pt_cmpR op_eq (pv 1) pe_str (nomark _)) (pss_one (ps_ret (C8.pe_c c_is_granule hr (by first | decide | omega) rfl (pa_cons (pv 0) pa_nil)))) pss_nil)
      (pss_cons (ps_if (pt_cmpR op_eq (pv 1) pe_str (nomark _)) (pss_one ps_never) pss_nil)
      (pss_cons (ps_if (pt_cmpR op_eq (pv 1) pe_str (nomark _)) (pss_one ps_never) pss_nil)
      (pss_cons (ps_if (pt_cmpR op_eq (pv 1) pe_str (nomark _)) (pss_one (ps_ret (C8.pe_c c_is_page hr (by first | decide | omega) rfl (pa_cons (pv 0) pa_nil)))) pss_nil)
      (pss_cons (ps_if (pt_cmpR op_eq (pv 1) pe_str (nomark _)) (pss_one ps_never) pss_nil)
      (pss_cons (ps_if (pt_cmpR op_eq (pv 1) pe_str (nomark _)) (pss_one ps_never) pss_nil)
      (pss_one (ps_ret (C8.pe_c c_is_word hr (by first | decide | omega) rfl (pa_cons (pv 0) pa_nil)))))))))), ?_⟩
  refine ⟨_, rfl, rfl, _, rfl, ?_⟩
  by_cases z1 : z = "granule"
  · subst z1
    refine ifT rfl ⟨_, rfl, x, d, rfl, hx, ?_⟩
    have q := q H (Same.refl H)
    rw [show partB "granule" d = belD d 24 by simp only [partB]; rw [if_neg zz3, if_pos trivial]] at q
    exact q
  refine ifF (fun e => z1 (V.str.inj e)) ?_
  refine ⟨_, rfl, rfl, _, rfl, ifF (off_form hz _ (by intro u hu; rcases hu with rfl | rfl | rfl | rfl <;> decide +kernel)) ?_⟩
  refine ⟨_, rfl, rfl, _, rfl, ifF (off_form hz _ (by intro u hu; rcases hu with rfl | rfl | rfl | rfl <;> decide +kernel)) ?_⟩
  refine ⟨_, rfl, rfl, _, rfl, ?_⟩
  by_cases z2 : z = "page"
  · subst z2
    refine ifT rfl ⟨_, rfl, x, d, rfl, hx, ?_⟩
    have q := q H (Same.refl H)
    rw [show partB "page" d = belD d 16 by simp only [partB]; rw [if_neg zz5, if_neg zz6, if_pos trivial]] at q
    exact q
  refine ifF (fun e => z2 (V.str.inj e)) ?_
  refine ⟨_, rfl, rfl, _, rfl, ifF (off_form hz _ (by intro u hu; rcases hu with rfl | rfl | rfl | rfl <;> decide +kernel)) ?_⟩
  refine ⟨_, rfl, rfl, _, rfl, ifF (off_form hz _ (by intro u hu; rcases hu with rfl | rfl | rfl | rfl <;> decide +kernel)) ?_⟩
  refine ⟨_, rfl, x, d, rfl, hx, hf, fun H' s' => ?_⟩
  have q := q H' s'
  rw [show partB z d = okW 40 40 0 d by simp only [partB]; rw [if_neg nt, if_neg z1, if_neg z2]] at q
  exact q
abbrev s__is_part : Stmt := top 53
theorem sc__is_part : FnScope ["part", "form"] ["part", "form"] (C8.fnScope s__is_part) := C8.fnScope_by (by decide +kernel)
theorem ok__is_part (F : C8.Def K mg "_is_part" s__is_part f fd) (b : Binds K fd ["part", "form"] []) (T : Txt K mg w C) (c_is_text : C8.Cal P w K mg base 1 "is_text" (spB C (fun d => ∀ s, d = .str s → s.length ≤ sizeLine) isTxt) []) (c_fits : C8.Cal P w K mg base 4 "fits" (spFt C) []) : C8.Cal P w K mg base 5 "_is_part" (spPt C) [] := by
  refine C8.cal0 F b .nil sc__is_part (fun vs H Q E h => ?_) (fun cdv A outer s H vs Q E hr h => ?_)
  · obtain ⟨x, d, z, rfl, _⟩ := h; rfl
  obtain ⟨x, d, z, rfl, hx, hf, hz, q⟩ := h
  refine ⟨_, (pss_cons (ps_if (pt_cmpR op_eq (pv 1) pe_str (nomark _)) (pss_one ps_never) pss_nil)
      (pss_cons (ps_if (pt_cmpR op_eq (pv 1) pe_str (nomark _)) (pss_one ps_never) pss_nil)
      (pss_cons (ps_if (pt_cmpR op_eq (pv 1) pe_str (nomark _)) (pss_one ps_never) pss_nil)
      (pss_cons (ps_if (pt_cmpR op_eq (pv 1) pe_str (nomark _)) (pss_one (ps_ret (C8.pe_c c_is_text hr (by first | decide | omega) rfl (pa_cons (pv 0) pa_nil)))) pss_nil)
      (pss_one (ps_ret (C8.pe_c c_fits hr (by first | decide | omega) rfl (pa_cons (pv 0) (pa_cons (pv 1) pa_nil))))))))), ?_⟩
  refine ⟨_, rfl, rfl, _, rfl, ifF (off_form hz _ (by intro u hu; rcases hu with rfl | rfl | rfl | rfl <;> decide +kernel)) ?_⟩
  refine ⟨_, rfl, rfl, _, rfl, ifF (off_form hz _ (by intro u hu; rcases hu with rfl | rfl | rfl | rfl <;> decide +kernel)) ?_⟩
  refine ⟨_, rfl, rfl, _, rfl, ifF (off_form hz _ (by intro u hu; rcases hu with rfl | rfl | rfl | rfl <;> decide +kernel)) ?_⟩
  refine ⟨_, rfl, rfl, _, rfl, ?_⟩
  by_cases z1 : z = "text"
  · subst z1
    refine ifT rfl ⟨_, rfl, x, d, rfl, hx, (fun s hs => by subst hs; exact hf.2), fun H' s' => ?_⟩
    have q := q H' s'
    rw [show partB "text" d = isTxt d by simp only [partB]; rw [if_pos trivial]] at q
    exact q
  · refine ifF (fun e => z1 (V.str.inj e)) ?_
    exact ⟨_, rfl, _, rfl, x, d, z, rfl, hx, hf, hz, z1, q⟩
end
end Hc

namespace Hc
open PySem PySem.Spec PyProof.Rows L2 Hr
theorem walk_zipT2 {K : PySem.W.Frag} {a b : Addr} {xs ys : List V} {n : Nat} (hn : n = min xs.length ys.length) : Walk (RZ.ItzT K a b) n (fun H => SqT K H a xs ∧ SqT K H b ys) (YPair (fun i => xs[i]?) (fun i => ys[i]?)) := by
  subst hn
  refine ⟨fun i _ hi q => ?_, fun _ q => ⟨xs, ys, q.1, q.2, by omega⟩, fun i H v H' _ q y => ?_⟩
  · have h1 : i < xs.length := by omega
    have h2 : i < ys.length := by omega
    exact ⟨xs, ys, xs[i], ys[i], q.1, q.2, by simp [h1], by simp [h2]⟩
  · obtain ⟨t, x, z, e1, e2, e3, e4, e5⟩ := y
    exact ⟨t, x, z, e1, e2, e3, e4 xs q.1, e5 ys q.2⟩
def intO : D → Option Int | .int i => some i | _ => none
def grZ (ps : List (D × Str)) : List Int := ps.filterMap fun p => if p.2 = ("granule" : Str) then intO p.1 else none
theorem grZ_len (ps : List (D × Str)) : (grZ ps).length ≤ ps.length := List.length_filterMap_le _ _
def apD (fo : Option (List Str)) (ds : List D) : Bool := match fo with
  | none => false
  | some fs => decide (ds.length = fs.length) && (ds.zip fs).all (fun p => partB p.2 p.1) && decide (nDist (grZ (ds.zip fs)) = (grZ (ds.zip fs)).length)
def FvOk (K : PySem.W.Frag) (fv : V) (fo : Option (List Str)) : Prop := (fv = .non ∧ fo = none) ∨ ∃ t fs, fv = .ref t ∧ KTup K t fs ∧ fo = some fs ∧ ∀ z ∈ fs, formZ z
def spAP (K : PySem.W.Frag) (C : Addr) : Sp := fun vs H Q _ => ∃ p fv ds fo, vs = [.ref p, fv] ∧ Is C H (.ref p) (.tup ds) ∧ FvOk K fv fo ∧ ds.length ≤ 1000 ∧ (∀ e ∈ ds, Fit e) ∧ ∀ H', Same H H' → Q (.bl (apD fo ds)) H'
/-- what is known of the names -/
def MvOk (d : D) : Prop := match d with | .tup (.str k :: ds) => ((∃ p ∈ movF, p.1 = k) ∨ k ∈ moreV) ∧ ds.length ≤ 1000 ∧ ∀ e ∈ ds, Fit e | _ => True
def movD (d : D) : Bool := match d with | .tup (.str k :: ds) => apD (formsV k) ds | _ => false
def spMv (C : Addr) : Sp := fun vs H Q _ => ∃ x d, vs = [x] ∧ Is C H x d ∧ MvOk d ∧ ∀ H', Same H H' → Q (.bl (movD d)) H'
theorem mv_at {K : PySem.W.Frag} {mg : Str → Option Value} {w : World} (F : KForms K mg w "FORMS_moveforms" movF moreV) : ∃ g es n, (∃ u, mg "FORMS_moveforms" = some u ∧ RelV (.ref g) u) ∧ KDict K w g es n ∧
    ∀ k : Str, ((∃ p ∈ movF, p.1 = k) ∨ k ∈ moreV) → (∃ t fs, formsV k = some fs ∧ PySem.W.nsIn K g k = some (some (.ref t)) ∧ KTup K t fs ∧ ∀ z ∈ fs, formZ z) ∨ (formsV k = none ∧ PySem.W.nsIn K g k = some none) := by
  obtain ⟨g, es, n, hg, kd, h1, h2⟩ := F.ex
  refine ⟨g, es, n, hg, kd, fun k hk => ?_⟩
  rcases hk with ⟨p, hp, rfl⟩ | hk
  · obtain ⟨t, e1, e2⟩ := h1 p hp
    have h3 : ∀ p ∈ movF, formsV p.1 = some p.2 := by decide +kernel
    have h4 : ∀ p ∈ movF, ∀ z ∈ p.2, z = "text" ∨ z = "granule" ∨ z = "page" ∨ z = "word" := by decide +kernel
    exact .inl ⟨t, p.2, h3 p hp, e1, e2, h4 p hp⟩
  · have h3 : ∀ k ∈ moreV, formsV k = none := by decide +kernel
    exact .inr ⟨h3 k hk, h2 k hk⟩
section
variable {P : Program} {w : World} {K : PySem.W.Frag} {mg : Str → Option Value} {base : Heap} {f : Addr} {fd : FuncData} {C : Addr}
abbrev s_are_parts : Stmt := top 52
theorem sc_are_parts : FnScope ["parts", "forms", "part", "form", "granules"] ["parts", "forms"] (C8.fnScope s_are_parts) := C8.fnScope_by (by decide +kernel)
theorem ok_are_parts (F : C8.Def K mg "are_parts" s_are_parts f fd) (b : Binds K fd ["parts", "forms"] []) (T : Txt K mg w C) (c__is_part : C8.Cal P w K mg base 5 "_is_part" (spPt C) []) : C8.Cal P w K mg base 6 "are_parts" (spAP K C) [] := by
  refine C8.cal0 F b .nil sc_are_parts (fun vs H Q E h => ?_) (fun cdv A outer s H vs Q E hr h => ?_)
  · obtain ⟨p, fv, ds, fo, rfl, _⟩ := h; rfl
  obtain ⟨p, fv, ds, fo, rfl, hp, hf, hlen, hft, q⟩ := h
  refine ⟨_, (pss_cons (ps_if (PW.pt (pw_or (pt_cmpR op_isN (pv 1) pe_non (nomark _)) (pw_or1 (pt_cmpR op_ne (pe_callB call_lenS rfl T.z_len bt_len (pa_cons (pv 0) pa_nil)) (pe_callB call_lenS rfl T.z_len bt_len (pa_cons (pv 1) pa_nil)) (nomark _))))) (pss_one (ps_ret pe_bl)) pss_nil)
      (pss_cons (ps_if (pt_not (pt_val (pe_callB (cr_all rfl) rfl T.z_all bt_all (pa_cons (pe_lc (own := [("part", 2), ("form", 3)]) (g := gTup K 2 (gCons (gName 2) (gCons (gName 3) gNil))) rfl sc_are_parts.nd (RZ.pi_zipA rfl T.z_zip (pa_cons (pv 0) (pa_cons (pv 1) pa_nil))) (blkOk_by (own := [("part", 2), ("form", 3)]) (N := ["parts", "forms", "part", "form", "granules"]) (sc := C8.fnScope s_are_parts) (by decide +kernel)) (fun _ _ _ _ _ => (pg_tup rfl (pgs_cons (pg_name (i := 2) sc_are_parts.nd rfl (Or.inl rfl)) (pgs_cons (pg_name (i := 3) sc_are_parts.nd rfl (Or.inl rfl)) pgs_nil)))) (fun _ _ _ _ _ => pts_nil) (fun _ _ _ _ _ => (C8.pe_c c__is_part hr (by first | decide | omega) rfl (pa_cons (pv 2) (pa_cons (pv 3) pa_nil))))) pa_nil)))) (pss_one (ps_ret pe_bl)) pss_nil)
      (pss_cons (ps_setLc (i := 4) (own := [("part", 2), ("form", 3)]) (g := gTup K 2 (gCons (gName 2) (gCons (gName 3) gNil))) rfl sc_are_parts.nd rfl rfl (sw_true rfl rfl rfl rfl) (RZ.pi_zipA rfl T.z_zip (pa_cons (pv 0) (pa_cons (pv 1) pa_nil))) (blkOk_by (own := [("part", 2), ("form", 3)]) (N := ["parts", "forms", "part", "form", "granules"]) (sc := C8.fnScope s_are_parts) (by decide +kernel)) (fun _ _ _ _ _ => (pg_tup rfl (pgs_cons (pg_name (i := 2) sc_are_parts.nd rfl (Or.inl rfl)) (pgs_cons (pg_name (i := 3) sc_are_parts.nd rfl (Or.inl rfl)) pgs_nil)))) (fun _ _ _ _ _ => (pts_one (pt_cmpR op_eq (pv 3) pe_str (nomark _)))) (fun _ _ _ _ _ => (pv 2)))
      (pss_one (ps_ret (pe_cmpR op_eq (pe_lenSetG rfl T.z_len rfl T.z_set (pv 4) rfl rfl) (pe_callB call_lenS rfl T.z_len bt_len (pa_cons (pv 4) pa_nil)) (nomark _))))))), ?_⟩
  rcases hf with ⟨rfl, rfl⟩ | ⟨t, fs, rfl, kt, rfl, hfz⟩
  · exact ⟨_, rfl, rfl, _, rfl, ifT rfl (q H (Same.refl H))⟩
  refine ⟨_, rfl, rfl, _, rfl, ifF (fun z => nomatch z) ?_⟩
  cases hp with
  | @tup _ ys _ ha hys =>
  have hl := hys.len
  refine ⟨_, rfl, p, _, rfl, .inr (SqT.of ha), _, rfl, t, _, rfl, .inr (kt H), rfl, _, rfl, ?_⟩
  by_cases c3 : ds.length = fs.length
  · refine bF (by simp; omega) ?_
    have hmin : ds.length = min ys.length (fs.map V.str).length := by rw [hl, List.length_map]; omega
    have hzl : (ds.zip fs).length = ds.length := by rw [List.length_zip]; omega
    refine ⟨_, rfl, _, rfl, p, t, ys, fs.map V.str, rfl, .inr ⟨SqT.of ha, kt H, fun Dl hD => ?_⟩⟩
    have sD := same_new (o := .lst []) hD
    refine lc_it (walk_zipT2 (K := K) (a := p) (b := t) (xs := ys) (ys := fs.map V.str) hmin) (fun i H3 => Same H H3 ∧ H3 Dl = some (.lst (((ds.zip fs).take i).map fun q => V.bl (partB q.2 q.1)))) ⟨sD, upd_same⟩ (fun i H3 _ h => ⟨SqT.of (h.1 _ _ ha), kt H3⟩) ?_ ?_
    · rintro i v H3 H4 hi ⟨s3, hz3⟩ ⟨tt, x, y, rfl, nt, rfl, ex, ey⟩
      have ex : ys[i]? = some x := ex
      obtain ⟨d, hd, hx⟩ := hys.at ex
      obtain ⟨z, hz2, rfl⟩ : ∃ z, fs[i]? = some z ∧ y = V.str z := by
        have ey : (fs.map V.str)[i]? = some y := ey
        rw [List.getElem?_map] at ey
        cases h : fs[i]? with
        | none => rw [h] at ey; cases ey
        | some z => rw [h] at ey; exact ⟨z, rfl, (Option.some.inj ey).symm⟩
      have s4 := same_new (o := .tup [x, .str z]) nt
      refine ⟨tt, [x, .str z], rfl, SqT.of upd_same, rfl, x, [.str z], rfl, .str z, [], rfl, rfl, rfl, yes ?_⟩
      refine ⟨_, rfl, _, rfl, x, d, z, rfl, hx.same (s3.trans s4), hft d (List.mem_of_getElem? hd), hfz z (List.mem_of_getElem? hz2), fun H5 s5 => ?_⟩
      have hpz : (ds.zip fs)[i]? = some (d, z) := by rw [List.getElem?_zip_eq_some]; exact ⟨hd, hz2⟩
      have hz5 := s5 _ _ (s4 _ _ hz3)
      refine ⟨_, hz5, small1000 (by rw [List.length_map, List.length_take]; omega), same_put ((s3.trans s4).trans s5) hD, ?_⟩
      rw [upd_same, List.take_add_one, hpz, List.map_append]; rfl
    · rintro H3 ⟨s3, hz3⟩
      rw [List.take_of_length_le (by omega)] at hz3
      refine ⟨Dl, (ds.zip fs).map fun q => partB q.2 q.1, rfl, SqL.of (by rw [List.map_map]; exact hz3), _, rfl, ?_⟩
      rw [List.all_map]
      have e0 : apD (some fs) ds = ((ds.zip fs).all (id ∘ fun q => partB q.2 q.1) && decide (nDist (grZ (ds.zip fs)) = (grZ (ds.zip fs)).length)) := by
        simp only [apD]
        rw [decide_eq_true c3, Bool.true_and]; rfl
      cases hall : (ds.zip fs).all (id ∘ fun q => partB q.2 q.1) with
      | false =>
        have q := q H3 s3
        rw [e0, hall] at q
        exact bT rfl q
      | true =>
        refine bF rfl ?_
        rw [hall, Bool.true_and] at e0
        rw [e0] at q
        unfold tNext
        dsimp only
        refine ⟨_, rfl, _, rfl, p, t, ys, fs.map V.str, rfl, .inr ⟨SqT.of (s3 _ _ ha), kt H3, fun D2 hD2 => ?_⟩⟩
        have sD2 := same_new (o := .lst []) hD2
        refine lc_it (walk_zipT2 (K := K) (a := p) (b := t) (xs := ys) (ys := fs.map V.str) hmin) (fun i H4 => Same H3 H4 ∧ H4 D2 = some (.lst ((grZ ((ds.zip fs).take i)).map V.int))) ⟨sD2, upd_same⟩ (fun i H4 _ h => ⟨SqT.of (h.1 _ _ (s3 _ _ ha)), kt H4⟩) ?_ ?_
        · rintro i v H4 H5 hi ⟨s4, hz4⟩ ⟨tt, x, y, rfl, nt, rfl, ex, ey⟩
          have ex : ys[i]? = some x := ex
          obtain ⟨d, hd, hx⟩ := hys.at ex
          obtain ⟨z, hz2, rfl⟩ : ∃ z, fs[i]? = some z ∧ y = V.str z := by
            have ey : (fs.map V.str)[i]? = some y := ey
            rw [List.getElem?_map] at ey
            cases h : fs[i]? with
            | none => rw [h] at ey; cases ey
            | some z => rw [h] at ey; exact ⟨z, rfl, (Option.some.inj ey).symm⟩
          have hpz : (ds.zip fs)[i]? = some (d, z) := by rw [List.getElem?_zip_eq_some]; exact ⟨hd, hz2⟩
          have hok : partB z d = true := List.all_eq_true.mp hall _ (List.mem_of_getElem? hpz)
          have s5 := same_new (o := .tup [x, .str z]) nt
          have eg : grZ ((ds.zip fs).take (i + 1)) = grZ ((ds.zip fs).take i) ++ (if z = ("granule" : Str) then intO d else none).toList := by
            rw [List.take_add_one, hpz]
            unfold grZ
            rw [List.filterMap_append]
            congr 1
          refine ⟨tt, [x, .str z], rfl, SqT.of upd_same, rfl, x, [.str z], rfl, .str z, [], rfl, rfl, rfl, ?_⟩
          refine ⟨_, rfl, rfl, _, rfl, ?_⟩
          by_cases cg : z = "granule"
          · refine ifT (by rw [cg]) ?_
            obtain ⟨i0, rfl⟩ : ∃ i0, d = .int i0 := by
              subst cg
              rw [show partB "granule" d = belD d 24 by simp only [partB]; rw [if_neg zz3, if_pos trivial]] at hok
              cases d <;> first | exact ⟨_, rfl⟩ | (simp [belD] at hok; done)
            cases hx
            refine ⟨_, rfl, _, s5 _ _ hz4, small1000 (by have := grZ_len ((ds.zip fs).take i); rw [List.length_take] at this; rw [List.length_map]; omega), same_put (s4.trans s5) hD2, ?_⟩
            rw [upd_same, eg, if_pos cg, List.map_append]; rfl
          · refine ifF (fun e => cg (V.str.inj e)) ⟨s4.trans s5, ?_⟩
            rw [eg, if_neg cg]
            simpa using s5 _ _ hz4
        · rintro H4 ⟨s4, hz4⟩
          rw [List.take_of_length_le (by omega)] at hz4
          have hgl : (grZ (ds.zip fs)).length ≤ 1000 := Nat.le_trans (grZ_len _) (by omega)
          refine ⟨_, rfl, D2, _, rfl, SqL.of hz4, by omega, _, rfl, D2, _, rfl, .inl (SqL.of hz4), rfl, ?_⟩
          have q := q H4 (s3.trans s4)
          rw [List.length_map]
          have e9 : decide (V.int (nDist (grZ (ds.zip fs)) : Int) = V.int ((grZ (ds.zip fs)).length : Int)) = decide (nDist (grZ (ds.zip fs)) = (grZ (ds.zip fs)).length) := by
            by_cases h : nDist (grZ (ds.zip fs)) = (grZ (ds.zip fs)).length
            · rw [h]; simp
            · rw [decide_eq_false h, decide_eq_false (fun z => h (by have := V.int.inj z; omega))]
          rw [e9]; exact q
  · have q := q H (Same.refl H)
    have e1 : apD (some fs) ds = false := by simp only [apD]; rw [decide_eq_false c3]; rfl
    rw [e1] at q
    exact bT (by simp; omega) q
abbrev s_is_move : Stmt := top 58
theorem sc_is_move : FnScope ["value"] ["value"] (C8.fnScope s_is_move) := C8.fnScope_by (by decide +kernel)
theorem ok_is_move (F : C8.Def K mg "is_move" s_is_move f fd) (b : Binds K fd ["value"] []) (T : Txt K mg w C) (c_has_name : C8.Cal P w K mg base 1 "has_name" (spHN C) []) (c_are_parts : C8.Cal P w K mg base 6 "are_parts" (spAP K C) []) : C8.Cal P w K mg base 7 "is_move" (spMv C) [] := by
  refine C8.cal0 F b .nil sc_is_move (fun vs H Q E h => ?_) (fun cdv A outer s H vs Q E hr h => ?_)
  · obtain ⟨x, d, rfl, _⟩ := h; rfl
  obtain ⟨x, d, rfl, hx, hok, q⟩ := h
  obtain ⟨g, es, n, gF, KD, hf⟩ := mv_at T.movs
  refine ⟨_, (pss_one (ps_ret (pe_and (C8.pe_c c_has_name hr (by first | decide | omega) rfl (pa_cons (pv 0) pa_nil)) (pe_one (C8.pe_c c_are_parts hr (by first | decide | omega) rfl (pa_cons (pe_slice sl_tupA (pv 0) (po_some pe_int) po_none) (pa_cons (pe_getW KD (C8.pe_gc rfl gF) (pe_ix ix_tup (pv 0) pe_int (fun _ _ => rfl))) pa_nil))))))), ?_⟩
  refine ⟨_, rfl, x, d, rfl, hx, _, rfl, ?_⟩
  cases hnm : nameD d with
  | false =>
    have e : movD d = false := by
      unfold movD
      split
      · simp [nameD] at hnm
      · rfl
    have q := q H (Same.refl H)
    rw [e] at q
    exact bF rfl q
  | true =>
    refine bT rfl ?_
    obtain ⟨k, ds, rfl⟩ : ∃ k ds, d = .tup (.str k :: ds) := by
      unfold nameD at hnm
      split at hnm
      · exact ⟨_, _, rfl⟩
      · cases hnm
    cases hx with
    | @tup a xs _ ha hxs =>
    cases hxs with
    | @cons y ys _ _ hy hys =>
    cases hy
    obtain ⟨hk, hlen, hft⟩ := hok
    refine ⟨_, rfl, 1, rfl, ?_⟩
    refine sl_goL ha fun H1 p s1 ep => ?_
    rw [show (1 : Int) = ((1 : Nat) : Int) from rfl, cut_from] at ep
    have ep : H1 p = some (.tup ys) := ep
    have ip : Is C H1 (.ref p) (.tup ds) := .tup ep (hys.same s1)
    rcases hf k hk with ⟨t, fs, e1, hns, kt, hz⟩ | ⟨e1, hns⟩
    · refine ⟨rfl, _, rfl, a, _, 0, _, rfl, rfl, SqT.of (s1 _ _ ha), atI_nat (j := 0) rfl, k, _, rfl, hns, (fun z => nomatch z), fun u hu => ⟨.ref t, (by cases hu; rfl), ?_⟩⟩
      refine ⟨p, .ref t, ds, some fs, rfl, ip, .inr ⟨t, fs, rfl, kt, rfl, hz⟩, hlen, hft, fun H2 s2 => ?_⟩
      have q := q H2 (s1.trans s2)
      rw [show movD (.tup (.str k :: ds)) = apD (some fs) ds by simp only [movD, e1]] at q
      exact q
    · refine ⟨rfl, _, rfl, a, _, 0, _, rfl, rfl, SqT.of (s1 _ _ ha), atI_nat (j := 0) rfl, k, _, rfl, hns, (fun _ => ?_), fun u hu => nomatch hu⟩
      refine ⟨p, .non, ds, none, rfl, ip, .inl ⟨rfl, rfl⟩, hlen, hft, fun H2 s2 => ?_⟩
      have q := q H2 (s1.trans s2)
      rw [show movD (.tup (.str k :: ds)) = apD none ds by simp only [movD, e1]] at q
      exact q
end
end Hc

namespace Hc
open PySem PySem.Spec PyProof.Rows L2 Hr
theorem inV3 (k p q r : Str) : inV (.str k) [.str p, .str q, .str r] = (decide (k = p) || decide (k = q) || decide (k = r)) := by
  have e : ∀ a b : Str, eqV (.str a) (.str b) = decide (b = a) := fun a b => by
    simp only [eqV]
    by_cases h : b = a
    · subst h; simp
    · rw [decide_eq_false h]; exact beq_eq_false_iff_ne.mpr fun z => h z.symm
  show ([V.str p, .str q, .str r].any fun y => eqV y (.str k)) = _
  simp only [List.any_cons, List.any_nil, e, Bool.or_false, Bool.or_assoc]
def argD (d : D) (i : Nat) : D := match d with | .tup ds => ds.getD i .non | _ => .non
def numF (d : D) : Bool := formB d "freezing" 2 || formB d "frozen" 2 || formB d "gone" 3
def numO (d : D) : D := if numF d = true then argD d 1 else .non
def isTk : D → Bool | .atom k _ => decide (k = "ticket") | _ => false
def isNn : D → Bool | .non => true | _ => false
def sealB : D → Bool | .atom k es => decide (k = "seal") && !isNn (es.getD 3 .non) | _ => false
def posN : D → Bool | .int i => numOk i && decide (0 < i) | _ => false
def isTu2 : D → Bool | .tup _ => true | _ => false
def stD (d : D) : Bool := match d with
  | .str k => decide (k = "new") || decide (k = "active") || decide (k = "dying")
  | d => if formB d "coming" 3 = true then isTk (argD d 1) && (isTu2 (argD d 2) && okW 40 40 0 (argD d 2)) else if (formB d "gone" 3 && !isTxt (argD d 2)) = true then false else posN (numO d)
def spNum (C : Addr) : Sp := fun vs H Q _ => ∃ x d, vs = [x] ∧ Is C H x d ∧ (numF d = false → Q .non H) ∧ (numF d = true → ∀ a xs y, x = .ref a → H a = some (.tup xs) → xs[1]? = some y → Q y H)
def spTk (C : Addr) : Sp := fun vs H Q _ => ∃ x d, vs = [x] ∧ Is C H x d ∧ (isTk d = false → Q .non H) ∧ (∀ es t, d = .atom "ticket" es → Is C H (.ref t) (.tup es) → Q (.ref t) H)
def spSl (C : Addr) : Sp := fun vs H Q _ => ∃ x d, vs = [x] ∧ Is C H x d ∧ (∀ es, d = .atom "seal" es → es.length = 4) ∧ (sealB d = false → Q .non H) ∧ (∀ es t, d = .atom "seal" es → sealB d = true → Is C H (.ref t) (.tup es) → Q (.ref t) H)
def spSt (C : Addr) : Sp := fun vs H Q _ => ∃ x d, vs = [x] ∧ Is C H x d ∧ Fit d ∧ ∀ H', Same H H' → Q (.bl (stD d)) H'
theorem formB_tup {d : D} {nm : Str} {m : Int} (h : formB d nm m = true) : ∃ es, d = .tup (.str nm :: es) ∧ ((es.length + 1 : Nat) : Int) = m := by
  unfold formB at h
  split at h
  · rename_i k es
    simp only [Bool.and_eq_true, decide_eq_true_eq] at h
    exact ⟨es, by rw [h.2], h.1⟩
  · cases h
theorem numF_len {d : D} (h : numF d = true) : ∃ k e es, d = .tup (.str k :: e :: es) := by
  unfold numF at h
  simp only [Bool.or_eq_true] at h
  have go : ∀ (nm : Str) (m : Int), 1 < m → formB d nm m = true → ∃ k e es, d = .tup (.str k :: e :: es) := fun nm m hm hb => by
    obtain ⟨es, rfl, hl⟩ := formB_tup hb
    cases es with
    | nil => simp at hl; omega
    | cons e es => exact ⟨_, _, _, rfl⟩
  rcases h with (h | h) | h
  · exact go _ _ (by decide) h
  · exact go _ _ (by decide) h
  · exact go _ _ (by decide) h
section
variable {P : Program} {w : World} {K : PySem.W.Frag} {mg : Str → Option Value} {base : Heap} {f : Addr} {fd : FuncData} {C : Addr}
abbrev s_number_of : Stmt := top 62
theorem sc_number_of : FnScope ["state"] ["state"] (C8.fnScope s_number_of) := C8.fnScope_by (by decide +kernel)
theorem ok_number_of (F : C8.Def K mg "number_of" s_number_of f fd) (b : Binds K fd ["state"] []) (T : Txt K mg w C) (c_is_form : C8.Cal P w K mg base 1 "is_form" (spForm C) []) : C8.Cal P w K mg base 2 "number_of" (spNum C) [] := by
  refine C8.cal0 F b .nil sc_number_of (fun vs H Q E h => ?_) (fun cdv A outer s H vs Q E hr h => ?_)
  · obtain ⟨x, d, rfl, _⟩ := h; rfl
  obtain ⟨x, d, rfl, hx, q1, q2⟩ := h
  refine ⟨_, (pss_cons (ps_if (PW.pt (pw_or (pt_val (C8.pe_c c_is_form hr (by first | decide | omega) rfl (pa_cons (pv 0) (pa_cons pe_str (pa_cons pe_int pa_nil))))) (pw_or (pt_val (C8.pe_c c_is_form hr (by first | decide | omega) rfl (pa_cons (pv 0) (pa_cons pe_str (pa_cons pe_int pa_nil))))) (pw_or1 (pt_val (C8.pe_c c_is_form hr (by first | decide | omega) rfl (pa_cons (pv 0) (pa_cons pe_str (pa_cons pe_int pa_nil))))))))) (pss_one (ps_ret (pe_ix ix_tup (pv 0) pe_int (fun _ _ => rfl)))) pss_nil)
      (pss_one (ps_ret pe_non))), ?_⟩
  have fin : numF d = true → tRet (tOp (rIxT K) (tVar 0) (tC (.int 1))) { nx := fun _ H' => Q .non H', rt := Q } (L2.start ["state"] [x]) H := fun h => by
    obtain ⟨k, e, es, rfl⟩ := numF_len h
    cases hx with
    | @tup a xs _ ha hxs =>
    cases hxs with
    | @cons y ys _ _ hy hys => cases hys with
    | @cons y2 ys _ _ hy2 hys =>
    exact ⟨_, rfl, a, _, 1, _, rfl, rfl, SqT.of ha, atI_nat (j := 1) rfl, q2 h a _ y2 rfl ha rfl⟩
  refine ⟨_, rfl, x, d, _, 2, rfl, hx, by decide, _, rfl, bcase (fun h1 => fin (by unfold numF; rw [h1]; rfl)) (fun h1 => ?_)⟩
  refine ⟨_, rfl, x, d, _, 2, rfl, hx, by decide, _, rfl, bcase (fun h2 => fin (by unfold numF; rw [h1, h2]; rfl)) (fun h2 => ?_)⟩
  refine ⟨_, rfl, x, d, _, 3, rfl, hx, by decide, _, rfl, bcase (fun h3 => fin (by unfold numF; rw [h1, h2, h3]; rfl)) (fun h3 => ?_)⟩
  exact q1 (by unfold numF; rw [h1, h2, h3]; rfl)
abbrev s_ticket_parts : Stmt := top 60
theorem sc_ticket_parts : FnScope ["word"] ["word"] (C8.fnScope s_ticket_parts) := C8.fnScope_by (by decide +kernel)
theorem ok_ticket_parts (F : C8.Def K mg "ticket_parts" s_ticket_parts f fd) (b : Binds K fd ["word"] []) (T : Txt K mg w C) : C8.Cal P w K mg base 1 "ticket_parts" (spTk C) [] := by
  refine C8.cal0 F b .nil sc_ticket_parts (fun vs H Q E h => ?_) (fun cdv A outer s H vs Q E hr h => ?_)
  · obtain ⟨x, d, rfl, _⟩ := h; rfl
  obtain ⟨x, d, rfl, hx, q1, q2⟩ := h
  refine ⟨_, (pss_cons (ps_if (PW.pt (pw_and (pt_cmpR (op_isTyA (C := C)) (pe_callTy (call_typeA (C := C)) rfl T.z_type bt_type (pa_cons (pv 0) pa_nil)) (pe_glob (v := .ref C) rfl T.g_Atom rfl) (nomark _)) (pw_and1 (pt_cmpR op_eq (pe_fld (pv 0) rfl) pe_str (nomark _))))) (pss_one (ps_ret (pe_fld (pv 0) rfl))) pss_nil)
      (pss_one (ps_ret pe_non))), ?_⟩
  refine ⟨_, rfl, x, d, rfl, hx, kyV_ok d, .inr rfl, _, rfl, ?_⟩
  by_cases c : kyV C d = .ref C
  · refine ifT c ?_
    obtain ⟨k, es, rfl⟩ := kyV_atom.mp c
    cases hx with
    | @atom a dx t _ xs _ h h2 i =>
    refine ⟨_, rfl, a, C, dx, _, .str k, rfl, h, T.cl.cl, T.cl.nK, rfl, rfl, _, rfl, ?_⟩
    by_cases c2 : k = "ticket"
    · subst c2
      exact ifT rfl ⟨_, rfl, a, C, dx, _, .ref t, rfl, h, T.cl.cl, T.cl.nT, rfl, q2 es t rfl (.tup h2 i)⟩
    · exact ifF (fun z => c2 (V.str.inj z)) (q1 (decide_eq_false c2))
  · have e : isTk d = false := by cases d <;> first | rfl | exact absurd rfl c
    exact ifF c (q1 e)
abbrev s_seal_parts : Stmt := top 61
theorem sc_seal_parts : FnScope ["word"] ["word"] (C8.fnScope s_seal_parts) := C8.fnScope_by (by decide +kernel)
theorem ok_seal_parts (F : C8.Def K mg "seal_parts" s_seal_parts f fd) (b : Binds K fd ["word"] []) (T : Txt K mg w C) : C8.Cal P w K mg base 1 "seal_parts" (spSl C) [] := by
  refine C8.cal0 F b .nil sc_seal_parts (fun vs H Q E h => ?_) (fun cdv A outer s H vs Q E hr h => ?_)
  · obtain ⟨x, d, rfl, _⟩ := h; rfl
  obtain ⟨x, d, rfl, hx, h4, q1, q2⟩ := h
  refine ⟨_, (pss_cons (ps_if (PW.pt (pw_and (pt_cmpR (op_isTyA (C := C)) (pe_callTy (call_typeA (C := C)) rfl T.z_type bt_type (pa_cons (pv 0) pa_nil)) (pe_glob (v := .ref C) rfl T.g_Atom rfl) (nomark _)) (pw_and (pt_cmpR op_eq (pe_fld (pv 0) rfl) pe_str (nomark _)) (pw_and1 (pt_cmpR op_notN (pe_ix ix_tup (pe_fld (pv 0) rfl) pe_int (fun _ _ => rfl)) pe_non (nomark _)))))) (pss_one (ps_ret (pe_fld (pv 0) rfl))) pss_nil)
      (pss_one (ps_ret pe_non))), ?_⟩
  refine ⟨_, rfl, x, d, rfl, hx, kyV_ok d, .inr rfl, _, rfl, ?_⟩
  by_cases c : kyV C d = .ref C
  · refine ifT c ?_
    obtain ⟨k, es, rfl⟩ := kyV_atom.mp c
    cases hx with
    | @atom a dx t _ xs _ h h2 i =>
    refine ⟨_, rfl, a, C, dx, _, .str k, rfl, h, T.cl.cl, T.cl.nK, rfl, rfl, _, rfl, ?_⟩
    by_cases c2 : k = "seal"
    · subst c2
      have hl := h4 es rfl
      obtain ⟨e, he⟩ : ∃ e, es[3]? = some e := ⟨es[3]'(by omega), List.getElem?_eq_getElem _⟩
      obtain ⟨y, hy, iy⟩ := i.get he
      have eg : es.getD 3 .non = e := by rw [List.getD_eq_getElem?_getD, he]; rfl
      refine ifT rfl ⟨_, rfl, a, C, dx, _, .ref t, rfl, h, T.cl.cl, T.cl.nT, rfl, t, xs, 3, y, rfl, rfl, SqT.of h2, atI_nat (j := 3) hy, rfl, _, rfl, ?_⟩
      by_cases c3 : y = .non
      · subst c3
        cases iy
        exact bF rfl (q1 (by simp only [sealB, eg, isNn]; rfl))
      · have : isNn e = false := by cases iy <;> first | rfl | exact absurd rfl c3
        refine bT (by rw [decide_eq_false c3]; rfl) ⟨_, rfl, a, C, dx, _, .ref t, rfl, h, T.cl.cl, T.cl.nT, rfl, q2 es t rfl (by simp only [sealB, eg, this]; rfl) (.tup h2 i)⟩
    · exact ifF (fun z => c2 (V.str.inj z)) (q1 (by simp only [sealB]; rw [decide_eq_false c2]; rfl))
  · have e : sealB d = false := by cases d <;> first | rfl | exact absurd rfl c
    exact ifF c (q1 e)
abbrev s_is_state : Stmt := top 59
theorem sc_is_state : FnScope ["value", "n"] ["value"] (C8.fnScope s_is_state) := C8.fnScope_by (by decide +kernel)
theorem ok_is_state (F : C8.Def K mg "is_state" s_is_state f fd) (b : Binds K fd ["value"] []) (T : Txt K mg w C) (c_is_form : C8.Cal P w K mg base 1 "is_form" (spForm C) []) (c_ticket_parts : C8.Cal P w K mg base 1 "ticket_parts" (spTk C) []) (c_is_word : C8.Cal P w K mg base 3 "is_word" (spB C Fit (okW 40 40 0)) [])
    (c_is_text : C8.Cal P w K mg base 1 "is_text" (spB C (fun d => ∀ s, d = .str s → s.length ≤ sizeLine) isTxt) []) (c_number_of : C8.Cal P w K mg base 2 "number_of" (spNum C) []) (c_is_number : C8.Cal P w K mg base 1 "is_number" (spB C (fun _ => True) isNum) []) : C8.Cal P w K mg base 4 "is_state" (spSt C) [] := by
  refine C8.cal0 F b .nil sc_is_state (fun vs H Q E h => ?_) (fun cdv A outer s H vs Q E hr h => ?_)
  · obtain ⟨x, d, rfl, _⟩ := h; rfl
  obtain ⟨x, d, rfl, hx, hft, q⟩ := h
  refine ⟨_, (pss_cons (ps_if (pt_cmpR (op_isTyA (C := C)) (pe_callTy (call_typeA (C := C)) rfl T.z_type bt_type (pa_cons (pv 0) pa_nil)) (pe_bltn (v := .ty "str") rfl T.z_str bt_str rfl) (nomark _)) (pss_one (ps_ret (pe_cmpR op_in_seq (pv 0) (pe_tup (pa_cons pe_str (pa_cons pe_str (pa_cons pe_str pa_nil)))) (by with_unfolding_all rfl)))) pss_nil)
      (pss_cons (ps_if (pt_val (C8.pe_c c_is_form hr (by first | decide | omega) rfl (pa_cons (pv 0) (pa_cons pe_str (pa_cons pe_int pa_nil))))) (pss_one (ps_ret (pe_and (pe_cmpR op_notN (C8.pe_c c_ticket_parts hr (by first | decide | omega) rfl (pa_cons (pe_ix ix_tup (pv 0) pe_int (fun _ _ => rfl)) pa_nil)) pe_non (nomark _)) (pe_and (pe_cmpR (op_isTyA (C := C)) (pe_callTy (call_typeA (C := C)) rfl T.z_type bt_type (pa_cons (pe_ix ix_tup (pv 0) pe_int (fun _ _ => rfl)) pa_nil)) (pe_bltn (v := .ty "tuple") rfl T.z_tuple bt_tuple rfl) (nomark _)) (pe_one (C8.pe_c c_is_word hr (by first | decide | omega) rfl (pa_cons (pe_ix ix_tup (pv 0) pe_int (fun _ _ => rfl)) pa_nil))))))) pss_nil)
      (pss_cons (ps_if (PW.pt (pw_and (pt_val (C8.pe_c c_is_form hr (by first | decide | omega) rfl (pa_cons (pv 0) (pa_cons pe_str (pa_cons pe_int pa_nil))))) (pw_and1 (pt_not (pt_val (C8.pe_c c_is_text hr (by first | decide | omega) rfl (pa_cons (pe_ix ix_tup (pv 0) pe_int (fun _ _ => rfl)) pa_nil))))))) (pss_one (ps_ret pe_bl)) pss_nil)
      (pss_cons (ps_set (i := 1) sc_is_state.nd rfl (Or.inl rfl) (C8.pe_c c_number_of hr (by first | decide | omega) rfl (pa_cons (pv 0) pa_nil)))
      (pss_one (ps_ret (pe_and (C8.pe_c c_is_number hr (by first | decide | omega) rfl (pa_cons (pv 1) pa_nil)) (pe_one (pe_cmpR op_gt (pv 1) pe_int (nomark _)))))))))), ?_⟩
  refine ⟨_, rfl, x, d, rfl, hx, kyV_ok d, .inl ⟨_, rfl⟩, _, rfl, ?_⟩
  by_cases cs : kyV C d = .ty "str"
  · obtain ⟨k, rfl⟩ := kyV_str.mp cs
    cases hx
    refine ifT cs ⟨_, rfl, (by show 3 ≤ sizeLine; decide), fun m hm => ?_⟩
    refine ⟨m, _, rfl, .inr (SqT.of upd_same), rfl, rfl, ?_⟩
    show Q (.bl (inV (.str k) [.str "new", .str "active", .str "dying"])) _
    rw [inV3]
    exact q _ (same_new (o := .tup [.str "new", .str "active", .str "dying"]) hm)
  refine ifF cs ?_
  have q0 : ∀ b, stD d = b → ∀ H', Same H H' → Q (.bl b) H' := fun b e H' s' => by rw [← e]; exact q H' s'
  have eD : stD d = if formB d "coming" 3 = true then isTk (argD d 1) && (isTu2 (argD d 2) && okW 40 40 0 (argD d 2)) else if (formB d "gone" 3 && !isTxt (argD d 2)) = true then false else posN (numO d) := by
    unfold stD
    split
    · exact absurd rfl cs
    · rfl
  unfold tNext
  dsimp only
  refine ⟨_, rfl, x, d, _, 3, rfl, hx, by decide, _, rfl, bcase (fun h1 => ?_) (fun h1 => ?_)⟩
  · rw [if_pos h1] at eD
    obtain ⟨es, rfl, hl⟩ := formB_tup h1
    match es, hl with
    | [e1, e2], _ =>
    cases hx with
    | @tup a xs _ ha hxs =>
    cases hxs with
    | @cons y0 _ _ _ i0 hxs => cases hxs with
    | @cons y1 _ _ _ i1 hxs => cases hxs with
    | @cons y2 _ _ _ i2 hxs =>
    cases hxs
    have a1 : argD (.tup [.str "coming", e1, e2]) 1 = e1 := rfl
    have a2 : argD (.tup [.str "coming", e1, e2]) 2 = e2 := rfl
    rw [a1, a2] at eD
    refine ⟨_, rfl, a, _, 1, y1, rfl, rfl, SqT.of ha, atI_nat (j := 1) rfl, y1, e1, rfl, i1, fun hno => ?_, fun es t he it => ?_⟩
    · refine ⟨rfl, _, rfl, bF (by simp) ?_⟩
      exact q0 _ (by rw [eD, hno]; rfl) H (Same.refl H)
    · subst he
      refine ⟨rfl, _, rfl, bT (by simp) ?_⟩
      have eD : stD (.tup [.str "coming", .atom "ticket" es, e2]) = (isTu2 e2 && okW 40 40 0 e2) := by rw [eD]; rfl
      refine ⟨_, rfl, a, _, 2, y2, rfl, rfl, SqT.of ha, atI_nat (j := 2) rfl, y2, e2, rfl, i2, kyV_ok e2, .inl ⟨_, rfl⟩, _, rfl, ?_⟩
      by_cases ct : kyV C e2 = .ty "tuple"
      · have e3 : isTu2 e2 = true := by obtain ⟨g, rfl⟩ := kyV_tup.mp ct; rfl
        refine ifT ct ⟨_, rfl, a, _, 2, y2, rfl, rfl, SqT.of ha, atI_nat (j := 2) rfl, y2, e2, rfl, i2, Fit.part hft (by simp), fun H' s' => ?_⟩
        exact q0 _ (by rw [eD, e3, Bool.true_and]) H' s'
      · have e3 : isTu2 e2 = false := by cases e2 <;> first | rfl | exact absurd rfl ct
        exact ifF ct (q0 _ (by rw [eD, e3]; rfl) H (Same.refl H))
  rw [if_neg (by rw [h1]; simp)] at eD
  dsimp only
  have tail : ∀ H1, Same H H1 → stD d = posN (numO d) → (tSeq (tAsg (tCall (spNum C) [] C8.E0 (tCons (tVar 0) tNil)) (gName 1))
              (tRet
                (tAndV (tCall (spB C (fun x => True) isNum) [] C8.E0 (tCons (tVar 1) tNil))
                  (tOp (rI0 fun i j => V.bl (decide (j < i))) (tVar 1) (tC (V.int 0)))))) { nx := fun x H' => Q V.non H', rt := Q } (L2.start ["value", "n"] [x]) H1 := fun H1 s1 e9 => by
    have fin : ∀ y, Is C H1 y (numO d) → (tRet
                (tAndV (tCall (spB C (fun x => True) isNum) [] C8.E0 (tCons (tVar 1) tNil))
                  (tOp (rI0 fun i j => V.bl (decide (j < i))) (tVar 1) (tC (V.int 0))))) { nx := fun x H' => Q V.non H', rt := Q } [some x, some y] H1 := fun y iy => by
      refine ⟨_, rfl, y, numO d, rfl, iy, trivial, fun H2 s2 => ⟨_, rfl, bcase (fun c => ?_) (fun c => ?_)⟩⟩
      · cases hn : numO d with
        | int i =>
          rw [hn] at iy c
          cases iy
          refine ⟨_, rfl, i, 0, rfl, rfl, ?_⟩
          refine q0 _ ?_ H2 (s1.trans s2)
          rw [e9, hn]
          simp only [posN]
          rw [show numOk i = true from c, Bool.true_and]
        | _ => rw [hn] at c; cases c
      · refine q0 _ ?_ H2 (s1.trans s2)
        rw [e9]
        cases hn : numO d with
        | int i => rw [hn] at c; simp only [posN]; rw [show numOk i = false from c]; rfl
        | _ => rfl
    refine ⟨_, rfl, x, d, rfl, hx.same s1, fun h => ?_, fun h a xs y hxe ha hy => ?_⟩
    · exact fin .non (by unfold numO; rw [if_neg (by rw [h]; simp)]; exact .non)
    · refine fin y ?_
      unfold numO
      rw [if_pos h]
      obtain ⟨k, e, es, rfl⟩ := numF_len h
      subst hxe
      cases hx.same s1 with
      | @tup _ xs' _ ha' hxs =>
      rw [ha] at ha'
      cases ha'
      obtain ⟨z, hz, iz⟩ := hxs.get (i := 1) (d := e) rfl
      rw [hy] at hz
      cases hz
      exact iz
  refine ⟨_, rfl, x, d, _, 3, rfl, hx, by decide, _, rfl, bcase (fun h2 => ?_) (fun h2 => ?_)⟩
  · obtain ⟨es, rfl, hl⟩ := formB_tup h2
    match es, hl with
    | [e1, e2], _ =>
    have hx' := hx
    cases hx with
    | @tup a xs _ ha hxs =>
    cases hxs with
    | @cons y0 _ _ _ i0 hxs => cases hxs with
    | @cons y1 _ _ _ i1 hxs => cases hxs with
    | @cons y2 _ _ _ i2 hxs =>
    cases hxs
    have a2 : argD (.tup [.str "gone", e1, e2]) 2 = e2 := rfl
    rw [a2, h2, Bool.true_and] at eD
    refine ⟨_, rfl, a, _, 2, y2, rfl, rfl, SqT.of ha, atI_nat (j := 2) rfl, y2, e2, rfl, i2, (fun s hs => by subst hs; exact (Fit.part hft (d := .str s) (by simp)).2), fun H' s' => ⟨_, rfl, ?_⟩⟩
    cases h3 : isTxt e2 with
    | true => exact bF rfl (tail H' s' (by rw [eD, h3]; rfl))
    | false => exact bT rfl (q0 _ (by rw [eD, h3]; rfl) H' s')
  · exact (tail H (Same.refl H) (by rw [eD, h2]; rfl))
end
end Hc

namespace Hc
open PySem PySem.Spec PyProof.Rows L2 Hr
def shK7 : List (Key × V) := [(.inr "freeze", .str "g"), (.inr "thaw", .str "g"), (.inr "seal", .str "gp"), (.inr "seal_cpu", .str "gg"), (.inr "give", .str "gt"), (.inr "ticket", .str "g"), (.inr "come", .str "ggw")]
def shK8 : List (Key × V) := [(.inr "freeze", .str "g"), (.inr "thaw", .str "g"), (.inr "seal", .str "gp"), (.inr "seal_cpu", .str "gg"), (.inr "give", .str "gt"), (.inr "ticket", .str "g"), (.inr "come", .str "ggw"), (.inr "place", .str "ggpw")]
def shK9 : List (Key × V) := [(.inr "freeze", .str "g"), (.inr "thaw", .str "g"), (.inr "seal", .str "gp"), (.inr "seal_cpu", .str "gg"), (.inr "give", .str "gt"), (.inr "ticket", .str "g"), (.inr "come", .str "ggw"), (.inr "place", .str "ggpw"), (.inr "strike", .str "gp")]
def shK10 : List (Key × V) := [(.inr "freeze", .str "g"), (.inr "thaw", .str "g"), (.inr "seal", .str "gp"), (.inr "seal_cpu", .str "gg"), (.inr "give", .str "gt"), (.inr "ticket", .str "g"), (.inr "come", .str "ggw"), (.inr "place", .str "ggpw"), (.inr "strike", .str "gp"), (.inr "place_cpu", .str "ggw")]
def shK11 : List (Key × V) := [(.inr "freeze", .str "g"), (.inr "thaw", .str "g"), (.inr "seal", .str "gp"), (.inr "seal_cpu", .str "gg"), (.inr "give", .str "gt"), (.inr "ticket", .str "g"), (.inr "come", .str "ggw"), (.inr "place", .str "ggpw"), (.inr "strike", .str "gp"), (.inr "place_cpu", .str "ggw"), (.inr "begin", .str "g")]
def spShp : Sp := fun vs H Q _ => vs = [] ∧ ∀ H' d, Same H H' → H d = none → H' d = some (.dK shK11) → Q (.ref d) H'
theorem at_of {C : Addr} {H : Hp} {o dx t : Addr} {k : Str} {es : List D} (h : H o = some (.ins C dx (atF k t (rank (.atom k es))))) (i : Is C H (.ref t) (.tup es)) : Is C H (.ref o) (.atom k es) := by
  cases i with
  | @tup _ ts _ e3 i3 => exact .atom h e3 i3
theorem at_in {C : Addr} {H : Hp} {o : Addr} {k : Str} {es : List D} (i : Is C H (.ref o) (.atom k es)) : ∃ dx t, H o = some (.ins C dx (atF k t (rank (.atom k es)))) ∧ Is C H (.ref t) (.tup es) := by
  cases i with
  | @atom _ dx t _ xs _ h h2 i => exact ⟨dx, t, h, .tup h2 i⟩
section
variable {P : Program} {w : World} {K : PySem.W.Frag} {mg : Str → Option Value} {base : Heap} {f : Addr} {fd : FuncData} {C : Addr}
abbrev s__law_shapes : Stmt := top 67
theorem sc__law_shapes : FnScope ["rows"] [] (C8.fnScope s__law_shapes) := C8.fnScope_by (by decide +kernel)
theorem ok__law_shapes (F : C8.Def K mg "_law_shapes" s__law_shapes f fd) (b : Binds K fd [] []) (T : Txt K mg w C) : C8.Cal P w K mg base 1 "_law_shapes" spShp [] := by
  refine C8.cal0 F b .nil sc__law_shapes (fun vs H Q E h => ?_) (fun cdv A outer s H vs Q E hr h => ?_)
  · obtain ⟨rfl, _⟩ := h; rfl
  obtain ⟨rfl, q⟩ := h
  refine ⟨_, (pss_cons (ps_set (i := 0) sc__law_shapes.nd rfl (Or.inl rfl) (pe_disp (pps_cons pe_str pe_str (pps_cons pe_str pe_str (pps_cons pe_str pe_str (pps_cons pe_str pe_str (pps_cons pe_str pe_str (pps_cons pe_str pe_str (pps_cons pe_str pe_str pps_nil))))))) rfl rfl (List.cons_ne_nil _ _) (by decide)))
      (pss_cons (ps_dput (ru hr) (pv 0) pe_str pe_str rfl)
      (pss_cons (ps_dput (ru hr) (pv 0) pe_str pe_str rfl)
      (pss_cons (ps_dput (ru hr) (pv 0) pe_str pe_str rfl)
      (pss_cons (ps_dput (ru hr) (pv 0) pe_str pe_str rfl)
      (pss_one (ps_ret (pv 0)))))))), ?_⟩
  intro d hd
  have s1 := same_new (o := .dK []) hd
  refine ⟨upd_same, shK7, rfl, by show 7 ≤ 15; decide, ?_⟩
  have em : mergeK [] shK7 = shK7 := by decide +kernel
  rw [em]
  refine ⟨_, rfl, d, _, rfl, (DPut.k (k := .inr "place") (v := .str "ggpw") upd_same (Nat.lt_of_lt_of_le (show 7 < 1000001 by decide) (by decide))), ?_⟩
  have ep : putK shK7 (.inr "place") (.str "ggpw") = shK8 := by decide +kernel
  rw [ep]
  refine ⟨_, rfl, d, _, rfl, (DPut.k (k := .inr "strike") (v := .str "gp") upd_same (Nat.lt_of_lt_of_le (show 8 < 1000001 by decide) (by decide))), ?_⟩
  have ep : putK shK8 (.inr "strike") (.str "gp") = shK9 := by decide +kernel
  rw [ep]
  refine ⟨_, rfl, d, _, rfl, (DPut.k (k := .inr "place_cpu") (v := .str "ggw") upd_same (Nat.lt_of_lt_of_le (show 9 < 1000001 by decide) (by decide))), ?_⟩
  have ep : putK shK9 (.inr "place_cpu") (.str "ggw") = shK10 := by decide +kernel
  rw [ep]
  refine ⟨_, rfl, d, _, rfl, (DPut.k (k := .inr "begin") (v := .str "g") upd_same (Nat.lt_of_lt_of_le (show 10 < 1000001 by decide) (by decide))), ?_⟩
  have ep : putK shK10 (.inr "begin") (.str "g") = shK11 := by decide +kernel
  rw [ep]
  refine ⟨_, rfl, q _ d (same_put (same_put (same_put (same_put (same_put s1 hd) hd) hd) hd) hd) hd upd_same⟩
end
end Hc

set_option maxHeartbeats 8000000
namespace Hc
open PySem PySem.Spec PyProof.Rows L2 Hr
abbrev sealE : List D := [.str "m", .int 2, .int 3, .tup [.int 1, .non, .str "x", .tup []]]
abbrev bareE : List D := [.str "m", .int 2, .int 3, .non]
abbrev tickE : List D := [.str "m", .int 2, .str "n", .tup [], .tup [.str "data", .non, .non, .non, .non, .non, .non, .non], .tup [.int 9, .int 12]]
abbrev chE : List D := [.str "v", .int 0]
abbrev tokE : List D := [.str "m", .tup [], .int 1]
abbrev wordsD : List D := [.atom "seal" sealE, .atom "seal" bareE, .atom "ticket" tickE, .atom "challenge" chE, .atom "token" tokE, .non, .int 5, .str "ticket", .tup tickE, .tup sealE, .tup []]
theorem okSeal : isTermK "seal" sealE = true ∧ rank (.atom "seal" sealE) ≤ mostR "seal" ∧ Fit (.tup sealE) := ⟨by decide +kernel, by decide +kernel, by decide +kernel, by simp only [txl, txlL]; decide +kernel⟩
theorem okBare : isTermK "seal" bareE = true ∧ rank (.atom "seal" bareE) ≤ mostR "seal" ∧ Fit (.tup bareE) := ⟨by decide +kernel, by decide +kernel, by decide +kernel, by simp only [txl, txlL]; decide +kernel⟩
theorem okTick : isTermK "ticket" tickE = true ∧ rank (.atom "ticket" tickE) ≤ mostR "ticket" ∧ Fit (.tup tickE) := ⟨by decide +kernel, by decide +kernel, by decide +kernel, by simp only [txl, txlL]; decide +kernel⟩
theorem okCh : isTermK "challenge" chE = true ∧ rank (.atom "challenge" chE) ≤ mostR "challenge" ∧ Fit (.tup chE) := ⟨by decide +kernel, by decide +kernel, by decide +kernel, by simp only [txl, txlL]; decide +kernel⟩
theorem okTok : isTermK "token" tokE = true ∧ rank (.atom "token" tokE) ≤ mostR "token" ∧ Fit (.tup tokE) := ⟨by decide +kernel, by decide +kernel, by decide +kernel, by simp only [txl, txlL]; decide +kernel⟩
def spWds (C : Addr) : Sp := fun vs H Q _ => vs = [] ∧ ∀ H' l xs, Same H H' → H l = none → H' l = some (.lst xs) → IsA C H' xs wordsD → Q (.ref l) H'
section
variable {P : Program} {w : World} {K : PySem.W.Frag} {mg : Str → Option Value} {base : Heap} {f : Addr} {fd : FuncData} {C : Addr}
abbrev s__law_words : Stmt := top 68
theorem sc__law_words : FnScope ["seal", "bare", "ticket"] [] (C8.fnScope s__law_words) := C8.fnScope_by (by decide +kernel)
theorem ok__law_words (F : C8.Def K mg "_law_words" s__law_words f fd) (b : Binds K fd [] []) (T : Txt K mg w C) (k_Atom : C8.Mak P w K mg base 5 "Atom" C (spInit C) []) : C8.Cal P w K mg base 7 "_law_words" (spWds C) [] := by
  refine C8.cal0 F b .nil sc__law_words (fun vs H Q E h => ?_) (fun cdv A outer s H vs Q E hr h => ?_)
  · obtain ⟨rfl, _⟩ := h; rfl
  obtain ⟨rfl, q⟩ := h
  refine ⟨_, (pss_cons (ps_set (i := 0) sc__law_words.nd rfl (Or.inl rfl) (C8.pe_mk k_Atom hr (by first | decide | omega) rfl (pa_cons pe_str (pa_cons (pe_tup (pa_cons pe_str (pa_cons pe_int (pa_cons pe_int (pa_cons (pe_tup (pa_cons pe_int (pa_cons pe_non (pa_cons pe_str (pa_cons (pe_tup pa_nil) pa_nil))))) pa_nil))))) pa_nil))))
      (pss_cons (ps_set (i := 1) sc__law_words.nd rfl (Or.inl rfl) (C8.pe_mk k_Atom hr (by first | decide | omega) rfl (pa_cons pe_str (pa_cons (pe_tup (pa_cons pe_str (pa_cons pe_int (pa_cons pe_int (pa_cons pe_non pa_nil))))) pa_nil))))
      (pss_cons (ps_set (i := 2) sc__law_words.nd rfl (Or.inl rfl) (C8.pe_mk k_Atom hr (by first | decide | omega) rfl (pa_cons pe_str (pa_cons (pe_tup (pa_cons pe_str (pa_cons pe_int (pa_cons pe_str (pa_cons (pe_tup pa_nil) (pa_cons (pe_op op_catA (pe_tup (pa_cons pe_str pa_nil)) (pe_op op_repT (pe_tup (pa_cons pe_non pa_nil)) pe_int)) (pa_cons (pe_tup (pa_cons pe_int (pa_cons pe_int pa_nil))) pa_nil))))))) pa_nil))))
      (pss_one (ps_ret (pe_lst (pa_cons (pv 0) (pa_cons (pv 1) (pa_cons (pv 2) (pa_cons (C8.pe_mk k_Atom hr (by first | decide | omega) rfl (pa_cons pe_str (pa_cons (pe_tup (pa_cons pe_str (pa_cons pe_int pa_nil))) pa_nil))) (pa_cons (C8.pe_mk k_Atom hr (by first | decide | omega) rfl (pa_cons pe_str (pa_cons (pe_tup (pa_cons pe_str (pa_cons (pe_tup pa_nil) (pa_cons pe_int pa_nil)))) pa_nil))) (pa_cons pe_non (pa_cons pe_int (pa_cons pe_str (pa_cons (pe_fld (pv 2) rfl) (pa_cons (pe_fld (pv 0) rfl) (pa_cons (pe_tup pa_nil) pa_nil))))))))))))))))), ?_⟩
  have st := Same.refl H
  refine ⟨(by show 0 ≤ sizeLine; decide), fun u0 h_u0 => ?_⟩
  have m_u0 := same_new (o := .tup []) h_u0
  have st := st.trans m_u0
  have e_u0 : (upd H u0 (.tup [])) u0 = some (.tup []) := upd_same
  have i_u0 : Is C (upd H u0 (.tup [])) (.ref u0) (.tup []) := .tup e_u0 .nil
  generalize upd H u0 (.tup []) = G1 at *
  refine ⟨(by show 4 ≤ sizeLine; decide), fun u1 h_u1 => ?_⟩
  have m_u1 := same_new (o := .tup [.int 1, .non, .str "x", .ref u0]) h_u1
  have st := st.trans m_u1
  have e_u1 : (upd G1 u1 (.tup [.int 1, .non, .str "x", .ref u0])) u1 = some (.tup [.int 1, .non, .str "x", .ref u0]) := upd_same
  have i_u1 : Is C (upd G1 u1 (.tup [.int 1, .non, .str "x", .ref u0])) (.ref u1) (.tup [.int 1, .non, .str "x", .tup []]) := .tup e_u1 (.cons (.int _) (.cons .non (.cons (.str _) (.cons (i_u0.same m_u1) .nil))))
  clear i_u0
  generalize upd G1 u1 (.tup [.int 1, .non, .str "x", .ref u0]) = G2 at *
  refine ⟨(by show 4 ≤ sizeLine; decide), fun u2 h_u2 => ?_⟩
  have m_u2 := same_new (o := .tup [.str "m", .int 2, .int 3, .ref u1]) h_u2
  have st := st.trans m_u2
  have e_u2 : (upd G2 u2 (.tup [.str "m", .int 2, .int 3, .ref u1])) u2 = some (.tup [.str "m", .int 2, .int 3, .ref u1]) := upd_same
  have i_u2 : Is C (upd G2 u2 (.tup [.str "m", .int 2, .int 3, .ref u1])) (.ref u2) (.tup [.str "m", .int 2, .int 3, .tup [.int 1, .non, .str "x", .tup []]]) := .tup e_u2 (.cons (.str _) (.cons (.int _) (.cons (.int _) (.cons (i_u1.same m_u2) .nil))))
  clear i_u1
  generalize upd G2 u2 (.tup [.str "m", .int 2, .int 3, .ref u1]) = G3 at *
  refine ?_; intro sl d_sl h_sl hd_sl _
  have s2 : Same G3 (upd (upd G3 d_sl (.own sl)) sl (.ins C d_sl [])) := same_put (same_new hd_sl) h_sl
  refine ⟨sl, d_sl, "seal", u2, [.str "m", .int 2, .int 3, .tup [.int 1, .non, .str "x", .tup []]], rfl, upd_same, i_u2.same s2, (okSeal).1, (okSeal).2.1, (okSeal).2.2, fun G4 hat oth => ⟨rfl, ?_⟩⟩
  have m_sl : Same G3 G4 := fun b u e => oth b u (s2 _ _ e) (ne_of_none e h_sl)
  have st := st.trans m_sl
  have i_sl : Is C G4 (.ref sl) (.atom "seal" [.str "m", .int 2, .int 3, .tup [.int 1, .non, .str "x", .tup []]]) := at_of hat (i_u2.same m_sl)
  clear i_u2
  clear s2 hat oth
  refine ⟨(by show 4 ≤ sizeLine; decide), fun u3 h_u3 => ?_⟩
  have m_u3 := same_new (o := .tup [.str "m", .int 2, .int 3, .non]) h_u3
  have st := st.trans m_u3
  have e_u3 : (upd G4 u3 (.tup [.str "m", .int 2, .int 3, .non])) u3 = some (.tup [.str "m", .int 2, .int 3, .non]) := upd_same
  have i_u3 : Is C (upd G4 u3 (.tup [.str "m", .int 2, .int 3, .non])) (.ref u3) (.tup [.str "m", .int 2, .int 3, .non]) := .tup e_u3 (.cons (.str _) (.cons (.int _) (.cons (.int _) (.cons .non .nil))))
  have i_sl := i_sl.same m_u3
  generalize upd G4 u3 (.tup [.str "m", .int 2, .int 3, .non]) = G5 at *
  refine ?_; intro ba d_ba h_ba hd_ba _
  have s2 : Same G5 (upd (upd G5 d_ba (.own ba)) ba (.ins C d_ba [])) := same_put (same_new hd_ba) h_ba
  refine ⟨ba, d_ba, "seal", u3, [.str "m", .int 2, .int 3, .non], rfl, upd_same, i_u3.same s2, (okBare).1, (okBare).2.1, (okBare).2.2, fun G6 hat oth => ⟨rfl, ?_⟩⟩
  have m_ba : Same G5 G6 := fun b u e => oth b u (s2 _ _ e) (ne_of_none e h_ba)
  have st := st.trans m_ba
  have i_ba : Is C G6 (.ref ba) (.atom "seal" [.str "m", .int 2, .int 3, .non]) := at_of hat (i_u3.same m_ba)
  clear i_u3
  have i_sl := i_sl.same m_ba
  clear s2 hat oth
  refine ⟨(by show 0 ≤ sizeLine; decide), fun u4 h_u4 => ?_⟩
  have m_u4 := same_new (o := .tup []) h_u4
  have st := st.trans m_u4
  have e_u4 : (upd G6 u4 (.tup [])) u4 = some (.tup []) := upd_same
  have i_u4 : Is C (upd G6 u4 (.tup [])) (.ref u4) (.tup []) := .tup e_u4 .nil
  have i_sl := i_sl.same m_u4
  have i_ba := i_ba.same m_u4
  generalize upd G6 u4 (.tup []) = G7 at *
  refine ⟨(by show 1 ≤ sizeLine; decide), fun u5 h_u5 => ?_⟩
  have m_u5 := same_new (o := .tup [.str "data"]) h_u5
  have st := st.trans m_u5
  have e_u5 : (upd G7 u5 (.tup [.str "data"])) u5 = some (.tup [.str "data"]) := upd_same
  have i_u5 : Is C (upd G7 u5 (.tup [.str "data"])) (.ref u5) (.tup [.str "data"]) := .tup e_u5 (.cons (.str _) .nil)
  have i_sl := i_sl.same m_u5
  have i_ba := i_ba.same m_u5
  have i_u4 := i_u4.same m_u5
  generalize upd G7 u5 (.tup [.str "data"]) = G8 at *
  refine ⟨(by show 1 ≤ sizeLine; decide), fun u6 h_u6 => ?_⟩
  have m_u6 := same_new (o := .tup [.non]) h_u6
  have st := st.trans m_u6
  have e_u6 : (upd G8 u6 (.tup [.non])) u6 = some (.tup [.non]) := upd_same
  have i_u6 : Is C (upd G8 u6 (.tup [.non])) (.ref u6) (.tup [.non]) := .tup e_u6 (.cons .non .nil)
  have i_sl := i_sl.same m_u6
  have i_ba := i_ba.same m_u6
  have i_u4 := i_u4.same m_u6
  have i_u5 := i_u5.same m_u6
  have e_u5 := m_u6 _ _ e_u5
  generalize upd G8 u6 (.tup [.non]) = G9 at *
  refine ⟨u6, 7, [V.non], rfl, rfl, SqT.of e_u6, List.cons_ne_nil _ _, by decide, by decide, by decide, fun u7 h_u7 => ?_⟩
  have m_u7 := same_new (o := .tup (List.replicate (7 : Int).toNat [V.non]).flatten) h_u7
  have st := st.trans m_u7
  have e_u7 : (upd G9 u7 (.tup (List.replicate (7 : Int).toNat [V.non]).flatten)) u7 = some (.tup [.non, .non, .non, .non, .non, .non, .non]) := upd_same
  have i_u7 : Is C (upd G9 u7 (.tup (List.replicate (7 : Int).toNat [V.non]).flatten)) (.ref u7) (.tup [.non, .non, .non, .non, .non, .non, .non]) := .tup e_u7 (.cons .non (.cons .non (.cons .non (.cons .non (.cons .non (.cons .non (.cons .non .nil)))))))
  clear i_u6
  have i_sl := i_sl.same m_u7
  have i_ba := i_ba.same m_u7
  have i_u4 := i_u4.same m_u7
  have i_u5 := i_u5.same m_u7
  have e_u5 := m_u7 _ _ e_u5
  have e_u6 := m_u7 _ _ e_u6
  generalize upd G9 u7 (.tup (List.replicate (7 : Int).toNat [V.non]).flatten) = G10 at *
  refine cat_go e_u5 e_u7 (by show _ ≤ sizeLine; decide) fun G11 u8 m_u8 e_u8 => ?_
  have st := st.trans m_u8
  have i_u8 : Is C G11 (.ref u8) (.tup [.str "data", .non, .non, .non, .non, .non, .non, .non]) := .tup e_u8 (.cons (.str _) (.cons .non (.cons .non (.cons .non (.cons .non (.cons .non (.cons .non (.cons .non .nil))))))))
  clear i_u5
  clear i_u7
  have i_sl := i_sl.same m_u8
  have i_ba := i_ba.same m_u8
  have i_u4 := i_u4.same m_u8
  refine ⟨(by show 2 ≤ sizeLine; decide), fun u9 h_u9 => ?_⟩
  have m_u9 := same_new (o := .tup [.int 9, .int 12]) h_u9
  have st := st.trans m_u9
  have e_u9 : (upd G11 u9 (.tup [.int 9, .int 12])) u9 = some (.tup [.int 9, .int 12]) := upd_same
  have i_u9 : Is C (upd G11 u9 (.tup [.int 9, .int 12])) (.ref u9) (.tup [.int 9, .int 12]) := .tup e_u9 (.cons (.int _) (.cons (.int _) .nil))
  have i_sl := i_sl.same m_u9
  have i_ba := i_ba.same m_u9
  have i_u4 := i_u4.same m_u9
  have i_u8 := i_u8.same m_u9
  generalize upd G11 u9 (.tup [.int 9, .int 12]) = G12 at *
  refine ⟨(by show 6 ≤ sizeLine; decide), fun u10 h_u10 => ?_⟩
  have m_u10 := same_new (o := .tup [.str "m", .int 2, .str "n", .ref u4, .ref u8, .ref u9]) h_u10
  have st := st.trans m_u10
  have e_u10 : (upd G12 u10 (.tup [.str "m", .int 2, .str "n", .ref u4, .ref u8, .ref u9])) u10 = some (.tup [.str "m", .int 2, .str "n", .ref u4, .ref u8, .ref u9]) := upd_same
  have i_u10 : Is C (upd G12 u10 (.tup [.str "m", .int 2, .str "n", .ref u4, .ref u8, .ref u9])) (.ref u10) (.tup [.str "m", .int 2, .str "n", .tup [], .tup [.str "data", .non, .non, .non, .non, .non, .non, .non], .tup [.int 9, .int 12]]) := .tup e_u10 (.cons (.str _) (.cons (.int _) (.cons (.str _) (.cons (i_u4.same m_u10) (.cons (i_u8.same m_u10) (.cons (i_u9.same m_u10) .nil))))))
  clear i_u4
  clear i_u8
  clear i_u9
  have i_sl := i_sl.same m_u10
  have i_ba := i_ba.same m_u10
  generalize upd G12 u10 (.tup [.str "m", .int 2, .str "n", .ref u4, .ref u8, .ref u9]) = G13 at *
  refine ?_; intro ti d_ti h_ti hd_ti _
  have s2 : Same G13 (upd (upd G13 d_ti (.own ti)) ti (.ins C d_ti [])) := same_put (same_new hd_ti) h_ti
  refine ⟨ti, d_ti, "ticket", u10, [.str "m", .int 2, .str "n", .tup [], .tup [.str "data", .non, .non, .non, .non, .non, .non, .non], .tup [.int 9, .int 12]], rfl, upd_same, i_u10.same s2, (okTick).1, (okTick).2.1, (okTick).2.2, fun G14 hat oth => ⟨rfl, ?_⟩⟩
  have m_ti : Same G13 G14 := fun b u e => oth b u (s2 _ _ e) (ne_of_none e h_ti)
  have st := st.trans m_ti
  have i_ti : Is C G14 (.ref ti) (.atom "ticket" [.str "m", .int 2, .str "n", .tup [], .tup [.str "data", .non, .non, .non, .non, .non, .non, .non], .tup [.int 9, .int 12]]) := at_of hat (i_u10.same m_ti)
  clear i_u10
  have i_sl := i_sl.same m_ti
  have i_ba := i_ba.same m_ti
  clear s2 hat oth
  refine ⟨_, rfl, _, rfl, _, rfl, (by show 2 ≤ sizeLine; decide), fun u11 h_u11 => ?_⟩
  have m_u11 := same_new (o := .tup [.str "v", .int 0]) h_u11
  have st := st.trans m_u11
  have e_u11 : (upd G14 u11 (.tup [.str "v", .int 0])) u11 = some (.tup [.str "v", .int 0]) := upd_same
  have i_u11 : Is C (upd G14 u11 (.tup [.str "v", .int 0])) (.ref u11) (.tup [.str "v", .int 0]) := .tup e_u11 (.cons (.str _) (.cons (.int _) .nil))
  have i_sl := i_sl.same m_u11
  have i_ba := i_ba.same m_u11
  have i_ti := i_ti.same m_u11
  generalize upd G14 u11 (.tup [.str "v", .int 0]) = G15 at *
  refine ?_; intro ch d_ch h_ch hd_ch _
  have s2 : Same G15 (upd (upd G15 d_ch (.own ch)) ch (.ins C d_ch [])) := same_put (same_new hd_ch) h_ch
  refine ⟨ch, d_ch, "challenge", u11, [.str "v", .int 0], rfl, upd_same, i_u11.same s2, (okCh).1, (okCh).2.1, (okCh).2.2, fun G16 hat oth => ⟨rfl, ?_⟩⟩
  have m_ch : Same G15 G16 := fun b u e => oth b u (s2 _ _ e) (ne_of_none e h_ch)
  have st := st.trans m_ch
  have i_ch : Is C G16 (.ref ch) (.atom "challenge" [.str "v", .int 0]) := at_of hat (i_u11.same m_ch)
  clear i_u11
  have i_sl := i_sl.same m_ch
  have i_ba := i_ba.same m_ch
  have i_ti := i_ti.same m_ch
  clear s2 hat oth
  refine ⟨(by show 0 ≤ sizeLine; decide), fun u12 h_u12 => ?_⟩
  have m_u12 := same_new (o := .tup []) h_u12
  have st := st.trans m_u12
  have e_u12 : (upd G16 u12 (.tup [])) u12 = some (.tup []) := upd_same
  have i_u12 : Is C (upd G16 u12 (.tup [])) (.ref u12) (.tup []) := .tup e_u12 .nil
  have i_sl := i_sl.same m_u12
  have i_ba := i_ba.same m_u12
  have i_ti := i_ti.same m_u12
  have i_ch := i_ch.same m_u12
  generalize upd G16 u12 (.tup []) = G17 at *
  refine ⟨(by show 3 ≤ sizeLine; decide), fun u13 h_u13 => ?_⟩
  have m_u13 := same_new (o := .tup [.str "m", .ref u12, .int 1]) h_u13
  have st := st.trans m_u13
  have e_u13 : (upd G17 u13 (.tup [.str "m", .ref u12, .int 1])) u13 = some (.tup [.str "m", .ref u12, .int 1]) := upd_same
  have i_u13 : Is C (upd G17 u13 (.tup [.str "m", .ref u12, .int 1])) (.ref u13) (.tup [.str "m", .tup [], .int 1]) := .tup e_u13 (.cons (.str _) (.cons (i_u12.same m_u13) (.cons (.int _) .nil)))
  clear i_u12
  have i_sl := i_sl.same m_u13
  have i_ba := i_ba.same m_u13
  have i_ti := i_ti.same m_u13
  have i_ch := i_ch.same m_u13
  generalize upd G17 u13 (.tup [.str "m", .ref u12, .int 1]) = G18 at *
  refine ?_; intro to d_to h_to hd_to _
  have s2 : Same G18 (upd (upd G18 d_to (.own to)) to (.ins C d_to [])) := same_put (same_new hd_to) h_to
  refine ⟨to, d_to, "token", u13, [.str "m", .tup [], .int 1], rfl, upd_same, i_u13.same s2, (okTok).1, (okTok).2.1, (okTok).2.2, fun G19 hat oth => ⟨rfl, ?_⟩⟩
  have m_to : Same G18 G19 := fun b u e => oth b u (s2 _ _ e) (ne_of_none e h_to)
  have st := st.trans m_to
  have i_to : Is C G19 (.ref to) (.atom "token" [.str "m", .tup [], .int 1]) := at_of hat (i_u13.same m_to)
  clear i_u13
  have i_sl := i_sl.same m_to
  have i_ba := i_ba.same m_to
  have i_ti := i_ti.same m_to
  have i_ch := i_ch.same m_to
  clear s2 hat oth
  obtain ⟨dxt, tt, ht1, it1⟩ := at_in i_ti
  obtain ⟨dxs, ts, hs1, is1⟩ := at_in i_sl
  have i_tt := it1
  have i_ts := is1
  refine ⟨_, rfl, ti, C, dxt, _, .ref tt, rfl, ht1, T.cl.cl, T.cl.nT, rfl, _, rfl, sl, C, dxs, _, .ref ts, rfl, hs1, T.cl.cl, T.cl.nT, rfl, (by show 0 ≤ sizeLine; decide), fun u14 h_u14 => ?_⟩
  have m_u14 := same_new (o := .tup []) h_u14
  have st := st.trans m_u14
  have e_u14 : (upd G19 u14 (.tup [])) u14 = some (.tup []) := upd_same
  have i_u14 : Is C (upd G19 u14 (.tup [])) (.ref u14) (.tup []) := .tup e_u14 .nil
  have i_sl := i_sl.same m_u14
  have i_ba := i_ba.same m_u14
  have i_ti := i_ti.same m_u14
  have i_ch := i_ch.same m_u14
  have i_to := i_to.same m_u14
  have i_tt := i_tt.same m_u14
  have i_ts := i_ts.same m_u14
  generalize upd G19 u14 (.tup []) = G20 at *
  refine ⟨(by show 11 ≤ sizeLine; decide), fun l hl => ?_⟩
  have sl2 := same_new (o := .lst [.ref sl, .ref ba, .ref ti, .ref ch, .ref to, .non, .int 5, .str "ticket", .ref tt, .ref ts, .ref u14]) hl
  exact q _ l [.ref sl, .ref ba, .ref ti, .ref ch, .ref to, .non, .int 5, .str "ticket", .ref tt, .ref ts, .ref u14] (st.trans sl2) (st.free hl) upd_same (.cons (i_sl.same sl2) (.cons (i_ba.same sl2) (.cons (i_ti.same sl2) (.cons (i_ch.same sl2) (.cons (i_to.same sl2) (.cons .non (.cons (.int _) (.cons (.str _) (.cons (i_tt.same sl2) (.cons (i_ts.same sl2) (.cons (i_u14.same sl2) .nil)))))))))))
end
end Hc

set_option maxHeartbeats 8000000
namespace Hc
open PySem PySem.Spec PyProof.Rows L2 Hr
abbrev oddD : List D := [.bl true, .bl false, .lst [.int 0], .non, .str "5", .int (-1), .int 24, .int 16, .int 30, .tup [], .lst [], .str "\n", .int 2147483648, .lst [.str "n"], .tup [.str "m", .int 1], .str "xxxxxxxxxxxxxxxxxxxxxxxxx"]
abbrev txtD : List D := [.str "m", .str "n", .str "", .str "other"]
theorem isA_mem {C : Addr} {H : Hp} : ∀ {xs : List V} {ds : List D} {x : V}, IsA C H xs ds → x ∈ xs → ∃ d ∈ ds, Is C H x d
  | _, _, _, .nil, h => by cases h
  | _, _, _, .cons h t, m => by
    rcases List.mem_cons.mp m with rfl | m
    · exact ⟨_, by simp, h⟩
    · obtain ⟨d, hd, i⟩ := isA_mem t m
      exact ⟨d, by simp [hd], i⟩
/-- one of these, seen without what was there -/
def spOne (C : Addr) (ok : D → Prop) : Sp := fun vs H Q _ => ∃ d c, vs = [.ref d] ∧ Dr H d c ∧ ∀ H' x e, Dr H' d c → Bu2 d c H H' → Is C (nw H H') x e → ok e → Q x H'
def prtOk (z : Str) (e : D) : Prop := (z = "g" ∧ ∃ i : Int, 0 ≤ i ∧ i < 24 ∧ e = .int i) ∨ (z = "p" ∧ ∃ i : Int, 0 ≤ i ∧ i < 16 ∧ e = .int i) ∨ (z = "t" ∧ e ∈ txtD) ∨ (z = "w" ∧ e ∈ wordsD)
def srtZ (z : Str) : Prop := z = "g" ∨ z = "p" ∨ z = "t" ∨ z = "w"
def spPrt (C : Addr) : Sp := fun vs H Q _ => ∃ d c z, vs = [.ref d, .str z] ∧ Dr H d c ∧ srtZ z ∧ ∀ H' x e, Dr H' d c → Bu2 d c H H' → Is C (nw H H') x e → prtOk z e → Q x H'
section
variable {P : Program} {w : World} {K : PySem.W.Frag} {mg : Str → Option Value} {base : Heap} {f : Addr} {fd : FuncData} {C : Addr}
abbrev s__law_odd : Stmt := top 69
theorem sc__law_odd : FnScope ["draws"] ["draws"] (C8.fnScope s__law_odd) := C8.fnScope_by (by decide +kernel)
theorem ok__law_odd (F : C8.Def K mg "_law_odd" s__law_odd f fd) (b : Binds K fd ["draws"] []) (T : Txt K mg w C) (c__law_pick : C8.Cal P w K mg base 2 "_law_pick" spPick []) : C8.Cal P w K mg base 3 "_law_odd" (spOne C (· ∈ oddD)) [] := by
  refine C8.cal0 F b .nil sc__law_odd (fun vs H Q E h => ?_) (fun cdv A outer s H vs Q E hr h => ?_)
  · obtain ⟨d, c, rfl, _⟩ := h; rfl
  obtain ⟨d, c, rfl, hD, q⟩ := h
  refine ⟨_, (pss_one (ps_ret (C8.pe_c c__law_pick hr (by first | decide | omega) rfl (pa_cons (pv 0) (pa_cons (pe_lst (pa_cons pe_bl (pa_cons pe_bl (pa_cons (pe_lst (pa_cons pe_int pa_nil)) (pa_cons pe_non (pa_cons pe_str (pa_cons (pe_un un_neg pe_int) (pa_cons pe_int (pa_cons pe_int (pa_cons pe_int (pa_cons (pe_tup pa_nil) (pa_cons (pe_lst pa_nil) (pa_cons pe_str (pa_cons pe_int (pa_cons (pe_lst (pa_cons pe_str pa_nil)) (pa_cons (pe_tup (pa_cons pe_str (pa_cons pe_int pa_nil))) (pa_cons (pe_op op_smul pe_str pe_int) pa_nil))))))))))))))))) pa_nil))))), ?_⟩
  have st := Same.refl H
  refine ⟨_, rfl, (by show 1 ≤ sizeLine; decide), fun a0 h_a0 => ?_⟩
  obtain ⟨st, e_a0, m_a0⟩ := newF (o := .lst [.int 0]) hD st h_a0
  have i_a0 : Is C (nw H (upd H a0 (.lst [.int 0]))) (.ref a0) (.lst [.int 0]) := .lst e_a0 (.cons (.int _) .nil)
  generalize upd H a0 (.lst [.int 0]) = G1 at *
  refine ⟨_, rfl, (by show 0 ≤ sizeLine; decide), fun a1 h_a1 => ?_⟩
  obtain ⟨st, e_a1, m_a1⟩ := newF (o := .tup []) hD st h_a1
  have i_a1 : Is C (nw H (upd G1 a1 (.tup []))) (.ref a1) (.tup []) := .tup e_a1 .nil
  have i_a0 := i_a0.same m_a1
  generalize upd G1 a1 (.tup []) = G2 at *
  refine ⟨(by show 0 ≤ sizeLine; decide), fun a2 h_a2 => ?_⟩
  obtain ⟨st, e_a2, m_a2⟩ := newF (o := .lst []) hD st h_a2
  have i_a2 : Is C (nw H (upd G2 a2 (.lst []))) (.ref a2) (.lst []) := .lst e_a2 .nil
  have i_a0 := i_a0.same m_a2
  have i_a1 := i_a1.same m_a2
  generalize upd G2 a2 (.lst []) = G3 at *
  refine ⟨(by show 1 ≤ sizeLine; decide), fun a3 h_a3 => ?_⟩
  obtain ⟨st, e_a3, m_a3⟩ := newF (o := .lst [.str "n"]) hD st h_a3
  have i_a3 : Is C (nw H (upd G3 a3 (.lst [.str "n"]))) (.ref a3) (.lst [.str "n"]) := .lst e_a3 (.cons (.str _) .nil)
  have i_a0 := i_a0.same m_a3
  have i_a1 := i_a1.same m_a3
  have i_a2 := i_a2.same m_a3
  generalize upd G3 a3 (.lst [.str "n"]) = G4 at *
  refine ⟨(by show 2 ≤ sizeLine; decide), fun a4 h_a4 => ?_⟩
  obtain ⟨st, e_a4, m_a4⟩ := newF (o := .tup [.str "m", .int 1]) hD st h_a4
  have i_a4 : Is C (nw H (upd G4 a4 (.tup [.str "m", .int 1]))) (.ref a4) (.tup [.str "m", .int 1]) := .tup e_a4 (.cons (.str _) (.cons (.int _) .nil))
  have i_a0 := i_a0.same m_a4
  have i_a1 := i_a1.same m_a4
  have i_a2 := i_a2.same m_a4
  have i_a3 := i_a3.same m_a4
  generalize upd G4 a4 (.tup [.str "m", .int 1]) = G5 at *
  refine ⟨_, _, rfl, rfl, smul25, (by show 16 ≤ sizeLine; decide), fun l hl => ?_⟩
  rw [smul25v]
  have ia : IsA C (nw H G5) [.bl true, .bl false, .ref a0, .non, .str "5", .int (-1), .int 24, .int 16, .int 30, .ref a1, .ref a2, .str "\n", .int 2147483648, .ref a3, .ref a4, .str "xxxxxxxxxxxxxxxxxxxxxxxxx"] oddD := .cons (.bl _) (.cons (.bl _) (.cons i_a0 (.cons .non (.cons (.str _) (.cons (.int _) (.cons (.int _) (.cons (.int _) (.cons (.int _) (.cons i_a1 (.cons i_a2 (.cons (.str _) (.cons (.int _) (.cons i_a3 (.cons i_a4 (.cons (.str _) .nil)))))))))))))))
  refine pick_new (hD.same st) hl (by show 0 < 16; decide) (by show 16 < 1000000; decide) fun H' x hD' b' hx => ?_
  obtain ⟨e, he, ie⟩ := isA_mem ia hx
  exact q H' x e hD' ((Bu2.of st).trans b') (ie.same (nw_bu hD b')) he
abbrev s__law_part : Stmt := top 70
theorem sc__law_part : FnScope ["draws", "sort"] ["draws", "sort"] (C8.fnScope s__law_part) := C8.fnScope_by (by decide +kernel)
theorem ok__law_part (F : C8.Def K mg "_law_part" s__law_part f fd) (b : Binds K fd ["draws", "sort"] []) (T : Txt K mg w C) (c__law_draw : C8.Cal P w K mg base 1 "_law_draw" spDraw []) (c__law_pick : C8.Cal P w K mg base 2 "_law_pick" spPick []) (c__law_words : C8.Cal P w K mg base 7 "_law_words" (spWds C) []) : C8.Cal P w K mg base 8 "_law_part" (spPrt C) [] := by
  refine C8.cal0 F b .nil sc__law_part (fun vs H Q E h => ?_) (fun cdv A outer s H vs Q E hr h => ?_)
  · obtain ⟨d, c, z, rfl, _⟩ := h; rfl
  obtain ⟨d, c, z, rfl, hD, hz, q⟩ := h
  refine ⟨_, (pss_cons (ps_if (pt_cmpR op_eq (pv 1) pe_str (nomark _)) (pss_one (ps_ret (C8.pe_c c__law_draw hr (by first | decide | omega) rfl (pa_cons (pv 0) (pa_cons pe_int pa_nil))))) pss_nil)
      (pss_cons (ps_if (pt_cmpR op_eq (pv 1) pe_str (nomark _)) (pss_one (ps_ret (C8.pe_c c__law_draw hr (by first | decide | omega) rfl (pa_cons (pv 0) (pa_cons pe_int pa_nil))))) pss_nil)
      (pss_cons (ps_if (pt_cmpR op_eq (pv 1) pe_str (nomark _)) (pss_one (ps_ret (C8.pe_c c__law_pick hr (by first | decide | omega) rfl (pa_cons (pv 0) (pa_cons (pe_lst (pa_cons pe_str (pa_cons pe_str (pa_cons pe_str (pa_cons pe_str pa_nil))))) pa_nil))))) pss_nil)
      (pss_one (ps_ret (C8.pe_c c__law_pick hr (by first | decide | omega) rfl (pa_cons (pv 0) (pa_cons (Hr.pe_c0 c__law_words hr (by first | decide | omega) rfl) pa_nil)))))))), ?_⟩
  refine ⟨_, rfl, rfl, _, rfl, ?_⟩
  by_cases z1 : z = "g"
  · exact ifT (by rw [z1]) ⟨_, rfl, d, c, 24, rfl, hD, by decide, by decide, fun H' r hD' b' g0 g1 => q H' _ (.int r) hD' b' (.int _) (.inl ⟨z1, r, g0, g1, rfl⟩)⟩
  refine ifF (fun e => z1 (V.str.inj e)) ⟨_, rfl, rfl, _, rfl, ?_⟩
  by_cases z2 : z = "p"
  · exact ifT (by rw [z2]) ⟨_, rfl, d, c, 16, rfl, hD, by decide, by decide, fun H' r hD' b' g0 g1 => q H' _ (.int r) hD' b' (.int _) (.inr (.inl ⟨z2, r, g0, g1, rfl⟩))⟩
  refine ifF (fun e => z2 (V.str.inj e)) ⟨_, rfl, rfl, _, rfl, ?_⟩
  by_cases z3 : z = "t"
  · refine ifT (by rw [z3]) ⟨_, rfl, (by show 4 ≤ sizeLine; decide), fun l hl => ?_⟩
    refine pick_new hD hl (by show 0 < 4; decide) (by show 4 < 1000000; decide) fun H' x hD' b' hx => ?_
    have ia : IsA C (nw H H') [.str "m", .str "n", .str "", .str "other"] txtD := .cons (.str _) (.cons (.str _) (.cons (.str _) (.cons (.str _) .nil)))
    obtain ⟨e, he, ie⟩ := isA_mem ia hx
    exact q H' x e hD' b' ie (.inr (.inr (.inl ⟨z3, he⟩)))
  refine ifF (fun e => z3 (V.str.inj e)) ?_
  have z4 : z = "w" := by rcases hz with h | h | h | h <;> first | exact absurd h z1 | exact absurd h z2 | exact absurd h z3 | exact h
  refine ⟨_, rfl, rfl, fun H1 l xs s1 hl0 hl ia => ?_⟩
  have hD1 := hD.same s1
  refine ⟨d, c, l, xs, rfl, hD1, hl, (hD.off hl0).2, by rw [ia.len]; decide, by rw [ia.len]; decide, fun H' i x hD' b' hx => ?_⟩
  obtain ⟨e, he, ie⟩ := isA_mem ia (List.mem_of_getElem? hx)
  have ie2 : Is C (nw H H1) x e := Is.nw (LDk.of s1) (clnL_iff.mp (by decide +kernel : clnL wordsD = true) e he) ie
  exact q H' x e hD' ((Bu2.of s1).trans b') (ie2.same (nw_bu hD b')) (.inr (.inr (.inr ⟨z4, he⟩)))
end
end Hc

set_option maxHeartbeats 8000000
namespace Hc
open PySem PySem.Spec PyProof.Rows L2 Hr
def badS : List D := [.str "\n", .str "xxxxxxxxxxxxxxxxxxxxxxxxx"]
def inBad (e : D) : Bool := badS.any fun y => eqD y e
def bl2 : D → Bool | .bl _ => true | .lst _ => true | _ => false
def isIn : D → Bool | .int _ => true | .bl _ => true | _ => false
def isBlD : D → Bool | .bl _ => true | _ => false
def isSt : D → Bool | .str _ => true | _ => false
def lowI : D → Bool | .int i => decide (i < 2147483648) | _ => true
def fitL (z : Str) (e : D) : Bool :=
  if z = "w" then !(bl2 e || inBad e) && lowI e
  else if z = "t" then isSt e && !inBad e
  else match e with | .int i => decide (0 ≤ i) && decide (i < if z = "g" then 24 else 16) | _ => false
def poolOk (e : D) : Prop := (∃ i : Int, 0 ≤ i ∧ i < 24 ∧ e = .int i) ∨ e ∈ oddD ∨ e ∈ wordsD ∨ e ∈ txtD
def srtV (z : Str) : Str := if z = "g" then "granule" else if z = "p" then "page" else if z = "t" then "text" else "word"
theorem prt_pool {z : Str} {e : D} (h : prtOk z e) : poolOk e := by
  rcases h with ⟨_, i, h0, h1, rfl⟩ | ⟨_, i, h0, h1, rfl⟩ | ⟨_, h⟩ | ⟨_, h⟩
  · exact .inl ⟨i, h0, h1, rfl⟩
  · exact .inl ⟨i, h0, by omega, rfl⟩
  · exact .inr (.inr (.inr h))
  · exact .inr (.inr (.inl h))
theorem kF_g : srtV "g" = "granule" := by decide +kernel
theorem pool_all {p : D → Bool} (h1 : ((List.range 24).all fun (i : Nat) => p (.int i)) = true) (h2 : (oddD ++ wordsD ++ txtD).all p = true) : ∀ e, poolOk e → p e = true := by
  rintro e (⟨i, h0, hi, rfl⟩ | h)
  · have := List.all_eq_true.mp h1 i.toNat (by simp; omega)
    rwa [show ((i.toNat : Nat) : Int) = i by omega] at this
  · refine List.all_eq_true.mp h2 e ?_
    simp only [List.mem_append]
    rcases h with h | h | h
    · exact .inl (.inl h)
    · exact .inl (.inr h)
    · exact .inr h
theorem pool_num {p : D → Bool} (h1 : ∀ i : Int, 0 ≤ i → i < 24 → p (.int i) = true) (h2 : (oddD ++ wordsD ++ txtD).all p = true) : ∀ e, poolOk e → p e = true :=
  pool_all (List.all_eq_true.mpr fun i hi => h1 i (by omega) (by simp at hi; omega)) h2
theorem fit_eq {z : Str} {e : D} (hz : srtZ z) (he : poolOk e) : fitL z e = partB (srtV z) e := by
  rcases hz with rfl | rfl | rfl | rfl
  · exact of_decide_eq_true (pool_all (p := fun e => decide (fitL "g" e = partB (srtV "g") e)) (by decide +kernel) (by decide +kernel) e he)
  · exact of_decide_eq_true (pool_all (p := fun e => decide (fitL "p" e = partB (srtV "p") e)) (by decide +kernel) (by decide +kernel) e he)
  · exact of_decide_eq_true (pool_all (p := fun e => decide (fitL "t" e = partB (srtV "t") e)) (by decide +kernel) (by decide +kernel) e he)
  · exact of_decide_eq_true (pool_all (p := fun e => decide (fitL "w" e = partB (srtV "w") e)) (by decide +kernel) (by decide +kernel) e he)
theorem pool_wrd {e : D} (he : poolOk e) (h : bl2 e = false) : wrd e = true := by
  have := pool_all (p := fun e => bl2 e || wrd e) (by decide +kernel) (by decide +kernel) e he
  have h3 : (bl2 e || wrd e) = true := this
  rwa [h, Bool.false_or] at h3
theorem pool_sz {e : D} (he : poolOk e) : sz e ≤ 1000 := of_decide_eq_true (pool_all (p := fun e => decide (sz e ≤ 1000)) (by decide +kernel) (by decide +kernel) e he)
mutual
/-- texts are short -/
def txb : D → Bool
  | .tup ds => txbL ds
  | .lst ds => txbL ds
  | .atom _ ds => txbL ds
  | .str s => decide (s.length ≤ 1000)
  | _ => true
def txbL : List D → Bool
  | [] => true
  | d :: ds => txb d && txbL ds
end
mutual
theorem txb_txl : ∀ {d : D}, txb d = true → txl d
  | .tup ds, h => by simp only [txl]; exact txbL_txl (by simpa [txb] using h)
  | .lst ds, h => by simp only [txl]; first | trivial | exact txbL_txl (by simpa [txb] using h)
  | .atom _ ds, h => by simp only [txl]; exact txbL_txl (by simpa [txb] using h)
  | .str s, h => by simp only [txl]; simp [txb] at h; exact Nat.le_trans h (by decide)
  | .non, _ => by simp only [txl]
  | .bl _, _ => by simp only [txl]
  | .int _, _ => by simp only [txl]
  | .dct, _ => by simp only [txl]
theorem txbL_txl : ∀ {ds : List D}, txbL ds = true → txlL ds
  | [], _ => by simp only [txlL]
  | d :: ds, h => by
    simp only [txbL, Bool.and_eq_true] at h
    simp only [txlL]
    exact ⟨txb_txl h.1, txbL_txl h.2⟩
end
theorem fit_of {d : D} (h1 : sz d ≤ 1000) (h2 : txb d = true) : Fit d := ⟨by omega, txb_txl h2⟩
theorem pool_fit {e : D} (he : poolOk e) : Fit e := fit_of (pool_sz he) (pool_all (p := txb) (by decide +kernel) (by decide +kernel) e he)
theorem kit2 {K : PySem.W.Frag} {mg : Str → Option Value} {w : World} {C : Addr} (T : Txt K mg w C) (e : D) : PySem.W.kitAny K (kyU C e) [.type "bool", .type "list"] = some (bl2 e) := by
  have h1 := T.kit e "bool" (by simp)
  have h2 := T.kit e "list" (by simp)
  unfold PySem.W.kitAny PySem.W.kitAny PySem.W.kitAny
  rw [h1, h2]
  cases e <;> rfl
theorem kitI {K : PySem.W.Frag} {mg : Str → Option Value} {w : World} {C : Addr} (T : Txt K mg w C) (e : D) : PySem.W.kitOne K (kyU C e) (.type "int") = some (isIn e) := by
  rw [T.kit e "int" (by simp)]; cases e <;> rfl
theorem kitB {K : PySem.W.Frag} {mg : Str → Option Value} {w : World} {C : Addr} (T : Txt K mg w C) (e : D) : PySem.W.kitOne K (kyU C e) (.type "bool") = some (isBlD e) := by
  rw [T.kit e "bool" (by simp)]; cases e <;> rfl
theorem kitS {K : PySem.W.Frag} {mg : Str → Option Value} {w : World} {C : Addr} (T : Txt K mg w C) (e : D) : PySem.W.kitOne K (kyU C e) (.type "str") = some (isSt e) := by
  rw [T.kit e "str" (by simp)]; cases e <;> rfl
def spFits (C : Addr) : Sp := fun vs H Q _ => ∃ x e z, vs = [.str z, x] ∧ Is C H x e ∧ srtZ z ∧ poolOk e ∧ ∀ H', Same H H' → Q (.bl (fitL z e)) H'
section
variable {P : Program} {w : World} {K : PySem.W.Frag} {mg : Str → Option Value} {base : Heap} {f : Addr} {fd : FuncData} {C : Addr}
abbrev s__law_fits : Stmt := top 71
theorem sc__law_fits : FnScope ["sort", "value"] ["sort", "value"] (C8.fnScope s__law_fits) := C8.fnScope_by (by decide +kernel)
theorem ok__law_fits (F : C8.Def K mg "_law_fits" s__law_fits f fd) (b : Binds K fd ["sort", "value"] []) (T : Txt K mg w C) (O : OwnS P w K mg base 4 C (spEqG C)) (o : Oth K C) : C8.Cal P w K mg base 7 "_law_fits" (spFits C) [] := by
  refine C8.cal0 F b .nil sc__law_fits (fun vs H Q E h => ?_) (fun cdv A outer s H vs Q E hr h => ?_)
  · obtain ⟨x, e, z, rfl, _⟩ := h; rfl
  obtain ⟨x, e, z, rfl, hx, hz, he, q⟩ := h
  refine ⟨_, (pss_cons (ps_if (pt_cmpR op_eq (pv 0) pe_str (nomark _)) (pss_cons (ps_if (PW.pt (pw_or (pt_val (pe_callB call_isiT rfl T.z_isinstance bt_isinstance (pa_cons (pv 1) (pa_cons (pe_tup (pa_cons (pe_bltn (v := .ty "bool") rfl T.z_bool bt_bool rfl) (pa_cons (pe_bltn (v := .ty "list") rfl T.z_list bt_list rfl) pa_nil))) pa_nil)))) (pw_or1 (pt_cmpR (op_inW (N := 0) O o (hr.mono (by decide))) (pv 1) (pe_lst (pa_cons pe_str (pa_cons (pe_op op_smul pe_str pe_int) pa_nil))) (by with_unfolding_all rfl))))) (pss_one (ps_ret pe_bl)) pss_nil)
      (pss_one (ps_ret (pe_or (pe_not (pe_callB (call_isiA T.cl) rfl T.z_isinstance bt_isinstance (pa_cons (pv 1) (pa_cons (pe_bltn (v := .ty "int") rfl T.z_int bt_int rfl) pa_nil)))) (pe_one (pe_cmpR op_lt (pv 1) pe_int (nomark _))))))) pss_nil)
      (pss_cons (ps_if (pt_cmpR op_eq (pv 0) pe_str (nomark _)) (pss_one (ps_ret (pe_and (pe_callB (call_isiA T.cl) rfl T.z_isinstance bt_isinstance (pa_cons (pv 1) (pa_cons (pe_bltn (v := .ty "str") rfl T.z_str bt_str rfl) pa_nil))) (pe_one (pe_cmpR (op_notInW (N := 0) O o (hr.mono (by decide))) (pv 1) (pe_lst (pa_cons pe_str (pa_cons (pe_op op_smul pe_str pe_int) pa_nil))) (by with_unfolding_all rfl)))))) pss_nil)
      (pss_cons (ps_if (PW.pt (pw_or (pt_not (pt_val (pe_callB (call_isiA T.cl) rfl T.z_isinstance bt_isinstance (pa_cons (pv 1) (pa_cons (pe_bltn (v := .ty "int") rfl T.z_int bt_int rfl) pa_nil))))) (pw_or1 (pt_val (pe_callB (call_isiA T.cl) rfl T.z_isinstance bt_isinstance (pa_cons (pv 1) (pa_cons (pe_bltn (v := .ty "bool") rfl T.z_bool bt_bool rfl) pa_nil))))))) (pss_one (ps_ret pe_bl)) pss_nil)
      (pss_one (ps_ret (pe_chain op_le op_lt pe_int (pv 1) (pe_dget (ru hr) (pe_disp (pps_cons pe_str pe_int (pps_cons pe_str pe_int pps_nil)) rfl rfl (List.cons_ne_nil _ _) (by decide)) (pv 0) (fun _ _ => rfl)))))))), ?_⟩
  refine ⟨_, rfl, rfl, _, rfl, ?_⟩
  -- value in ["\n", "x" * 25]
  have q0 : ∀ b, fitL z e = b → ∀ H', Same H H' → Q (.bl b) H' := fun b e H' s' => by rw [← e]; exact q H' s'
  by_cases z1 : z = "w"
  · refine ifT (by rw [z1]) ⟨_, rfl, (by show 2 ≤ sizeLine; decide), fun tp htp => ?_⟩
    have s1 := same_new (o := .tup [.ty "bool", .ty "list"]) htp
    refine ⟨x, tp, _, kyU C e, _, _, rfl, upd_same, .cons (.ty _) (.cons (.ty _) .nil), (hx.same s1).tyX T.cl, kit2 T e, _, rfl, ?_⟩
    cases hb : bl2 e with
    | true => exact bT rfl (q0 _ (by simp only [fitL]; rw [if_pos z1, hb]; rfl) _ s1)
    | false =>
      refine bF rfl ⟨_, rfl, _, _, rfl, rfl, smul25, (by show 2 ≤ sizeLine; decide), fun l hl => ?_⟩
      rw [smul25v]
      have s2 := s1.trans (same_new (o := .lst [.str "\n", .str "xxxxxxxxxxxxxxxxxxxxxxxxx"]) hl)
      refine ⟨l, _, badS, e, rfl, upd_same, .cons (.str _) (.cons (.str _) .nil), hx.same s2, pool_wrd he hb, by decide +kernel, by decide +kernel, by have := pool_sz he; omega, by decide +kernel, fun H' s' => ⟨_, rfl, ?_⟩⟩
      have s3 := s2.trans s'
      cases hi : inBad e with
      | true => exact bT hi (q0 _ (by simp only [fitL]; rw [if_pos z1, hb, hi]; rfl) _ s3)
      | false =>
        refine bF hi ?_
        have e9 : fitL z e = lowI e := by simp only [fitL]; rw [if_pos z1, hb, hi]; rfl
        unfold tNext
        dsimp only
        refine ⟨_, rfl, x, e, _, _, _, rfl, hx.same s3, .ty _, kitI T e, ?_⟩
        cases hin : isIn e with
        | false =>
          refine ⟨_, rfl, _, rfl, bT rfl (q0 _ (by rw [e9]; cases e <;> first | rfl | (simp [isIn] at hin; done)) _ s3)⟩
        | true =>
          refine ⟨_, rfl, _, rfl, bF rfl ?_⟩
          cases e with
          | int i =>
            cases hx
            exact ⟨_, rfl, _, _, rfl, rfl, q0 _ e9 _ s3⟩
          | _ => first | (simp [isIn] at hin; done) | (simp [bl2] at hb; done)
  refine ifF (fun e => z1 (V.str.inj e)) ?_
  refine ⟨_, rfl, rfl, _, rfl, ?_⟩
  by_cases z2 : z = "t"
  · refine ifT (by rw [z2]) ?_
    have e8 : fitL z e = (isSt e && !inBad e) := by simp only [fitL]; rw [if_neg z1, if_pos z2]
    refine ⟨_, rfl, x, e, _, _, _, rfl, hx, .ty _, kitS T e, _, rfl, ?_⟩
    cases hst : isSt e with
    | false => exact bF rfl (q0 _ (by rw [e8, hst]; rfl) _ (Same.refl H))
    | true =>
      have hb : bl2 e = false := by cases e <;> first | rfl | (simp [isSt] at hst; done)
      refine bT rfl ⟨_, rfl, _, _, rfl, rfl, smul25, (by show 2 ≤ sizeLine; decide), fun l hl => ?_⟩
      rw [smul25v]
      have s2 := same_new (o := .lst [.str "\n", .str "xxxxxxxxxxxxxxxxxxxxxxxxx"]) hl
      refine ⟨l, _, badS, e, rfl, upd_same, .cons (.str _) (.cons (.str _) .nil), hx.same s2, pool_wrd he hb, by decide +kernel, by decide +kernel, by have := pool_sz he; omega, by decide +kernel, fun H' s' => ?_⟩
      exact q0 _ (by rw [e8, hst, Bool.true_and]; rfl) _ (s2.trans s')
  refine ifF (fun e => z2 (V.str.inj e)) ?_
  have e8 : fitL z e = match e with | .int i => decide (0 ≤ i) && decide (i < if z = "g" then 24 else 16) | _ => false := by unfold fitL; rw [if_neg z1, if_neg z2]; cases e <;> rfl
  refine ⟨_, rfl, x, e, _, _, _, rfl, hx, .ty _, kitI T e, ?_⟩
  cases hin : isIn e with
  | false =>
    refine ⟨_, rfl, bT rfl (q0 _ (by rw [e8]; cases e <;> first | rfl | (simp [isIn] at hin; done)) _ (Same.refl H))⟩
  | true =>
    refine ⟨_, rfl, bF rfl ?_⟩
    refine ⟨_, rfl, x, e, _, _, _, rfl, hx, .ty _, kitB T e, _, rfl, ?_⟩
    cases e with
    | bl b => exact bT rfl (q0 _ e8 _ (Same.refl H))
    | int i =>
      refine bF rfl ?_
      cases hx
      have e7 : fitL z (.int i) = (decide (0 ≤ i) && decide (i < if z = "g" then 24 else 16)) := e8
      unfold tNext
      dsimp only
      refine ⟨_, rfl, _, _, rfl, rfl, _, rfl, ite2 (fun c => ?_) (fun c => ?_)⟩
      · intro dd hd
        refine ⟨upd_same, [(.inr "g", .int 24), (.inr "p", .int 16)], rfl, by show 2 ≤ 15; decide, ?_⟩
        rw [show mergeK [] [((.inr "g" : Key), V.int 24), (.inr "p", .int 16)] = [(.inr "g", .int 24), (.inr "p", .int 16)] by decide +kernel]
        have s2 := same_put (o := .dK [((.inr "g" : Key), V.int 24), (.inr "p", .int 16)]) (same_new (o := .dK []) hd) hd
        have hz2 : z = "g" ∨ z = "p" := by rcases hz with h | h | h | h <;> first | exact .inl h | exact .inr h | exact absurd h z1 | exact absurd h z2
        have hv : valV [((.inr "g" : Key), V.int 24), (.inr "p", .int 16)] (.inr z) = some (.int (if z = "g" then 24 else 16)) := by
          rcases hz2 with rfl | rfl <;> decide +kernel
        have hg := DGet.k (H := upd (upd H dd (.dK [])) dd (.dK [((.inr "g" : Key), V.int 24), (.inr "p", .int 16)])) (k := .inr z) upd_same
        rw [hv] at hg
        refine ⟨_, rfl, dd, _, rfl, hg, _, _, rfl, rfl, q0 _ ?_ _ s2⟩
        rw [e7, c, Bool.true_and]
      · exact q0 _ (by rw [e7, show decide (0 ≤ i) = false from by simpa using c]; rfl) _ (Same.refl H)
    | _ => simp [isIn] at hin
end
end Hc

set_option maxHeartbeats 8000000
namespace Hc
open PySem PySem.Spec PyProof.Rows L2 Hr
def chs (z : Str) : List Str := z.cps.toList.map fun c => ⟨#[c]⟩
def shL : List (Str × Str) := [("freeze", "g"), ("thaw", "g"), ("seal", "gp"), ("seal_cpu", "gg"), ("give", "gt"), ("ticket", "g"), ("come", "ggw"), ("place", "ggpw"), ("strike", "gp"), ("place_cpu", "ggw"), ("begin", "g")]
def shZ (k : Str) : Option Str := (shL.find? fun p => decide (p.1 = k)).map (·.2)
def nmL : List Str := movesL ++ moreV
def nmDs : List D := nmL.map D.str ++ [.int 3, .non, .tup [.str "freeze"]]
theorem sh_val : ∀ k ∈ nmL, valV shK11 (.inr k) = (shZ k).map V.str := by decide +kernel
def neI : D → D → Bool | .int i, .int j => !decide (i = j) | _, _ => true
def lshD (zs : List Str) (ds : List D) : Bool := decide (ds.length = zs.length) && ((ds.zip zs).all fun p => fitL p.2 p.1) && (decide (zs.length < 2) || !decide (zs.getD 1 "" = "g") || neI (ds.getD 0 .non) (ds.getD 1 .non))
def lmvD (v : D) : Bool := match v with
  | .tup (.str k :: ds) => (match shZ k with | none => false | some sh => lshD (chs sh) ds)
  | _ => false
def CallOk (v : D) : Prop := (∃ n ds, v = .tup (n :: ds) ∧ n ∈ nmDs ∧ (∀ e ∈ ds, poolOk e) ∧ ds.length ≤ 6) ∨ v ∈ [D.non, .tup [], .int 7] ∨ (∃ k, v = .str k) ∨ (∃ ds, v = .lst ds) ∨ (∃ ds, v = .tup [.lst ds])
theorem nd1 (i : Int) : nDist [i] = 1 := rfl
theorem nd2 (i j : Int) : nDist [i, j] = if i = j then 1 else 2 := by
  show (firstMet (fun k => [i, j].getD k 0) 2).length = _
  rw [firstMet_succ, firstMet_succ, firstMet_zero]
  by_cases h : i = j
  · subst h; simp [step_dedup]
  · simp [step_dedup, h]
theorem fs_sh : ∀ k ∈ nmL, formsV k = (shZ k).map fun sh => (chs sh).map srtV := by decide +kernel
theorem sh_six : ∀ k ∈ nmL, ∀ sh, shZ k = some sh → chs sh ∈ ([["g"], ["g", "p"], ["g", "g"], ["g", "t"], ["g", "g", "w"], ["g", "g", "p", "w"]] : List (List Str)) := by
  have h : ∀ k ∈ nmL, (match shZ k with | none => true | some sh => ([["g"], ["g", "p"], ["g", "g"], ["g", "t"], ["g", "g", "w"], ["g", "g", "p", "w"]] : List (List Str)).any fun z => decide (z = chs sh)) = true := by decide +kernel
  intro k hk sh e
  have := h k hk
  rw [e] at this
  obtain ⟨z, hz, hz2⟩ := List.any_eq_true.mp this
  rw [← of_decide_eq_true hz2]; exact hz
theorem low_g {a : D} (h : partB "granule" a = true) : ∃ i, a = .int i := by
  rw [show partB "granule" a = belD a 24 by simp only [partB]; rw [if_neg zz3, if_pos trivial]] at h
  cases a <;> first | exact ⟨_, rfl⟩ | (simp [belD] at h; done)
theorem sg : srtV "g" = "granule" := by decide +kernel
theorem sp : srtV "p" = "page" := by decide +kernel
theorem st' : srtV "t" = "text" := by decide +kernel
theorem sw : srtV "w" = "word" := by decide +kernel
theorem ngp : ¬ (("p" : Str) = "g") := by decide +kernel
theorem ngt : ¬ (("t" : Str) = "g") := by decide +kernel
/-- the law's reading of a call is that of the forms -/
theorem sh_eq {zs : List Str} {ds : List D} (hz : zs ∈ ([["g"], ["g", "p"], ["g", "g"], ["g", "t"], ["g", "g", "w"], ["g", "g", "p", "w"]] : List (List Str))) (hd : ∀ e ∈ ds, poolOk e) : lshD zs ds = apD (some (zs.map srtV)) ds := by
  have fe : ∀ z, srtZ z → ∀ e ∈ ds, fitL z e = partB (srtV z) e := fun z h e he => fit_eq h (hd e he)
  have G : srtZ "g" := .inl rfl
  have Pp : srtZ "p" := .inr (.inl rfl)
  have Tt : srtZ "t" := .inr (.inr (.inl rfl))
  have Ww : srtZ "w" := .inr (.inr (.inr rfl))
  simp only [List.mem_cons, List.not_mem_nil, or_false] at hz
  rcases hz with rfl | rfl | rfl | rfl | rfl | rfl
  · match ds with
    | [a] =>
      simp only [lshD, apD, List.map, List.zip_cons_cons, List.zip_nil_left, List.all_cons, List.all_nil, fe _ G a (by simp), sg]
      cases h : partB "granule" a with
      | false => simp
      | true =>
        obtain ⟨i, rfl⟩ := low_g h
        simp [grZ, intO, nd1]
    | [] => rfl
    | a :: b :: r => simp [lshD, apD]
  · match ds with
    | [a, b] =>
      simp only [lshD, apD, List.map, List.zip_cons_cons, List.zip_nil_left, List.all_cons, List.all_nil, fe _ G a (by simp), fe _ Pp b (by simp), sg, sp]
      cases h : partB "granule" a with
      | false => simp
      | true =>
        obtain ⟨i, rfl⟩ := low_g h
        simp [grZ, intO, nd1, zz6, ngp]
    | [] => rfl
    | [a] => rfl
    | a :: b :: c :: r => simp [lshD, apD]
  · match ds with
    | [a, b] =>
      simp only [lshD, apD, List.map, List.zip_cons_cons, List.zip_nil_left, List.all_cons, List.all_nil, fe _ G a (by simp), fe _ G b (by simp), sg]
      cases h : partB "granule" a with
      | false => simp
      | true =>
        cases h2 : partB "granule" b with
        | false => simp
        | true =>
          obtain ⟨i, rfl⟩ := low_g h
          obtain ⟨j, rfl⟩ := low_g h2
          by_cases e : i = j <;> simp [grZ, intO, nd2, neI, e]
    | [] => rfl
    | [a] => rfl
    | a :: b :: c :: r => simp [lshD, apD]
  · match ds with
    | [a, b] =>
      simp only [lshD, apD, List.map, List.zip_cons_cons, List.zip_nil_left, List.all_cons, List.all_nil, fe _ G a (by simp), fe _ Tt b (by simp), sg, st']
      cases h : partB "granule" a with
      | false => simp
      | true =>
        obtain ⟨i, rfl⟩ := low_g h
        simp [grZ, intO, nd1, zz1, ngt]
    | [] => rfl
    | [a] => rfl
    | a :: b :: c :: r => simp [lshD, apD]
  · match ds with
    | [a, b, c] =>
      simp only [lshD, apD, List.map, List.zip_cons_cons, List.zip_nil_left, List.all_cons, List.all_nil, fe _ G a (by simp), fe _ G b (by simp), fe _ Ww c (by simp), sg, sw]
      cases h : partB "granule" a with
      | false => simp
      | true =>
        cases h2 : partB "granule" b with
        | false => simp
        | true =>
          obtain ⟨i, rfl⟩ := low_g h
          obtain ⟨j, rfl⟩ := low_g h2
          by_cases e : i = j <;> simp [grZ, intO, nd2, neI, e, zz8]
    | [] => rfl
    | [a] => rfl
    | [a, b] => rfl
    | a :: b :: c :: e :: r => simp [lshD, apD]
  · match ds with
    | [a, b, c, e0] =>
      simp only [lshD, apD, List.map, List.zip_cons_cons, List.zip_nil_left, List.all_cons, List.all_nil, fe _ G a (by simp), fe _ G b (by simp), fe _ Pp c (by simp), fe _ Ww e0 (by simp), sg, sp, sw]
      cases h : partB "granule" a with
      | false => simp
      | true =>
        cases h2 : partB "granule" b with
        | false => simp
        | true =>
          obtain ⟨i, rfl⟩ := low_g h
          obtain ⟨j, rfl⟩ := low_g h2
          by_cases e : i = j <;> simp [grZ, intO, nd2, neI, e, zz8, zz6]
    | [] => rfl
    | [a] => rfl
    | [a, b] => rfl
    | [a, b, c] => rfl
    | a :: b :: c :: e :: g :: r => simp [lshD, apD]
theorem mv_eq {v : D} (h : CallOk v) : lmvD v = movD v := by
  rcases h with ⟨n, ds, rfl, hn, hd, _⟩ | h | ⟨k, rfl⟩ | ⟨ds, rfl⟩ | ⟨ds, rfl⟩
  · cases n with
    | str k =>
      have hk : k ∈ nmL := by
        unfold nmDs at hn
        rcases List.mem_append.mp hn with hn | hn
        · obtain ⟨k', h1, h2⟩ := List.mem_map.mp hn
          cases h2; exact h1
        · simp at hn
      simp only [lmvD, movD]
      rw [fs_sh k hk]
      cases hs : shZ k with
      | none => rfl
      | some sh => exact sh_eq (sh_six k hk sh hs) hd
    | _ => rfl
  · simp only [List.mem_cons, List.not_mem_nil, or_false] at h
    rcases h with rfl | rfl | rfl <;> rfl
  · rfl
  · rfl
  · rfl
end Hc

set_option maxHeartbeats 8000000
namespace Hc
open PySem PySem.Spec PyProof.Rows L2 Hr
theorem call_mv {v : D} (h : CallOk v) : MvOk v := by
  rcases h with ⟨n, ds, rfl, hn, hd, hl⟩ | h | ⟨k, rfl⟩ | ⟨ds, rfl⟩ | ⟨ds, rfl⟩
  · cases n with
    | str k =>
      have hk : k ∈ nmL := by
        unfold nmDs at hn
        rcases List.mem_append.mp hn with hn | hn
        · obtain ⟨k', h1, h2⟩ := List.mem_map.mp hn
          cases h2; exact h1
        · simp at hn
      refine ⟨?_, by omega, fun e he => pool_fit (hd e he)⟩
      rcases List.mem_append.mp hk with h | h
      · have h3 : ∀ k ∈ movesL, (movF.any fun p => decide (p.1 = k)) = true := by decide +kernel
        obtain ⟨p, h1, h2⟩ := List.any_eq_true.mp (h3 k h)
        exact .inl ⟨p, h1, of_decide_eq_true h2⟩
      · exact .inr h
    | _ => trivial
  · simp only [List.mem_cons, List.not_mem_nil, or_false] at h
    rcases h with rfl | rfl | rfl <;> trivial
  · trivial
  · trivial
  · trivial
theorem kitT {K : PySem.W.Frag} {mg : Str → Option Value} {w : World} {C : Addr} (T : Txt K mg w C) (e : D) : PySem.W.kitOne K (kyU C e) (.type "tuple") = some (isTu2 e) := by
  rw [T.kit e "tuple" (by simp)]; cases e <;> rfl
def spLMv (C : Addr) : Sp := fun vs H Q _ => ∃ x v, vs = [x] ∧ Is C H x v ∧ CallOk v ∧ ∀ H', Same H H' → Q (.bl (lmvD v)) H'
theorem sh_len : ∀ k ∈ nmL, ∀ sh, shZ k = some sh → sh.length ≤ 4 ∧ (chs sh).length = sh.length := by
  have h : ∀ k ∈ nmL, (match shZ k with | none => true | some sh => decide (sh.length ≤ 4) && decide ((chs sh).length = sh.length)) = true := by decide +kernel
  intro k hk sh e
  have := h k hk
  rw [e] at this
  simpa using this
theorem chs_at {z : Str} {i : Nat} {c : Nat} (h : z.cps.toList[i]? = some c) : (chs z)[i]? = some ⟨#[c]⟩ := by
  unfold chs; rw [List.getElem?_map, h]; rfl
theorem sh_srt : ∀ k ∈ nmL, ∀ sh, shZ k = some sh → ∀ z ∈ chs sh, srtZ z := by
  have h : ∀ k ∈ nmL, (match shZ k with | none => true | some sh => (chs sh).all fun z => decide (z = "g") || decide (z = "p") || decide (z = "t") || decide (z = "w")) = true := by decide +kernel
  intro k hk sh e z hz
  have := h k hk
  rw [e] at this
  have := List.all_eq_true.mp this z hz
  simp only [Bool.or_eq_true, decide_eq_true_eq] at this
  rcases this with ((h | h) | h) | h
  · exact .inl h
  · exact .inr (.inl h)
  · exact .inr (.inr (.inl h))
  · exact .inr (.inr (.inr h))
section
variable {P : Program} {w : World} {K : PySem.W.Frag} {mg : Str → Option Value} {base : Heap} {f : Addr} {fd : FuncData} {C : Addr}
abbrev s__law_is_move : Stmt := top 73
theorem sc__law_is_move : FnScope ["value", "shapes", "shape", "k"] ["value"] (C8.fnScope s__law_is_move) := C8.fnScope_by (by decide +kernel)
theorem ok__law_is_move (F : C8.Def K mg "_law_is_move" s__law_is_move f fd) (b : Binds K fd ["value"] []) (T : Txt K mg w C) (c__law_shapes : C8.Cal P w K mg base 1 "_law_shapes" spShp []) (c__law_fits : C8.Cal P w K mg base 7 "_law_fits" (spFits C) []) : C8.Cal P w K mg base 8 "_law_is_move" (spLMv C) [] := by
  refine C8.cal0 F b .nil sc__law_is_move (fun vs H Q E h => ?_) (fun cdv A outer s H vs Q E hr h => ?_)
  · obtain ⟨x, v, rfl, _⟩ := h; rfl
  obtain ⟨x, v, rfl, hx, hc, q⟩ := h
  refine ⟨_, (pss_cons (ps_set (i := 1) sc__law_is_move.nd rfl (Or.inl rfl) (Hr.pe_c0 c__law_shapes hr (by first | decide | omega) rfl))
      (pss_cons (ps_if (PW.pt (pw_or (pt_not (pt_val (pe_callB (call_isiA T.cl) rfl T.z_isinstance bt_isinstance (pa_cons (pv 0) (pa_cons (pe_bltn (v := .ty "tuple") rfl T.z_tuple bt_tuple rfl) pa_nil))))) (pw_or (pt_cmpR op_eq (pe_callB call_lenS rfl T.z_len bt_len (pa_cons (pv 0) pa_nil)) pe_int (nomark _)) (pw_or (pt_not (pt_val (pe_callB (call_isiA T.cl) rfl T.z_isinstance bt_isinstance (pa_cons (pe_ix ix_tup (pv 0) pe_int (fun _ _ => rfl)) (pa_cons (pe_bltn (v := .ty "str") rfl T.z_str bt_str rfl) pa_nil))))) (pw_or1 (pt_cmp (pc_dnotin (ru hr) (pe_ix ix_tup (pv 0) pe_int (fun _ _ => rfl)) (pv 1)))))))) (pss_one (ps_ret pe_bl)) pss_nil)
      (pss_cons (ps_set (i := 2) sc__law_is_move.nd rfl (Or.inl rfl) (pe_dget (ru hr) (pv 1) (pe_ix ix_tup (pv 0) pe_int (fun _ _ => rfl)) (fun _ _ => rfl)))
      (pss_cons (ps_if (pt_cmpR op_ne (pe_callB call_lenS rfl T.z_len bt_len (pa_cons (pv 0) pa_nil)) (pe_op op_add (pe_callB call_len_str rfl T.z_len bt_len (pa_cons (pv 2) pa_nil)) pe_int) (nomark _)) (pss_one (ps_ret pe_bl)) pss_nil)
      (C8.pss_cut (ps_for PassesOwn.never rfl (pi_range1 rfl T.z_range (pa_cons (pe_callB call_len_str rfl T.z_len bt_len (pa_cons (pv 2) pa_nil)) pa_nil)) (pg_name (i := 3) sc__law_is_move.nd rfl (Or.inl rfl))
      (pss_one (ps_if (pt_not (pt_val (C8.pe_c c__law_fits hr (by first | decide | omega) rfl (pa_cons (pe_ix ix_str (pv 2) (pv 3) (fun _ _ => rfl)) (pa_cons (pe_ix ix_tup (pv 0) (pe_op op_add (pv 3) pe_int) (fun _ _ => rfl)) pa_nil))))) (pss_one (ps_ret pe_bl)) pss_nil)))
      (pss_one (ps_ret (pe_or (pe_cmpR op_lt (pe_callB call_len_str rfl T.z_len bt_len (pa_cons (pv 2) pa_nil)) pe_int (nomark _)) (pe_or (pe_cmpR op_ne (pe_ix ix_str (pv 2) pe_int (fun _ _ => rfl)) pe_str (nomark _)) (pe_one (pe_cmpR op_ne (pe_ix ix_tup (pv 0) pe_int (fun _ _ => rfl)) (pe_ix ix_tup (pv 0) pe_int (fun _ _ => rfl)) (nomark _)))))))))))), ?_⟩
  refine ⟨rfl, fun H1 sd s1 hd0 hd => ?_⟩
  have hx1 := hx.same s1
  have q0 : ∀ b, lmvD v = b → ∀ H', Same H1 H' → Q (.bl b) H' := fun b e H' s' => by rw [← e]; exact q H' (s1.trans s')
  refine ⟨_, rfl, x, v, _, _, _, rfl, hx1, .ty _, kitT T v, _, rfl, ?_⟩
  cases ht : isTu2 v with
  | false => exact bT rfl (q0 _ (by cases v <;> first | rfl | (simp [isTu2] at ht; done)) H1 (Same.refl H1))
  | true =>
  refine bF rfl ?_
  obtain ⟨vs, rfl⟩ : ∃ vs, v = .tup vs := by cases v <;> first | exact ⟨_, rfl⟩ | (simp [isTu2] at ht; done)
  cases hx1 with
  | @tup a xs _ ha hxs =>
  have hl := hxs.len
  refine ⟨_, rfl, a, xs, rfl, .inr (SqT.of ha), rfl, _, rfl, ?_⟩
  cases hxs with
  | nil => exact ifT rfl (q0 _ rfl H1 (Same.refl H1))
  | @cons y ys n ds hy hys =>
  refine ifF (fun z => by have := V.int.inj z; simp at this; omega) ?_
  refine ⟨_, rfl, a, _, 0, y, rfl, rfl, SqT.of ha, atI_nat (j := 0) rfl, y, n, _, _, _, rfl, hy, .ty _, kitS T n, _, rfl, ?_⟩
  cases hs : isSt n with
  | false => exact bT rfl (q0 _ (by cases n <;> first | rfl | (simp [isSt] at hs; done)) H1 (Same.refl H1))
  | true =>
  refine bF rfl ?_
  obtain ⟨k, rfl⟩ : ∃ k, n = .str k := by cases n <;> first | exact ⟨_, rfl⟩ | (simp [isSt] at hs; done)
  cases hy
  obtain ⟨hk, hpool, hlen⟩ : k ∈ nmL ∧ (∀ e ∈ ds, poolOk e) ∧ ds.length ≤ 6 := by
    rcases hc with ⟨n, ds', e, hn, hd, hl⟩ | h | ⟨k, h⟩ | ⟨ds, h⟩ | ⟨ds, h⟩
    · cases e
      refine ⟨?_, hd, hl⟩
      unfold nmDs at hn
      rcases List.mem_append.mp hn with hn | hn
      · obtain ⟨k', h1, h2⟩ := List.mem_map.mp hn
        cases h2; exact h1
      · simp at hn
    · simp at h
    · cases h
    · cases h
    · cases h
  have hg := DGet.k (k := .inr k) hd
  rw [sh_val k hk] at hg
  refine ⟨_, rfl, a, _, 0, _, rfl, rfl, SqT.of ha, atI_nat (j := 0) rfl, _, rfl, sd, _, rfl, hg, _, rfl, ?_⟩
  cases hz : shZ k with
  | none => exact bT rfl (q0 _ (by simp only [lmvD, hz]) H1 (Same.refl H1))
  | some sh =>
  rw [hz] at hg
  have hg : DGet H1 sd (.str k) (some (.str sh)) := hg
  obtain ⟨hn4, hcl⟩ := sh_len k hk sh hz
  have hszl : sh.length ≤ sizeLine := Nat.le_trans hn4 (by decide)
  have eD : lmvD (.tup (.str k :: ds)) = lshD (chs sh) ds := by simp only [lmvD, hz]
  refine bF rfl ?_
  refine ⟨_, rfl, _, rfl, a, _, 0, _, rfl, rfl, SqT.of ha, atI_nat (j := 0) rfl, sd, _, rfl, hg, ?_⟩
  refine ⟨_, rfl, a, _, rfl, .inr (SqT.of ha), _, rfl, sh, rfl, hszl, _, _, rfl, rfl, rfl, _, rfl, ?_⟩
  have hyl := hys.len
  by_cases c3 : ds.length = sh.length
  · refine bF (by simp; omega) ?_
    have hzl : (ds.zip (chs sh)).length = ds.length := by rw [List.length_zip]; omega
    have eD2 : lmvD (.tup (.str k :: ds)) = (((ds.zip (chs sh)).all fun p => fitL p.2 p.1) && (decide ((chs sh).length < 2) || !decide ((chs sh).getD 1 "" = "g") || neI (ds.getD 0 .non) (ds.getD 1 .non))) := by
      rw [eD]; unfold lshD; rw [decide_eq_true (by omega), Bool.true_and]
    refine ⟨fun σ' H' => ∃ v3, σ' = [some (.ref a), some (.ref sd), some (.str sh), v3] ∧ Same H1 H' ∧ ((ds.zip (chs sh)).all fun p => fitL p.2 p.1) = true, ?_, ?_⟩
    · refine ⟨_, rfl, sh, rfl, hszl, sh.length, rfl, ?_⟩
      refine ⟨by omega, by omega, ?_⟩
      have hcz : sh.cps.toList.length = sh.length := by rw [Array.length_toList]; rfl
      refine for_it walk_range (fun i σ H' => ∃ v3, σ = [some (.ref a), some (.ref sd), some (.str sh), v3] ∧ Same H1 H' ∧ (((ds.zip (chs sh)).take i).all fun p => fitL p.2 p.1) = true) ⟨none, rfl, Same.refl H1, rfl⟩ (fun _ _ _ _ _ => trivial) ?_ ?_
      · rintro i x σ H2 H3 hi ⟨v3, rfl, s3, hall⟩ ⟨rfl, rfl⟩
        have hi : i < sh.length := by omega
        obtain ⟨c, hcc⟩ : ∃ c, sh.cps.toList[i]? = some c := ⟨sh.cps.toList[i]'(by omega), List.getElem?_eq_getElem _⟩
        obtain ⟨e, he⟩ : ∃ e, ds[i]? = some e := ⟨ds[i]'(by omega), List.getElem?_eq_getElem _⟩
        obtain ⟨y, hy, iy⟩ := hys.get he
        have hch := chs_at hcc
        have hy1 : (V.str k :: ys)[i + 1]? = some y := by simpa using hy
        refine ⟨_, rfl, _, rfl, sh, _, c, rfl, rfl, hszl, (by have := atI_nat hcc; simpa using this), _, rfl, _, rfl, _, _, rfl, rfl, a, _, _, y, rfl, rfl, SqT.of (s3 _ _ ha), (by have := atI_nat hy1; rw [show (0 : Int) + (i : Nat) + 1 = ((i + 1 : Nat) : Int) by omega]; exact this), y, e, _, rfl, iy.same s3, sh_srt k hk sh hz _ (List.mem_of_getElem? hch), hpool e (List.mem_of_getElem? he), fun H4 s4 => ⟨_, rfl, ?_⟩⟩
        have hpz : (ds.zip (chs sh))[i]? = some (e, ⟨#[c]⟩) := by rw [List.getElem?_zip_eq_some]; exact ⟨he, hch⟩
        cases hf : fitL ⟨#[c]⟩ e with
        | true =>
          refine bF rfl ⟨_, rfl, s3.trans s4, ?_⟩
          rw [List.take_add_one, hpz, List.all_append, hall]
          simp [hf]
        | false =>
          refine bT rfl (q0 _ ?_ _ (s3.trans s4))
          rw [eD2]
          have : ((ds.zip (chs sh)).all fun p => fitL p.2 p.1) = false := by
            refine Bool.eq_false_iff.mpr fun h => ?_
            have := List.all_eq_true.mp h _ (List.mem_of_getElem? hpz)
            rw [hf] at this; cases this
          rw [this]; rfl
      · rintro σ H2 ⟨v3, rfl, s3, hall⟩
        rw [List.take_of_length_le (by omega)] at hall
        exact ⟨_, rfl, s3, hall⟩
    · rintro σ' H' ⟨v3, rfl, s3, hall⟩
      rw [hall, Bool.true_and] at eD2
      refine ⟨_, rfl, sh, rfl, hszl, _, _, rfl, rfl, _, rfl, ite2 (fun c => ?_) (fun c => ?_)⟩
      · have : decide ((chs sh).length < 2) = true := by rw [hcl]; have := of_decide_eq_true c; exact decide_eq_true (by omega)
        exact q0 _ (by rw [eD2, this]; rfl) _ s3
      · have h2 : 2 ≤ sh.length := by simp at c; omega
        have : decide ((chs sh).length < 2) = false := by rw [hcl]; exact decide_eq_false (by omega)
        rw [this, Bool.false_or] at eD2
        have hcz : sh.cps.toList.length = sh.length := by rw [Array.length_toList]; rfl
        obtain ⟨c1, hcc⟩ : ∃ c, sh.cps.toList[1]? = some c := ⟨sh.cps.toList[1]'(by omega), List.getElem?_eq_getElem _⟩
        have hch := chs_at hcc
        have hgd : (chs sh).getD 1 "" = ⟨#[c1]⟩ := by rw [List.getD_eq_getElem?_getD, hch]; rfl
        rw [hgd] at eD2
        refine ⟨_, rfl, sh, 1, c1, rfl, rfl, hszl, atI_nat (j := 1) hcc, rfl, _, rfl, ?_⟩
        by_cases cg : (⟨#[c1]⟩ : Str) = "g"
        · refine bF (by rw [cg]; simp) ?_
          rw [decide_eq_true cg] at eD2
          obtain ⟨e0, he0⟩ : ∃ e, ds[0]? = some e := ⟨ds[0]'(by omega), List.getElem?_eq_getElem _⟩
          obtain ⟨e1, he1⟩ : ∃ e, ds[1]? = some e := ⟨ds[1]'(by omega), List.getElem?_eq_getElem _⟩
          obtain ⟨y0, hy0, iy0⟩ := hys.get he0
          obtain ⟨y1, hy1, iy1⟩ := hys.get he1
          have g0 : ds.getD 0 .non = e0 := by rw [List.getD_eq_getElem?_getD, he0]; rfl
          have g1 : ds.getD 1 .non = e1 := by rw [List.getD_eq_getElem?_getD, he1]; rfl
          rw [g0, g1] at eD2
          obtain ⟨z0, hz0, hz01⟩ : ∃ z : Str, (chs sh)[0]? = some z ∧ z = ("g" : Str) := by
            have h6 := sh_six k hk sh hz
            have h7 : ∀ zs ∈ ([["g"], ["g", "p"], ["g", "g"], ["g", "t"], ["g", "g", "w"], ["g", "g", "p", "w"]] : List (List Str)), zs[0]? = some ("g" : Str) := by decide +kernel
            exact ⟨_, h7 _ h6, rfl⟩
          have f0 : fitL "g" e0 = true := by
            have hp : (ds.zip (chs sh))[0]? = some (e0, z0) := by rw [List.getElem?_zip_eq_some]; exact ⟨he0, hz0⟩
            rw [← hz01]
            exact List.all_eq_true.mp hall _ (List.mem_of_getElem? hp)
          have f1 : fitL "g" e1 = true := by
            have hp : (ds.zip (chs sh))[1]? = some (e1, ⟨#[c1]⟩) := by rw [List.getElem?_zip_eq_some]; exact ⟨he1, hch⟩
            rw [← cg]
            exact List.all_eq_true.mp hall _ (List.mem_of_getElem? hp)
          rw [fit_eq (.inl rfl) (hpool e0 (List.mem_of_getElem? he0)), sg] at f0
          rw [fit_eq (.inl rfl) (hpool e1 (List.mem_of_getElem? he1)), sg] at f1
          obtain ⟨i0, rfl⟩ := low_g f0
          obtain ⟨i1, rfl⟩ := low_g f1
          cases iy0
          cases iy1
          have hz1 : (V.str k :: ys)[1]? = some (.int i0) := by simpa using hy0
          have hz2 : (V.str k :: ys)[2]? = some (.int i1) := by simpa using hy1
          refine ⟨_, rfl, a, _, 1, _, rfl, rfl, SqT.of (s3 _ _ ha), atI_nat (j := 1) hz1, _, rfl, a, _, 2, _, rfl, rfl, SqT.of (s3 _ _ ha), atI_nat (j := 2) hz2, rfl, q0 _ ?_ _ s3⟩
          rw [eD2]
          by_cases h : i0 = i1
          · subst h; simp [neI]
          · simp [neI, h]
        · exact bT (by simp [cg]) (q0 _ (by rw [eD2, decide_eq_false cg]; rfl) _ s3)
  · refine bT (by simp; omega) (q0 _ (by rw [eD]; unfold lshD; rw [decide_eq_false (by omega)]; rfl) H1 (Same.refl H1))
end
end Hc
set_option maxHeartbeats 8000000
namespace Hc
open PySem PySem.Spec PyProof.Rows L2 Hr
/-- the list of the call's parts at cl, as it stands -/
def CSt (C d c cl : Addr) (m M : Nat) (H Hc H' : Hp) : Prop := Dr H' d c ∧ Bu2 d c H H' ∧ LDk Hc H' ∧ ∃ xn xs n ds, H' cl = some (.lst (xn :: xs)) ∧ Is C (nw Hc H') xn n ∧ IsA C (nw Hc H') xs ds ∧ n ∈ nmDs ∧ (∀ e ∈ ds, poolOk e) ∧ m ≤ ds.length ∧ ds.length ≤ M
structure CB (d c cl : Addr) (H Hc : Hp) : Prop where
  hD : Dr H d c
  off : H cl = none
  at_ : ∃ xs, Hc cl = some (.lst xs)
  dr : Dr Hc d c
  ld : LDk H Hc
theorem CSt.bu {C d c cl : Addr} {m M : Nat} {H Hc H' H'' : Hp} (B : CB d c cl H Hc) (S : CSt C d c cl m M H Hc H') (hD : Dr H'' d c) (b : Bu2 d c H' H'') : CSt C d c cl m M H Hc H'' := by
  obtain ⟨s1, s2, s3, xn, xs, n, ds, s4, s5, s6, s7, s8, s9⟩ := S
  have off := B.hD.off B.off
  exact ⟨hD, s2.trans b, s3.trans (LDk.bu hD b), xn, xs, n, ds, b _ _ s4 off.1 off.2, s5.same (nw_bu B.dr b), s6.same (nw_bu B.dr b), s7, s8, s9⟩
theorem CSt.new {C d c cl q : Addr} {m M : Nat} {H Hc H' : Hp} {o : HO} (B : CB d c cl H Hc) (S : CSt C d c cl m M H Hc H') (h : H' q = none) : CSt C d c cl m M H Hc (upd H' q o) := S.bu B (S.1.same (same_new h)) (Bu2.of (same_new h))
theorem CSt.put {C d c cl : Addr} {m M m' M' : Nat} {H Hc H' : Hp} {yn : V} {ys : List V} {n : D} {ds : List D} (B : CB d c cl H Hc) (S : CSt C d c cl m M H Hc H') (i1 : Is C (nw Hc H') yn n) (i2 : IsA C (nw Hc H') ys ds) (h1 : n ∈ nmDs) (h2 : ∀ e ∈ ds, poolOk e) (h3 : m' ≤ ds.length) (h4 : ds.length ≤ M') : CSt C d c cl m' M' H Hc (upd H' cl (.lst (yn :: ys))) := by
  obtain ⟨s1, s2, s3, xn, xs, n0, ds0, s4, s5, s6, s7, s8, s9⟩ := S
  have off := B.hD.off B.off
  obtain ⟨zs, hz⟩ := B.at_
  have sm : Same (nw Hc H') (nw Hc (upd H' cl (.lst (yn :: ys)))) := nw_upd hz rfl
  refine ⟨?_, fun b o e n1 n2 => ?_, fun b o e l => ?_, yn, ys, n, ds, upd_same, i1.same sm, i2.same sm, h1, h2, h3, h4⟩
  · obtain ⟨⟨r0, m0, f1⟩, ns, hn, f2⟩ := s1
    exact ⟨⟨r0, m0, by rw [upd_ne off.1.symm]; exact f1⟩, ns, hn, by rw [upd_ne off.2.symm]; exact f2⟩
  · rw [upd_ne (ne_of_none e B.off)]; exact s2 _ _ e n1 n2
  · by_cases hb : b = cl
    · subst hb; exact ⟨_, upd_same, rfl⟩
    · obtain ⟨o', e1, l1⟩ := s3 b o e l
      exact ⟨o', by rw [upd_ne hb]; exact e1, l1⟩
theorem ixN_of {n k : Nat} (h : k < n) : ixN n (k : Int) = some k := by
  unfold ixN
  rw [if_pos (by omega), if_pos (by omega)]; simp
theorem odd_pool {e : D} (h : e ∈ oddD) : poolOk e := .inr (.inl h)
theorem isA_set {C : Addr} {H : Hp} : ∀ {xs : List V} {ds : List D} {x : V} {d : D} (i : Nat), IsA C H xs ds → Is C H x d → IsA C H (xs.set i x) (ds.set i d)
  | _, _, _, _, _, .nil, _ => .nil
  | _, _, _, _, 0, .cons h t, g => .cons g t
  | _, _, _, _, i + 1, .cons h t, g => .cons h (isA_set i t g)
theorem prt_cln : clnL (wordsD ++ txtD) = true := by decide +kernel
theorem prt_clean {z : Str} {e : D} (h : prtOk z e) : cln e = true := by
  rcases h with ⟨_, i, h0, h1, rfl⟩ | ⟨_, i, h0, h1, rfl⟩ | ⟨_, h⟩ | ⟨_, h⟩
  · rfl
  · rfl
  · exact clnL_iff.mp prt_cln e (List.mem_append_right _ h)
  · exact clnL_iff.mp prt_cln e (List.mem_append_left _ h)
section
variable {P : Program} {w : World} {K : PySem.W.Frag} {mg : Str → Option Value} {base : Heap} {f : Addr} {fd : FuncData} {C : Addr}
abbrev s__law_call : Stmt := top 72
theorem sc__law_call : FnScope ["draws", "name", "shape", "call", "sort", "fault", "value"] ["draws"] (C8.fnScope s__law_call) := C8.fnScope_by (by decide +kernel)
theorem ok__law_call (F : C8.Def K mg "_law_call" s__law_call f fd) (b : Binds K fd ["draws"] []) (T : Txt K mg w C) (c__law_draw : C8.Cal P w K mg base 1 "_law_draw" spDraw []) (c__law_pick : C8.Cal P w K mg base 2 "_law_pick" spPick []) (c__law_shapes : C8.Cal P w K mg base 1 "_law_shapes" spShp []) (c__law_part : C8.Cal P w K mg base 8 "_law_part" (spPrt C) []) (c__law_odd : C8.Cal P w K mg base 3 "_law_odd" (spOne C (· ∈ oddD)) []) : C8.Cal P w K mg base 9 "_law_call" (spOne C CallOk) [] := by
  refine C8.cal0 F b .nil sc__law_call (fun vs H Q E h => ?_) (fun cdv A outer s H vs Q E hr h => ?_)
  · obtain ⟨d, c, rfl, _⟩ := h; rfl
  obtain ⟨d, c, rfl, hD, q⟩ := h
  obtain ⟨tM, gM, kM⟩ := T.moves
  refine ⟨_, (pss_cons (ps_set (i := 1) sc__law_call.nd rfl (Or.inl rfl) (C8.pe_c c__law_pick hr (by first | decide | omega) rfl (pa_cons (pv 0) (pa_cons (pe_callTy call_list_of rfl T.z_list bt_list (pa_cons (C8.pe_gc rfl gM) pa_nil)) pa_nil))))
      (pss_cons (ps_set (i := 2) sc__law_call.nd rfl (Or.inl rfl) (pe_dget (ru hr) (Hr.pe_c0 c__law_shapes hr (by first | decide | omega) rfl) (pv 1) (fun _ _ => rfl)))
      (pss_cons (ps_set (i := 3) sc__law_call.nd rfl (Or.inl rfl) (pe_op op_cat (pe_lst (pa_cons (pv 1) pa_nil)) (pe_lc (own := [("sort", 4)]) (g := gName 4) rfl sc__law_call.nd (pi_str (pv 2)) (blkOk_by (own := [("sort", 4)]) (N := ["draws", "name", "shape", "call", "sort", "fault", "value"]) (sc := C8.fnScope s__law_call) (by decide +kernel)) (fun _ _ _ _ _ => (pg_name (i := 4) sc__law_call.nd rfl (Or.inl rfl))) (fun _ _ _ _ _ => pts_nil) (fun _ _ _ _ _ => (C8.pe_c c__law_part hr (by first | decide | omega) rfl (pa_cons (pv 0) (pa_cons (pv 4) pa_nil)))))))
      (pss_cons (ps_set (i := 5) sc__law_call.nd rfl (Or.inl rfl) (C8.pe_c c__law_draw hr (by first | decide | omega) rfl (pa_cons (pv 0) (pa_cons pe_int pa_nil))))
      (C8.pss_cut (ps_if (pt_cmpR op_eq (pv 5) pe_int (nomark _)) (pss_one (ps_asg (C8.pe_c c__law_odd hr (by first | decide | omega) rfl (pa_cons (pv 0) pa_nil)) (pg_sub (pv 3) (pe_op op_add pe_int (C8.pe_c c__law_draw hr (by first | decide | omega) rfl (pa_cons (pv 0) (pa_cons (pe_callB call_len_str rfl T.z_len bt_len (pa_cons (pv 2) pa_nil)) pa_nil)))) set_list))) pss_nil)
      (C8.pss_cut (ps_if (pt_cmpR op_eq (pv 5) pe_int (nomark _)) (pss_one (ps_expr (pe_bm PySem.F.plainAttrs_list PySem.F.slot_list_append PySem.F.type_list_append mt_append (pv 3) (pa_cons (C8.pe_c c__law_odd hr (by first | decide | omega) rfl (pa_cons (pv 0) pa_nil)) pa_nil)))) pss_nil)
      (C8.pss_cut (ps_if (pt_cmpR op_eq (pv 5) pe_int (nomark _)) (pss_one (ps_expr (pe_bm0 PySem.F.plainAttrs_list PySem.F.slot_list_pop PySem.F.type_list_pop mt_pop (pv 3)))) pss_nil)
      (C8.pss_cut (ps_if (pt_cmpR op_eq (pv 5) pe_int (nomark _)) (pss_one (ps_asg (C8.pe_c c__law_pick hr (by first | decide | omega) rfl (pa_cons (pv 0) (pa_cons (pe_lst (pa_cons pe_str (pa_cons pe_str (pa_cons pe_str (pa_cons pe_int (pa_cons pe_non (pa_cons pe_str (pa_cons (pe_tup (pa_cons pe_str pa_nil)) (pa_cons pe_str pa_nil))))))))) pa_nil))) (pg_sub (pv 3) pe_int set_list))) pss_nil)
      (pss_cons (ps_set (i := 6) sc__law_call.nd rfl (Or.inl rfl) (pe_callTy call_tuple_of rfl T.z_tuple bt_tuple (pa_cons (pv 3) pa_nil)))
      (C8.pss_cut (ps_if (PW.pt (pw_and (pt_cmpR op_eq (pv 5) pe_int (nomark _)) (pw_and1 (pt_cmpR op_eq (C8.pe_c c__law_draw hr (by first | decide | omega) rfl (pa_cons (pv 0) (pa_cons pe_int pa_nil))) pe_int (nomark _))))) (pss_one (ps_set (i := 6) sc__law_call.nd rfl (Or.inl rfl) (C8.pe_c c__law_pick hr (by first | decide | omega) rfl (pa_cons (pv 0) (pa_cons (pe_lst (pa_cons (pe_callTy call_list_of rfl T.z_list bt_list (pa_cons (pv 3) pa_nil)) (pa_cons (pv 1) (pa_cons pe_non (pa_cons (pe_tup pa_nil) (pa_cons pe_int (pa_cons (pe_tup (pa_cons (pv 3) pa_nil)) pa_nil))))))) pa_nil))))) pss_nil)
      (pss_one (ps_ret (pv 6))))))))))))), ?_⟩
  refine ⟨_, rfl, tM, _, rfl, .inr (kM H), fun l0 hl0 => ?_⟩
  refine pick_new hD hl0 (by show 0 < 11; decide) (by show 11 < 1000000; decide) fun H1 x hD1 b1 hx => ?_
  obtain ⟨k, hkm, rfl⟩ := List.mem_map.mp hx
  have hk : k ∈ nmL := List.mem_append_left _ hkm
  clear hx
  refine ⟨rfl, fun H2 sd s2 hsd0 hsd => ?_⟩
  have hD2 := hD1.same s2
  have hg := DGet.k (k := .inr k) hsd
  rw [sh_val k hk] at hg
  obtain ⟨sh, hz⟩ : ∃ sh, shZ k = some sh := by
    have h : ∀ k ∈ movesL, (shZ k).isSome = true := by decide +kernel
    exact Option.isSome_iff_exists.mp (h k hkm)
  rw [hz] at hg
  have hg : DGet H2 sd (.str k) (some (.str sh)) := hg
  obtain ⟨hn4, hcl⟩ := sh_len k hk sh hz
  have hszl : sh.length ≤ sizeLine := Nat.le_trans hn4 (by decide)
  refine ⟨_, rfl, sd, _, rfl, hg, ?_⟩
  refine ⟨_, rfl, (by show 1 ≤ sizeLine; decide), fun l1 hl1 => ?_⟩
  have s3 := same_new (o := .lst [.str k]) hl1
  have e3 : (upd H2 l1 (.lst [.str k])) l1 = some (.lst [.str k]) := upd_same
  have hD3 := hD2.same s3
  have b3 : Bu2 d c H (upd H2 l1 (.lst [.str k])) := (b1.trans (Bu2.of s2)).trans (Bu2.of s3)
  generalize upd H2 l1 (.lst [.str k]) = H3 at *
  refine ⟨_, rfl, sh, rfl, fun Dl hDl => ?_⟩
  have hcz : sh.cps.size = sh.length := rfl
  have kH3 : LDk H H3 := LDk.bu hD3 b3
  refine drawn_lcV (walk_str (z := sh)) (d := d) (c := c) (C := C) (good := fun e => poolOk e ∧ cln e = true) (H0 := H) hD3 hDl (by omega) (fun _ => trivial) kH3 (fun i H x H' y => y.1) ?_ ?_
  · rintro i x Ha H4 R N hi ⟨rfl, ch, hch, rfl⟩ hD4 b4 kk
    have hch2 : sh.cps.toList[i]? = some ch := by rw [Array.getElem?_toList]; exact hch
    exact ⟨rfl, yes ⟨_, rfl, _, rfl, d, c, _, rfl, hD4, sh_srt k hk sh hz _ (List.mem_of_getElem? (chs_at hch2)), fun H5 x e hD5 b5 ie ho => kk H5 x e hD5 b5 ie ⟨prt_pool ho, prt_clean ho⟩⟩⟩
  intro H4 acc ws hD4 b4 hz4 ia hw hw'
  have o1 := hD2.off hl1
  have e4 := b4 _ _ e3 o1.1 o1.2
  have hal := ia.len
  have hw4 : ws.length ≤ 4 := by rw [hw]; exact hn4
  refine ⟨l1, Dl, _, _, rfl, rfl, e4, hz4, Nat.le_of_lt (small1000 (by simp; omega)), fun cl hcl0 => ?_⟩
  have b5 : Bu2 d c H H4 := b3.trans b4
  have hcH : H cl = none := by
    have h4 : ∀ o, H cl = some o → False := fun o e => by
      have n := hD.off (p := cl)
      by_cases z1 : cl = d
      · obtain ⟨⟨r, m, h1⟩, _⟩ := hD4
        rw [z1, h1] at hcl0; cases hcl0
      by_cases z2 : cl = c
      · obtain ⟨_, ns, _, h1⟩ := hD4
        rw [z2, h1] at hcl0; cases hcl0
      rw [b5 _ _ e z1 z2] at hcl0; cases hcl0
    cases h : H cl with
    | none => rfl
    | some o => exact absurd h (fun e => h4 o e)
  have s5 := same_new (o := .lst ([.str k] ++ acc)) hcl0
  have e5 : (upd H4 cl (.lst ([.str k] ++ acc))) cl = some (.lst (.str k :: acc)) := upd_same
  have hD5 := hD4.same s5
  have b6 : Bu2 d c H (upd H4 cl (.lst ([.str k] ++ acc))) := b5.trans (Bu2.of s5)
  have ia5 := (ia.same nw_le).same s5
  generalize upd H4 cl (.lst ([.str k] ++ acc)) = Hc at *
  have B : CB d c cl H Hc := ⟨hD, hcH, ⟨_, e5⟩, hD5, LDk.bu hD5 b6⟩
  have S0 : CSt C d c cl sh.length 4 H Hc Hc := ⟨hD5, b6, LDk.of (Same.refl Hc), .str k, acc, .str k, ws, e5, .str k, IsA.nw (LDk.of (Same.refl Hc)) (clnL_iff.mpr fun e he => (hw' e he).2) ia5, List.mem_append_left _ (List.mem_map.mpr ⟨k, hk, rfl⟩), fun e he => (hw' e he).1, by omega, by omega⟩
  clear hl0 hl1 hDl hz4 ia ia5 b6 b5 b4 b3 b1 s2 s3 s5 hsd hsd0 hD1 hD2 hD3 hD4 hg e3 e4 kH3
  refine ⟨_, rfl, d, c, 7, rfl, hD5, by decide, by decide, fun H6 r hD6 b7 g0 g1 => ?_⟩
  have S1 := S0.bu B hD6 b7
  have hshl : 1 ≤ sh.length := by
    have h6 := sh_six k hk sh hz
    have h7 : ∀ zs ∈ ([["g"], ["g", "p"], ["g", "g"], ["g", "t"], ["g", "g", "w"], ["g", "g", "p", "w"]] : List (List Str)), 1 ≤ zs.length := by decide +kernel
    have := h7 _ h6
    omega
  have hwl : ws.length = sh.length := by rw [hw]; rfl
  -- fault 0
  refine ⟨fun σ' H' => σ' = [some (.ref d), some (.str k), some (.str sh), some (.ref cl), none, some (.int r), none] ∧ CSt C d c cl sh.length 4 H Hc H', ?_, ?_⟩
  · refine ⟨_, rfl, rfl, _, rfl, ite2 (fun _ => ?_) (fun _ => ?_)⟩
    · refine ⟨_, rfl, d, c, rfl, hD6, fun H7 x e hD7 b8 ie he => ?_⟩
      have S2 := S1.bu B hD7 b8
      refine ⟨_, rfl, _, rfl, _, rfl, sh, rfl, hszl, d, c, _, rfl, hD7, by omega, by omega, fun H8 j hD8 b9 j0 j1 => ?_⟩
      have S3 := S2.bu B hD8 b9
      obtain ⟨_, _, _, xn, xs, n, ds, f4, f5, f6, f7, f8, f9, f10⟩ := id S3
      have fl := f6.len
      obtain ⟨jn, rfl⟩ : ∃ jn : Nat, j = (jn : Int) := ⟨j.toNat, by omega⟩
      have hset : (xn :: xs).set (jn + 1) x = xn :: xs.set jn x := rfl
      refine ⟨_, _, rfl, rfl, cl, _, _, jn + 1, rfl, rfl, f4, ?_, ?_⟩
      · rw [show (1 : Int) + (jn : Int) = ((jn + 1 : Nat) : Int) by omega]
        exact ixN_of (by simp; omega)
      · rw [hset]
        have i1 : IsA C (nw Hc H8) (xs.set jn x) (ds.set jn e) := isA_set jn f6 ((ie.same (nw_sub S1.2.2.1)).same (nw_bu B.dr b9))
        refine ⟨rfl, S3.put B f5 i1 f7 (fun e' he' => ?_) (by rw [List.length_set]; exact f9) (by rw [List.length_set]; exact f10)⟩
        rcases List.mem_or_eq_of_mem_set he' with h | h
        · exact f8 _ h
        · rw [h]; exact odd_pool he
    · exact ⟨rfl, S1⟩
  clear S1 hD6 b7
  -- fault 1
  rintro σ' Ha ⟨rfl, Sa⟩
  refine ⟨fun σ' H' => σ' = [some (.ref d), some (.str k), some (.str sh), some (.ref cl), none, some (.int r), none] ∧ CSt C d c cl sh.length 5 H Hc H', ?_, ?_⟩
  · refine ⟨_, rfl, rfl, _, rfl, ite2 (fun _ => ?_) (fun _ => ?_)⟩
    · obtain ⟨_, _, _, xn0, xs0, n0, ds0, g4, _⟩ := id Sa
      refine ⟨_, rfl, .inl ⟨rfl, _, SqL.of g4⟩, _, rfl, d, c, rfl, Sa.1, fun H7 x e hD7 b8 ie he => ?_⟩
      have S2 := Sa.bu B hD7 b8
      obtain ⟨_, _, _, xn, xs, n, ds, f4, f5, f6, f7, f8, f9, f10⟩ := id S2
      have fl := f6.len
      refine ⟨cl, _, x, rfl, rfl, f4, small1000 (by simp; omega), ?_⟩
      have i1 : IsA C (nw Hc H7) (xs ++ [x]) (ds ++ [e]) := f6.app (.cons (ie.same (nw_sub Sa.2.2.1)) .nil)
      refine ⟨rfl, S2.put B f5 i1 f7 (fun e' he' => ?_) (by simp; omega) (by simp; omega)⟩
      rcases List.mem_append.mp he' with h | h
      · exact f8 _ h
      · rw [List.mem_singleton.mp h]; exact odd_pool he
    · obtain ⟨s1, s2, s3, xn, xs, n, ds, f4, f5, f6, f7, f8, f9, f10⟩ := Sa
      exact ⟨rfl, s1, s2, s3, xn, xs, n, ds, f4, f5, f6, f7, f8, f9, by omega⟩
  clear Sa Ha
  -- fault 2
  rintro σ' Ha ⟨rfl, Sa⟩
  refine ⟨fun σ' H' => σ' = [some (.ref d), some (.str k), some (.str sh), some (.ref cl), none, some (.int r), none] ∧ CSt C d c cl 0 5 H Hc H', ?_, ?_⟩
  · obtain ⟨_, _, _, xn, xs, n, ds, f4, f5, f6, f7, f8, f9, f10⟩ := id Sa
    have fl := f6.len
    refine ⟨_, rfl, rfl, _, rfl, ite2 (fun _ => ?_) (fun _ => ?_)⟩
    · obtain ⟨ys, y, rfl⟩ : ∃ ys y, xs = ys ++ [y] := by
        rcases List.eq_nil_or_concat xs with h | ⟨a, b, h⟩
        · rw [h] at fl; simp at fl; omega
        · exact ⟨a, b, by rw [h, List.concat_eq_append]⟩
      refine ⟨_, rfl, .inl ⟨rfl, _, SqL.of f4⟩, cl, _, y, rfl, rfl, f4, by rw [← List.cons_append]; simp, ?_⟩
      have e9 : (xn :: (ys ++ [y])).dropLast = xn :: ys := by rw [← List.cons_append, List.dropLast_concat]
      rw [e9]
      obtain ⟨es, e0, rfl⟩ : ∃ es e0, ds = es ++ [e0] := by
        rcases List.eq_nil_or_concat ds with h | ⟨a, b, h⟩
        · rw [h] at fl; simp at fl
        · exact ⟨a, b, by rw [h, List.concat_eq_append]⟩
      have i1 : IsA C (nw Hc Ha) ys es := by
        have := isA_take ys.length f6
        have hle : ys.length = es.length := by simpa using fl
        rw [List.take_left' rfl, hle, List.take_left' rfl] at this
        exact this
      exact ⟨rfl, Sa.put B f5 i1 f7 (fun e' he' => f8 _ (List.mem_append_left _ he')) (Nat.zero_le _) (by simp at f10; omega)⟩
    · obtain ⟨s1, s2, s3, _⟩ := id Sa
      exact ⟨rfl, s1, s2, s3, xn, xs, n, ds, f4, f5, f6, f7, f8, Nat.zero_le _, f10⟩
  clear Sa Ha
  -- fault 3
  rintro σ' Ha ⟨rfl, Sa⟩
  refine ⟨fun σ' H' => σ' = [some (.ref d), some (.str k), some (.str sh), some (.ref cl), none, some (.int r), none] ∧ CSt C d c cl 0 5 H Hc H', ?_, ?_⟩
  · refine ⟨_, rfl, rfl, _, rfl, ite2 (fun _ => ?_) (fun _ => ?_)⟩
    · refine ⟨_, rfl, (by show 1 ≤ sizeLine; decide), fun tf htf => ?_⟩
      have sT := same_new (o := .tup [.str "freeze"]) htf
      have iT : Is C (nw Ha (upd Ha tf (.tup [.str "freeze"]))) (.ref tf) (.tup [.str "freeze"]) := .tup (nw_at htf upd_same) (.cons (.str _) .nil)
      have S1 := Sa.new (o := .tup [.str "freeze"]) B htf
      generalize upd Ha tf (.tup [.str "freeze"]) = Hb at *
      refine ⟨(by show 8 ≤ sizeLine; decide), fun l hl => ?_⟩
      refine pick_new S1.1 hl (by show 0 < 8; decide) (by show 8 < 1000000; decide) fun H7 x hD7 b8 hx => ?_
      have ia : IsA C (nw Ha Hb) [.str "Freeze", .str "", .str "move", .int 3, .non, .str "arrive", .ref tf, .str "seal"] [.str "Freeze", .str "", .str "move", .int 3, .non, .str "arrive", .tup [.str "freeze"], .str "seal"] := .cons (.str _) (.cons (.str _) (.cons (.str _) (.cons (.int _) (.cons .non (.cons (.str _) (.cons iT (.cons (.str _) .nil)))))))
      obtain ⟨e, he, ie⟩ := isA_mem ia hx
      have S2 := S1.bu B hD7 b8
      obtain ⟨_, _, _, xn, xs, n, ds, f4, f5, f6, f7, f8, f9, f10⟩ := id S2
      refine ⟨_, rfl, cl, _, 0, 0, rfl, rfl, f4, ixN_of (by simp), ?_⟩
      have hs : (xn :: xs).set 0 x = x :: xs := rfl
      rw [hs]
      have i0 : Is C (nw Hc H7) x e := (ie.same (nw_sub Sa.2.2.1)).same (nw_bu B.dr b8)
      have hn : e ∈ nmDs := by
        have h : ∀ e ∈ ([.str "Freeze", .str "", .str "move", .int 3, .non, .str "arrive", .tup [.str "freeze"], .str "seal"] : List D), e ∈ nmDs := by
          intro e he
          simp only [List.mem_cons, List.not_mem_nil, or_false] at he
          unfold nmDs nmL movesL moreV
          rcases he with rfl | rfl | rfl | rfl | rfl | rfl | rfl | rfl <;> simp
        exact h e he
      exact ⟨rfl, S2.put B i0 f6 hn f8 f9 f10⟩
    · exact ⟨rfl, Sa⟩
  clear Sa Ha
  -- the tuple
  rintro σ' Ha ⟨rfl, Sa⟩
  obtain ⟨hDa, ba, la, xn, xs, n, ds, f4, f5, f6, f7, f8, f9, f10⟩ := id Sa
  have fl := f6.len
  refine ⟨_, rfl, cl, _, rfl, .inl ⟨SqL.of f4, fun tv htv => ?_⟩⟩
  have sT := same_new (o := .tup (xn :: xs)) htv
  have S1 := Sa.new (o := .tup (xn :: xs)) B htv
  have ldH : LDk H Hc := B.ld
  have htv0 : H tv = none := by
    cases h : H tv with
    | none => rfl
    | some o =>
      exfalso
      by_cases z1 : tv = d
      · obtain ⟨⟨r, m, h1⟩, _⟩ := hDa
        rw [z1, h1] at htv; cases htv
      by_cases z2 : tv = c
      · obtain ⟨_, ns, _, h1⟩ := hDa
        rw [z2, h1] at htv; cases htv
      rw [ba _ _ h z1 z2] at htv; cases htv
  have iV : Is C (nw H (upd Ha tv (.tup (xn :: xs)))) (.ref tv) (.tup (n :: ds)) := by
    have s9 : Same (nw Hc Ha) (nw H (upd Ha tv (.tup (xn :: xs)))) := (nw_sub ldH).trans (nw_bu hD (Bu2.of sT))
    exact .tup (nw_at htv0 upd_same) (.cons (f5.same s9) (f6.same s9))
  have hc : CallOk (.tup (n :: ds)) := .inl ⟨n, ds, rfl, f7, f8, by omega⟩
  generalize upd Ha tv (.tup (xn :: xs)) = Hb at *
  refine ⟨fun σ' H' => ∃ x v, σ' = [some (.ref d), some (.str k), some (.str sh), some (.ref cl), none, some (.int r), some x] ∧ Dr H' d c ∧ Bu2 d c H H' ∧ Is C (nw H H') x v ∧ CallOk v, ?_, ?_⟩
  · have same : ∃ x v, ([some (.ref d), some (.str k), some (.str sh), some (.ref cl), none, some (.int r), some (.ref tv)] : L2.St) = [some (.ref d), some (.str k), some (.str sh), some (.ref cl), none, some (.int r), some x] ∧ Dr Hb d c ∧ Bu2 d c H Hb ∧ Is C (nw H Hb) x v ∧ CallOk v := ⟨_, _, rfl, S1.1, S1.2.1, iV, hc⟩
    refine ⟨_, rfl, rfl, _, rfl, ite2 (fun _ => ?_) (fun _ => same)⟩
    refine ⟨_, rfl, d, c, 3, rfl, S1.1, by decide, by decide, fun H7 j hD7 b7 _ _ => ⟨rfl, _, rfl, ite2 (fun _ => ?_) (fun _ => ?_)⟩⟩
    · have S2 := S1.bu B hD7 b7
      obtain ⟨_, b7', l7, xn, xs, n, ds, f4, f5, f6, f7, f8, f9, f10⟩ := id S2
      refine ⟨_, rfl, _, rfl, cl, _, rfl, .inl (SqL.of f4), fun la hla => ?_⟩
      have s1 := same_new (o := .lst (xn :: xs)) hla
      have hH0 : ∀ {X : Hp} {p : Addr}, Bu2 d c H X → Dr X d c → X p = none → H p = none := fun {X p} bX hX hp => by
        cases h : H p with
        | none => rfl
        | some o =>
          exfalso
          by_cases z1 : p = d
          · obtain ⟨⟨r, m, h1⟩, _⟩ := hX
            rw [z1, h1] at hp; cases hp
          by_cases z2 : p = c
          · obtain ⟨_, ns, _, h1⟩ := hX
            rw [z2, h1] at hp; cases hp
          rw [bX _ _ h z1 z2] at hp; cases hp
      have g5 := f5.same (nw_sub ldH)
      have g6 := f6.same (nw_sub ldH)
      have m1 : Same (nw H H7) (nw H (upd H7 la (.lst (xn :: xs)))) := nw_bu hD (Bu2.of s1)
      have i1 : Is C (nw H (upd H7 la (.lst (xn :: xs)))) (.ref la) (.lst (n :: ds)) := .lst (nw_at (hH0 b7' hD7 hla) upd_same) (.cons (g5.same m1) (g6.same m1))
      have k1 : Is C (nw H (upd H7 la (.lst (xn :: xs)))) (.ref cl) (.lst (n :: ds)) := .lst (nw_at hcH (s1 _ _ f4)) (.cons (g5.same m1) (g6.same m1))
      have hD8 := hD7.same s1
      have b8 : Bu2 d c H (upd H7 la (.lst (xn :: xs))) := b7'.trans (Bu2.of s1)
      generalize upd H7 la (.lst (xn :: xs)) = H8 at *
      refine ⟨_, rfl, (by show 0 ≤ sizeLine; decide), fun t0 ht0 => ?_⟩
      have s2 := same_new (o := .tup []) ht0
      have m2 : Same (nw H H8) (nw H (upd H8 t0 (.tup []))) := nw_bu hD (Bu2.of s2)
      have i2 : Is C (nw H (upd H8 t0 (.tup []))) (.ref t0) (.tup []) := .tup (nw_at (hH0 b8 hD8 ht0) upd_same) .nil
      have i1 := i1.same m2
      have k1 := k1.same m2
      have hD9 := hD8.same s2
      have b9 : Bu2 d c H (upd H8 t0 (.tup [])) := b8.trans (Bu2.of s2)
      generalize upd H8 t0 (.tup []) = H9 at *
      refine ⟨_, rfl, (by show 1 ≤ sizeLine; decide), fun t1 ht1 => ?_⟩
      have s3 := same_new (o := .tup [.ref cl]) ht1
      have m3 : Same (nw H H9) (nw H (upd H9 t1 (.tup [.ref cl]))) := nw_bu hD (Bu2.of s3)
      have i3 : Is C (nw H (upd H9 t1 (.tup [.ref cl]))) (.ref t1) (.tup [.lst (n :: ds)]) := .tup (nw_at (hH0 b9 hD9 ht1) upd_same) (.cons (k1.same m3) .nil)
      have i1 := i1.same m3
      have i2 := i2.same m3
      have hDA := hD9.same s3
      have bA : Bu2 d c H (upd H9 t1 (.tup [.ref cl])) := b9.trans (Bu2.of s3)
      generalize upd H9 t1 (.tup [.ref cl]) = HA at *
      refine ⟨(by show 6 ≤ sizeLine; decide), fun l hl => ?_⟩
      refine pick_new hDA hl (by show 0 < 6; decide) (by show 6 < 1000000; decide) fun HB x hDB bB hx => ?_
      have ia : IsA C (nw H HA) [.ref la, .str k, .non, .ref t0, .int 7, .ref t1] [.lst (n :: ds), .str k, .non, .tup [], .int 7, .tup [.lst (n :: ds)]] := .cons i1 (.cons (.str _) (.cons .non (.cons i2 (.cons (.int _) (.cons i3 .nil)))))
      obtain ⟨e, he, ie⟩ := isA_mem ia hx
      refine ⟨x, e, rfl, hDB, bA.trans bB, ie.same (nw_bu hD bB), ?_⟩
      simp only [List.mem_cons, List.not_mem_nil, or_false] at he
      rcases he with rfl | rfl | rfl | rfl | rfl | rfl
      · exact .inr (.inr (.inr (.inl ⟨_, rfl⟩)))
      · exact .inr (.inr (.inl ⟨_, rfl⟩))
      · exact .inr (.inl (by simp))
      · exact .inr (.inl (by simp))
      · exact .inr (.inl (by simp))
      · exact .inr (.inr (.inr (.inr ⟨_, rfl⟩)))
    · exact ⟨_, _, rfl, hD7, S1.2.1.trans b7, iV.same (nw_bu hD b7), hc⟩
  · rintro σ' H' ⟨x, v, rfl, h1, h2, h3, h4⟩
    exact ⟨_, rfl, q _ _ _ h1 h2 h3 h4⟩
end
end Hc

set_option maxHeartbeats 8000000
namespace Hc
open PySem PySem.Spec PyProof.Rows L2 Hr
abbrev stateD : List D := [.str "new", .str "active", .str "dying", .str "frozen", .str "", .tup [.str "freezing", .int 1], .tup [.str "frozen", .int 7], .tup [.str "gone", .int 2, .str "n"], .tup [.str "coming", .atom "ticket" tickE, .tup [.int 9]], .tup [.str "coming", .atom "ticket" tickE, .tup []], .tup [.str "freezing", .int 0], .tup [.str "frozen", .int (-3)], .tup [.str "gone", .int 2, .int 5], .tup [.str "gone", .int 2], .tup [.str "frozen", .int 2, .str "n"], .tup [.str "frozen"], .tup [.str "coming", .atom "ticket" tickE], .tup [.str "coming", .tup tickE, .tup []], .tup [.str "coming", .atom "ticket" tickE, .lst [.int 9]], .tup [.str "coming", .atom "ticket" tickE, .int 9], .tup [.str "gone", .str "2", .str "n"], .tup [.str "frozen", .bl true], .tup [.str "frozen", .lst [.int 1]], .tup [.str "frozen", .non], .tup [.int 1, .int 2], .tup [], .non, .int 3, .lst [.str "frozen", .int 1], .tup [.str "new", .int 1], .tup [.str "thaw", .int 2]]
section
variable {P : Program} {w : World} {K : PySem.W.Frag} {mg : Str → Option Value} {base : Heap} {f : Addr} {fd : FuncData} {C : Addr}
abbrev s__law_state : Stmt := top 74
theorem sc__law_state : FnScope ["draws", "ticket", "rows"] ["draws"] (C8.fnScope s__law_state) := C8.fnScope_by (by decide +kernel)
theorem ok__law_state (F : C8.Def K mg "_law_state" s__law_state f fd) (b : Binds K fd ["draws"] []) (T : Txt K mg w C) (c__law_pick : C8.Cal P w K mg base 2 "_law_pick" spPick []) (c__law_words : C8.Cal P w K mg base 7 "_law_words" (spWds C) []) : C8.Cal P w K mg base 8 "_law_state" (spOne C (· ∈ stateD)) [] := by
  refine C8.cal0 F b .nil sc__law_state (fun vs H Q E h => ?_) (fun cdv A outer s H vs Q E hr h => ?_)
  · obtain ⟨d, c, rfl, _⟩ := h; rfl
  obtain ⟨d, c, rfl, hD, q⟩ := h
  refine ⟨_, (pss_cons (ps_set (i := 1) sc__law_state.nd rfl (Or.inl rfl) (pe_ix ix_list (Hr.pe_c0 c__law_words hr (by first | decide | omega) rfl) pe_int (fun _ _ => rfl)))
      (pss_cons (ps_set (i := 2) sc__law_state.nd rfl (Or.inl rfl) (pe_lst (pa_cons pe_str (pa_cons pe_str (pa_cons pe_str (pa_cons pe_str (pa_cons pe_str (pa_cons (pe_tup (pa_cons pe_str (pa_cons pe_int pa_nil))) (pa_cons (pe_tup (pa_cons pe_str (pa_cons pe_int pa_nil))) (pa_cons (pe_tup (pa_cons pe_str (pa_cons pe_int (pa_cons pe_str pa_nil)))) (pa_cons (pe_tup (pa_cons pe_str (pa_cons (pv 1) (pa_cons (pe_tup (pa_cons pe_int pa_nil)) pa_nil)))) pa_nil)))))))))))
      (pss_cons (ps_set (i := 2) sc__law_state.nd rfl (Or.inl rfl) (pe_op op_cat (pv 2) (pe_lst (pa_cons (pe_tup (pa_cons pe_str (pa_cons (pv 1) (pa_cons (pe_tup pa_nil) pa_nil)))) (pa_cons (pe_tup (pa_cons pe_str (pa_cons pe_int pa_nil))) (pa_cons (pe_tup (pa_cons pe_str (pa_cons (pe_un un_neg pe_int) pa_nil))) (pa_cons (pe_tup (pa_cons pe_str (pa_cons pe_int (pa_cons pe_int pa_nil)))) (pa_cons (pe_tup (pa_cons pe_str (pa_cons pe_int pa_nil))) (pa_cons (pe_tup (pa_cons pe_str (pa_cons pe_int (pa_cons pe_str pa_nil)))) (pa_cons (pe_tup (pa_cons pe_str pa_nil)) pa_nil))))))))))
      (pss_cons (ps_set (i := 2) sc__law_state.nd rfl (Or.inl rfl) (pe_op op_cat (pv 2) (pe_lst (pa_cons (pe_tup (pa_cons pe_str (pa_cons (pv 1) pa_nil))) (pa_cons (pe_tup (pa_cons pe_str (pa_cons (pe_fld (pv 1) rfl) (pa_cons (pe_tup pa_nil) pa_nil)))) (pa_cons (pe_tup (pa_cons pe_str (pa_cons (pv 1) (pa_cons (pe_lst (pa_cons pe_int pa_nil)) pa_nil)))) (pa_cons (pe_tup (pa_cons pe_str (pa_cons (pv 1) (pa_cons pe_int pa_nil)))) (pa_cons (pe_tup (pa_cons pe_str (pa_cons pe_str (pa_cons pe_str pa_nil)))) pa_nil))))))))
      (pss_cons (ps_set (i := 2) sc__law_state.nd rfl (Or.inl rfl) (pe_op op_cat (pv 2) (pe_lst (pa_cons (pe_tup (pa_cons pe_str (pa_cons pe_bl pa_nil))) (pa_cons (pe_tup (pa_cons pe_str (pa_cons (pe_lst (pa_cons pe_int pa_nil)) pa_nil))) (pa_cons (pe_tup (pa_cons pe_str (pa_cons pe_non pa_nil))) (pa_cons (pe_tup (pa_cons pe_int (pa_cons pe_int pa_nil))) (pa_cons (pe_tup pa_nil) (pa_cons pe_non (pa_cons pe_int (pa_cons (pe_lst (pa_cons pe_str (pa_cons pe_int pa_nil))) (pa_cons (pe_tup (pa_cons pe_str (pa_cons pe_int pa_nil))) (pa_cons (pe_tup (pa_cons pe_str (pa_cons pe_int pa_nil))) pa_nil)))))))))))))
      (pss_one (ps_ret (C8.pe_c c__law_pick hr (by first | decide | omega) rfl (pa_cons (pv 0) (pa_cons (pv 2) pa_nil)))))))))), ?_⟩
  refine ⟨rfl, fun H1 l xs st hl0 hl ia => ?_⟩
  obtain ⟨x, hx, ix⟩ := ia.get (i := 2) (d := .atom "ticket" tickE) rfl
  obtain ⟨tk, rfl⟩ : ∃ tk, x = .ref tk := by cases ix; exact ⟨_, rfl⟩
  refine ⟨l, xs, 2, _, rfl, rfl, SqL.of hl, atI_nat (j := 2) hx, ?_⟩
  have i_tk : Is C (nw H H1) (.ref tk) (.atom "ticket" tickE) := Is.nw (LDk.of st) (by decide +kernel) ix
  obtain ⟨dxt, tt, ht, i_tt⟩ := at_in i_tk
  clear ia hl hl0 hx ix
  refine ⟨(by show 2 ≤ sizeLine; decide), fun u1 h_u1 => ?_⟩
  obtain ⟨st, e_u1, m_u1⟩ := newF (o := .tup [.str "freezing", .int 1]) hD st h_u1
  have i_u1 : Is C (nw H (upd H1 u1 (.tup [.str "freezing", .int 1]))) (.ref u1) (.tup [.str "freezing", .int 1]) := .tup e_u1 (.cons (.str _) (.cons (.int _) .nil))
  have i_tk := i_tk.same m_u1
  have i_tt := i_tt.same m_u1
  have ht := m_u1 _ _ ht
  generalize upd H1 u1 (.tup [.str "freezing", .int 1]) = G1 at *
  refine ⟨(by show 2 ≤ sizeLine; decide), fun u2 h_u2 => ?_⟩
  obtain ⟨st, e_u2, m_u2⟩ := newF (o := .tup [.str "frozen", .int 7]) hD st h_u2
  have i_u2 : Is C (nw H (upd G1 u2 (.tup [.str "frozen", .int 7]))) (.ref u2) (.tup [.str "frozen", .int 7]) := .tup e_u2 (.cons (.str _) (.cons (.int _) .nil))
  have i_tk := i_tk.same m_u2
  have i_tt := i_tt.same m_u2
  have i_u1 := i_u1.same m_u2
  have ht := m_u2 _ _ ht
  generalize upd G1 u2 (.tup [.str "frozen", .int 7]) = G2 at *
  refine ⟨(by show 3 ≤ sizeLine; decide), fun u3 h_u3 => ?_⟩
  obtain ⟨st, e_u3, m_u3⟩ := newF (o := .tup [.str "gone", .int 2, .str "n"]) hD st h_u3
  have i_u3 : Is C (nw H (upd G2 u3 (.tup [.str "gone", .int 2, .str "n"]))) (.ref u3) (.tup [.str "gone", .int 2, .str "n"]) := .tup e_u3 (.cons (.str _) (.cons (.int _) (.cons (.str _) .nil)))
  have i_tk := i_tk.same m_u3
  have i_tt := i_tt.same m_u3
  have i_u1 := i_u1.same m_u3
  have i_u2 := i_u2.same m_u3
  have ht := m_u3 _ _ ht
  generalize upd G2 u3 (.tup [.str "gone", .int 2, .str "n"]) = G3 at *
  refine ⟨_, rfl, (by show 1 ≤ sizeLine; decide), fun u4 h_u4 => ?_⟩
  obtain ⟨st, e_u4, m_u4⟩ := newF (o := .tup [.int 9]) hD st h_u4
  have i_u4 : Is C (nw H (upd G3 u4 (.tup [.int 9]))) (.ref u4) (.tup [.int 9]) := .tup e_u4 (.cons (.int _) .nil)
  have i_tk := i_tk.same m_u4
  have i_tt := i_tt.same m_u4
  have i_u1 := i_u1.same m_u4
  have i_u2 := i_u2.same m_u4
  have i_u3 := i_u3.same m_u4
  have ht := m_u4 _ _ ht
  generalize upd G3 u4 (.tup [.int 9]) = G4 at *
  refine ⟨(by show 3 ≤ sizeLine; decide), fun u5 h_u5 => ?_⟩
  obtain ⟨st, e_u5, m_u5⟩ := newF (o := .tup [.str "coming", .ref tk, .ref u4]) hD st h_u5
  have i_u5 : Is C (nw H (upd G4 u5 (.tup [.str "coming", .ref tk, .ref u4]))) (.ref u5) (.tup [.str "coming", .atom "ticket" tickE, .tup [.int 9]]) := .tup e_u5 (.cons (.str _) (.cons (i_tk.same m_u5) (.cons (i_u4.same m_u5) .nil)))
  clear i_u4
  have i_tk := i_tk.same m_u5
  have i_tt := i_tt.same m_u5
  have i_u1 := i_u1.same m_u5
  have i_u2 := i_u2.same m_u5
  have i_u3 := i_u3.same m_u5
  have ht := m_u5 _ _ ht
  generalize upd G4 u5 (.tup [.str "coming", .ref tk, .ref u4]) = G5 at *
  refine ⟨(by show 9 ≤ sizeLine; decide), fun r6 h_r6 => ?_⟩
  have c_r6 := ((hD.same st).off h_r6).2
  obtain ⟨st, e_r6, m_r6⟩ := newF (o := .lst [.str "new", .str "active", .str "dying", .str "frozen", .str "", .ref u1, .ref u2, .ref u3, .ref u5]) hD st h_r6
  have i_tk := i_tk.same m_r6
  have i_tt := i_tt.same m_r6
  have i_u1 := i_u1.same m_r6
  have i_u2 := i_u2.same m_r6
  have i_u3 := i_u3.same m_r6
  have i_u5 := i_u5.same m_r6
  have ht := m_r6 _ _ ht
  generalize upd G5 r6 (.lst [.str "new", .str "active", .str "dying", .str "frozen", .str "", .ref u1, .ref u2, .ref u3, .ref u5]) = G6 at *
  refine ⟨_, rfl, _, rfl, (by show 0 ≤ sizeLine; decide), fun u7 h_u7 => ?_⟩
  obtain ⟨st, e_u7, m_u7⟩ := newF (o := .tup []) hD st h_u7
  have i_u7 : Is C (nw H (upd G6 u7 (.tup []))) (.ref u7) (.tup []) := .tup e_u7 .nil
  have i_tk := i_tk.same m_u7
  have i_tt := i_tt.same m_u7
  have i_u1 := i_u1.same m_u7
  have i_u2 := i_u2.same m_u7
  have i_u3 := i_u3.same m_u7
  have i_u5 := i_u5.same m_u7
  have ht := m_u7 _ _ ht
  have e_r6 := m_u7 _ _ e_r6
  generalize upd G6 u7 (.tup []) = G7 at *
  refine ⟨(by show 3 ≤ sizeLine; decide), fun u8 h_u8 => ?_⟩
  obtain ⟨st, e_u8, m_u8⟩ := newF (o := .tup [.str "coming", .ref tk, .ref u7]) hD st h_u8
  have i_u8 : Is C (nw H (upd G7 u8 (.tup [.str "coming", .ref tk, .ref u7]))) (.ref u8) (.tup [.str "coming", .atom "ticket" tickE, .tup []]) := .tup e_u8 (.cons (.str _) (.cons (i_tk.same m_u8) (.cons (i_u7.same m_u8) .nil)))
  clear i_u7
  have i_tk := i_tk.same m_u8
  have i_tt := i_tt.same m_u8
  have i_u1 := i_u1.same m_u8
  have i_u2 := i_u2.same m_u8
  have i_u3 := i_u3.same m_u8
  have i_u5 := i_u5.same m_u8
  have ht := m_u8 _ _ ht
  have e_r6 := m_u8 _ _ e_r6
  generalize upd G7 u8 (.tup [.str "coming", .ref tk, .ref u7]) = G8 at *
  refine ⟨(by show 2 ≤ sizeLine; decide), fun u9 h_u9 => ?_⟩
  obtain ⟨st, e_u9, m_u9⟩ := newF (o := .tup [.str "freezing", .int 0]) hD st h_u9
  have i_u9 : Is C (nw H (upd G8 u9 (.tup [.str "freezing", .int 0]))) (.ref u9) (.tup [.str "freezing", .int 0]) := .tup e_u9 (.cons (.str _) (.cons (.int _) .nil))
  have i_tk := i_tk.same m_u9
  have i_tt := i_tt.same m_u9
  have i_u1 := i_u1.same m_u9
  have i_u2 := i_u2.same m_u9
  have i_u3 := i_u3.same m_u9
  have i_u5 := i_u5.same m_u9
  have i_u8 := i_u8.same m_u9
  have ht := m_u9 _ _ ht
  have e_r6 := m_u9 _ _ e_r6
  generalize upd G8 u9 (.tup [.str "freezing", .int 0]) = G9 at *
  refine ⟨_, rfl, (by show 2 ≤ sizeLine; decide), fun u10 h_u10 => ?_⟩
  obtain ⟨st, e_u10, m_u10⟩ := newF (o := .tup [.str "frozen", .int (-3)]) hD st h_u10
  have i_u10 : Is C (nw H (upd G9 u10 (.tup [.str "frozen", .int (-3)]))) (.ref u10) (.tup [.str "frozen", .int (-3)]) := .tup e_u10 (.cons (.str _) (.cons (.int _) .nil))
  have i_tk := i_tk.same m_u10
  have i_tt := i_tt.same m_u10
  have i_u1 := i_u1.same m_u10
  have i_u2 := i_u2.same m_u10
  have i_u3 := i_u3.same m_u10
  have i_u5 := i_u5.same m_u10
  have i_u8 := i_u8.same m_u10
  have i_u9 := i_u9.same m_u10
  have ht := m_u10 _ _ ht
  have e_r6 := m_u10 _ _ e_r6
  generalize upd G9 u10 (.tup [.str "frozen", .int (-3)]) = G10 at *
  refine ⟨(by show 3 ≤ sizeLine; decide), fun u11 h_u11 => ?_⟩
  obtain ⟨st, e_u11, m_u11⟩ := newF (o := .tup [.str "gone", .int 2, .int 5]) hD st h_u11
  have i_u11 : Is C (nw H (upd G10 u11 (.tup [.str "gone", .int 2, .int 5]))) (.ref u11) (.tup [.str "gone", .int 2, .int 5]) := .tup e_u11 (.cons (.str _) (.cons (.int _) (.cons (.int _) .nil)))
  have i_tk := i_tk.same m_u11
  have i_tt := i_tt.same m_u11
  have i_u1 := i_u1.same m_u11
  have i_u2 := i_u2.same m_u11
  have i_u3 := i_u3.same m_u11
  have i_u5 := i_u5.same m_u11
  have i_u8 := i_u8.same m_u11
  have i_u9 := i_u9.same m_u11
  have i_u10 := i_u10.same m_u11
  have ht := m_u11 _ _ ht
  have e_r6 := m_u11 _ _ e_r6
  generalize upd G10 u11 (.tup [.str "gone", .int 2, .int 5]) = G11 at *
  refine ⟨(by show 2 ≤ sizeLine; decide), fun u12 h_u12 => ?_⟩
  obtain ⟨st, e_u12, m_u12⟩ := newF (o := .tup [.str "gone", .int 2]) hD st h_u12
  have i_u12 : Is C (nw H (upd G11 u12 (.tup [.str "gone", .int 2]))) (.ref u12) (.tup [.str "gone", .int 2]) := .tup e_u12 (.cons (.str _) (.cons (.int _) .nil))
  have i_tk := i_tk.same m_u12
  have i_tt := i_tt.same m_u12
  have i_u1 := i_u1.same m_u12
  have i_u2 := i_u2.same m_u12
  have i_u3 := i_u3.same m_u12
  have i_u5 := i_u5.same m_u12
  have i_u8 := i_u8.same m_u12
  have i_u9 := i_u9.same m_u12
  have i_u10 := i_u10.same m_u12
  have i_u11 := i_u11.same m_u12
  have ht := m_u12 _ _ ht
  have e_r6 := m_u12 _ _ e_r6
  generalize upd G11 u12 (.tup [.str "gone", .int 2]) = G12 at *
  refine ⟨(by show 3 ≤ sizeLine; decide), fun u13 h_u13 => ?_⟩
  obtain ⟨st, e_u13, m_u13⟩ := newF (o := .tup [.str "frozen", .int 2, .str "n"]) hD st h_u13
  have i_u13 : Is C (nw H (upd G12 u13 (.tup [.str "frozen", .int 2, .str "n"]))) (.ref u13) (.tup [.str "frozen", .int 2, .str "n"]) := .tup e_u13 (.cons (.str _) (.cons (.int _) (.cons (.str _) .nil)))
  have i_tk := i_tk.same m_u13
  have i_tt := i_tt.same m_u13
  have i_u1 := i_u1.same m_u13
  have i_u2 := i_u2.same m_u13
  have i_u3 := i_u3.same m_u13
  have i_u5 := i_u5.same m_u13
  have i_u8 := i_u8.same m_u13
  have i_u9 := i_u9.same m_u13
  have i_u10 := i_u10.same m_u13
  have i_u11 := i_u11.same m_u13
  have i_u12 := i_u12.same m_u13
  have ht := m_u13 _ _ ht
  have e_r6 := m_u13 _ _ e_r6
  generalize upd G12 u13 (.tup [.str "frozen", .int 2, .str "n"]) = G13 at *
  refine ⟨(by show 1 ≤ sizeLine; decide), fun u14 h_u14 => ?_⟩
  obtain ⟨st, e_u14, m_u14⟩ := newF (o := .tup [.str "frozen"]) hD st h_u14
  have i_u14 : Is C (nw H (upd G13 u14 (.tup [.str "frozen"]))) (.ref u14) (.tup [.str "frozen"]) := .tup e_u14 (.cons (.str _) .nil)
  have i_tk := i_tk.same m_u14
  have i_tt := i_tt.same m_u14
  have i_u1 := i_u1.same m_u14
  have i_u2 := i_u2.same m_u14
  have i_u3 := i_u3.same m_u14
  have i_u5 := i_u5.same m_u14
  have i_u8 := i_u8.same m_u14
  have i_u9 := i_u9.same m_u14
  have i_u10 := i_u10.same m_u14
  have i_u11 := i_u11.same m_u14
  have i_u12 := i_u12.same m_u14
  have i_u13 := i_u13.same m_u14
  have ht := m_u14 _ _ ht
  have e_r6 := m_u14 _ _ e_r6
  generalize upd G13 u14 (.tup [.str "frozen"]) = G14 at *
  refine ⟨(by show 7 ≤ sizeLine; decide), fun r15 h_r15 => ?_⟩
  have c_r15 := ((hD.same st).off h_r15).2
  obtain ⟨st, e_r15, m_r15⟩ := newF (o := .lst [.ref u8, .ref u9, .ref u10, .ref u11, .ref u12, .ref u13, .ref u14]) hD st h_r15
  have i_tk := i_tk.same m_r15
  have i_tt := i_tt.same m_r15
  have i_u1 := i_u1.same m_r15
  have i_u2 := i_u2.same m_r15
  have i_u3 := i_u3.same m_r15
  have i_u5 := i_u5.same m_r15
  have i_u8 := i_u8.same m_r15
  have i_u9 := i_u9.same m_r15
  have i_u10 := i_u10.same m_r15
  have i_u11 := i_u11.same m_r15
  have i_u12 := i_u12.same m_r15
  have i_u13 := i_u13.same m_r15
  have i_u14 := i_u14.same m_r15
  have ht := m_r15 _ _ ht
  have e_r6 := m_r15 _ _ e_r6
  generalize upd G14 r15 (.lst [.ref u8, .ref u9, .ref u10, .ref u11, .ref u12, .ref u13, .ref u14]) = G15 at *
  refine ⟨r6, r15, _, _, rfl, rfl, nw_le _ _ e_r6, nw_le _ _ e_r15, (by show 16 ≤ sizeLine; decide), fun q16 h_q16 => ?_⟩
  have c_q16 := ((hD.same st).off h_q16).2
  obtain ⟨st, e_q16, m_q16⟩ := newF (o := .lst ([.str "new", .str "active", .str "dying", .str "frozen", .str "", .ref u1, .ref u2, .ref u3, .ref u5] ++ [.ref u8, .ref u9, .ref u10, .ref u11, .ref u12, .ref u13, .ref u14])) hD st h_q16
  have i_tk := i_tk.same m_q16
  have i_tt := i_tt.same m_q16
  have i_u1 := i_u1.same m_q16
  have i_u2 := i_u2.same m_q16
  have i_u3 := i_u3.same m_q16
  have i_u5 := i_u5.same m_q16
  have i_u8 := i_u8.same m_q16
  have i_u9 := i_u9.same m_q16
  have i_u10 := i_u10.same m_q16
  have i_u11 := i_u11.same m_q16
  have i_u12 := i_u12.same m_q16
  have i_u13 := i_u13.same m_q16
  have i_u14 := i_u14.same m_q16
  have ht := m_q16 _ _ ht
  generalize upd G15 q16 (.lst ([.str "new", .str "active", .str "dying", .str "frozen", .str "", .ref u1, .ref u2, .ref u3, .ref u5] ++ [.ref u8, .ref u9, .ref u10, .ref u11, .ref u12, .ref u13, .ref u14])) = G16 at *
  have e_q16 : nw H G16 q16 = some (.lst [.str "new", .str "active", .str "dying", .str "frozen", .str "", .ref u1, .ref u2, .ref u3, .ref u5, .ref u8, .ref u9, .ref u10, .ref u11, .ref u12, .ref u13, .ref u14]) := e_q16
  refine ⟨_, rfl, _, rfl, (by show 2 ≤ sizeLine; decide), fun u17 h_u17 => ?_⟩
  obtain ⟨st, e_u17, m_u17⟩ := newF (o := .tup [.str "coming", .ref tk]) hD st h_u17
  have i_u17 : Is C (nw H (upd G16 u17 (.tup [.str "coming", .ref tk]))) (.ref u17) (.tup [.str "coming", .atom "ticket" tickE]) := .tup e_u17 (.cons (.str _) (.cons (i_tk.same m_u17) .nil))
  have i_tk := i_tk.same m_u17
  have i_tt := i_tt.same m_u17
  have i_u1 := i_u1.same m_u17
  have i_u2 := i_u2.same m_u17
  have i_u3 := i_u3.same m_u17
  have i_u5 := i_u5.same m_u17
  have i_u8 := i_u8.same m_u17
  have i_u9 := i_u9.same m_u17
  have i_u10 := i_u10.same m_u17
  have i_u11 := i_u11.same m_u17
  have i_u12 := i_u12.same m_u17
  have i_u13 := i_u13.same m_u17
  have i_u14 := i_u14.same m_u17
  have ht := m_u17 _ _ ht
  have e_q16 := m_u17 _ _ e_q16
  generalize upd G16 u17 (.tup [.str "coming", .ref tk]) = G17 at *
  refine ⟨_, rfl, tk, C, dxt, _, .ref tt, rfl, nw_le _ _ ht, T.cl.cl, T.cl.nT, rfl, (by show 0 ≤ sizeLine; decide), fun u18 h_u18 => ?_⟩
  obtain ⟨st, e_u18, m_u18⟩ := newF (o := .tup []) hD st h_u18
  have i_u18 : Is C (nw H (upd G17 u18 (.tup []))) (.ref u18) (.tup []) := .tup e_u18 .nil
  have i_tk := i_tk.same m_u18
  have i_tt := i_tt.same m_u18
  have i_u1 := i_u1.same m_u18
  have i_u2 := i_u2.same m_u18
  have i_u3 := i_u3.same m_u18
  have i_u5 := i_u5.same m_u18
  have i_u8 := i_u8.same m_u18
  have i_u9 := i_u9.same m_u18
  have i_u10 := i_u10.same m_u18
  have i_u11 := i_u11.same m_u18
  have i_u12 := i_u12.same m_u18
  have i_u13 := i_u13.same m_u18
  have i_u14 := i_u14.same m_u18
  have i_u17 := i_u17.same m_u18
  have ht := m_u18 _ _ ht
  have e_q16 := m_u18 _ _ e_q16
  generalize upd G17 u18 (.tup []) = G18 at *
  refine ⟨(by show 3 ≤ sizeLine; decide), fun u19 h_u19 => ?_⟩
  obtain ⟨st, e_u19, m_u19⟩ := newF (o := .tup [.str "coming", .ref tt, .ref u18]) hD st h_u19
  have i_u19 : Is C (nw H (upd G18 u19 (.tup [.str "coming", .ref tt, .ref u18]))) (.ref u19) (.tup [.str "coming", .tup tickE, .tup []]) := .tup e_u19 (.cons (.str _) (.cons (i_tt.same m_u19) (.cons (i_u18.same m_u19) .nil)))
  clear i_u18
  have i_tk := i_tk.same m_u19
  have i_tt := i_tt.same m_u19
  have i_u1 := i_u1.same m_u19
  have i_u2 := i_u2.same m_u19
  have i_u3 := i_u3.same m_u19
  have i_u5 := i_u5.same m_u19
  have i_u8 := i_u8.same m_u19
  have i_u9 := i_u9.same m_u19
  have i_u10 := i_u10.same m_u19
  have i_u11 := i_u11.same m_u19
  have i_u12 := i_u12.same m_u19
  have i_u13 := i_u13.same m_u19
  have i_u14 := i_u14.same m_u19
  have i_u17 := i_u17.same m_u19
  have ht := m_u19 _ _ ht
  have e_q16 := m_u19 _ _ e_q16
  generalize upd G18 u19 (.tup [.str "coming", .ref tt, .ref u18]) = G19 at *
  refine ⟨_, rfl, (by show 1 ≤ sizeLine; decide), fun u20 h_u20 => ?_⟩
  obtain ⟨st, e_u20, m_u20⟩ := newF (o := .lst [.int 9]) hD st h_u20
  have i_u20 : Is C (nw H (upd G19 u20 (.lst [.int 9]))) (.ref u20) (.lst [.int 9]) := .lst e_u20 (.cons (.int _) .nil)
  have i_tk := i_tk.same m_u20
  have i_tt := i_tt.same m_u20
  have i_u1 := i_u1.same m_u20
  have i_u2 := i_u2.same m_u20
  have i_u3 := i_u3.same m_u20
  have i_u5 := i_u5.same m_u20
  have i_u8 := i_u8.same m_u20
  have i_u9 := i_u9.same m_u20
  have i_u10 := i_u10.same m_u20
  have i_u11 := i_u11.same m_u20
  have i_u12 := i_u12.same m_u20
  have i_u13 := i_u13.same m_u20
  have i_u14 := i_u14.same m_u20
  have i_u17 := i_u17.same m_u20
  have i_u19 := i_u19.same m_u20
  have ht := m_u20 _ _ ht
  have e_q16 := m_u20 _ _ e_q16
  generalize upd G19 u20 (.lst [.int 9]) = G20 at *
  refine ⟨(by show 3 ≤ sizeLine; decide), fun u21 h_u21 => ?_⟩
  obtain ⟨st, e_u21, m_u21⟩ := newF (o := .tup [.str "coming", .ref tk, .ref u20]) hD st h_u21
  have i_u21 : Is C (nw H (upd G20 u21 (.tup [.str "coming", .ref tk, .ref u20]))) (.ref u21) (.tup [.str "coming", .atom "ticket" tickE, .lst [.int 9]]) := .tup e_u21 (.cons (.str _) (.cons (i_tk.same m_u21) (.cons (i_u20.same m_u21) .nil)))
  clear i_u20
  have i_tk := i_tk.same m_u21
  have i_tt := i_tt.same m_u21
  have i_u1 := i_u1.same m_u21
  have i_u2 := i_u2.same m_u21
  have i_u3 := i_u3.same m_u21
  have i_u5 := i_u5.same m_u21
  have i_u8 := i_u8.same m_u21
  have i_u9 := i_u9.same m_u21
  have i_u10 := i_u10.same m_u21
  have i_u11 := i_u11.same m_u21
  have i_u12 := i_u12.same m_u21
  have i_u13 := i_u13.same m_u21
  have i_u14 := i_u14.same m_u21
  have i_u17 := i_u17.same m_u21
  have i_u19 := i_u19.same m_u21
  have ht := m_u21 _ _ ht
  have e_q16 := m_u21 _ _ e_q16
  generalize upd G20 u21 (.tup [.str "coming", .ref tk, .ref u20]) = G21 at *
  refine ⟨_, rfl, (by show 3 ≤ sizeLine; decide), fun u22 h_u22 => ?_⟩
  obtain ⟨st, e_u22, m_u22⟩ := newF (o := .tup [.str "coming", .ref tk, .int 9]) hD st h_u22
  have i_u22 : Is C (nw H (upd G21 u22 (.tup [.str "coming", .ref tk, .int 9]))) (.ref u22) (.tup [.str "coming", .atom "ticket" tickE, .int 9]) := .tup e_u22 (.cons (.str _) (.cons (i_tk.same m_u22) (.cons (.int _) .nil)))
  have i_tk := i_tk.same m_u22
  have i_tt := i_tt.same m_u22
  have i_u1 := i_u1.same m_u22
  have i_u2 := i_u2.same m_u22
  have i_u3 := i_u3.same m_u22
  have i_u5 := i_u5.same m_u22
  have i_u8 := i_u8.same m_u22
  have i_u9 := i_u9.same m_u22
  have i_u10 := i_u10.same m_u22
  have i_u11 := i_u11.same m_u22
  have i_u12 := i_u12.same m_u22
  have i_u13 := i_u13.same m_u22
  have i_u14 := i_u14.same m_u22
  have i_u17 := i_u17.same m_u22
  have i_u19 := i_u19.same m_u22
  have i_u21 := i_u21.same m_u22
  have ht := m_u22 _ _ ht
  have e_q16 := m_u22 _ _ e_q16
  generalize upd G21 u22 (.tup [.str "coming", .ref tk, .int 9]) = G22 at *
  refine ⟨(by show 3 ≤ sizeLine; decide), fun u23 h_u23 => ?_⟩
  obtain ⟨st, e_u23, m_u23⟩ := newF (o := .tup [.str "gone", .str "2", .str "n"]) hD st h_u23
  have i_u23 : Is C (nw H (upd G22 u23 (.tup [.str "gone", .str "2", .str "n"]))) (.ref u23) (.tup [.str "gone", .str "2", .str "n"]) := .tup e_u23 (.cons (.str _) (.cons (.str _) (.cons (.str _) .nil)))
  have i_tk := i_tk.same m_u23
  have i_tt := i_tt.same m_u23
  have i_u1 := i_u1.same m_u23
  have i_u2 := i_u2.same m_u23
  have i_u3 := i_u3.same m_u23
  have i_u5 := i_u5.same m_u23
  have i_u8 := i_u8.same m_u23
  have i_u9 := i_u9.same m_u23
  have i_u10 := i_u10.same m_u23
  have i_u11 := i_u11.same m_u23
  have i_u12 := i_u12.same m_u23
  have i_u13 := i_u13.same m_u23
  have i_u14 := i_u14.same m_u23
  have i_u17 := i_u17.same m_u23
  have i_u19 := i_u19.same m_u23
  have i_u21 := i_u21.same m_u23
  have i_u22 := i_u22.same m_u23
  have ht := m_u23 _ _ ht
  have e_q16 := m_u23 _ _ e_q16
  generalize upd G22 u23 (.tup [.str "gone", .str "2", .str "n"]) = G23 at *
  refine ⟨(by show 5 ≤ sizeLine; decide), fun r24 h_r24 => ?_⟩
  have c_r24 := ((hD.same st).off h_r24).2
  obtain ⟨st, e_r24, m_r24⟩ := newF (o := .lst [.ref u17, .ref u19, .ref u21, .ref u22, .ref u23]) hD st h_r24
  have i_tk := i_tk.same m_r24
  have i_tt := i_tt.same m_r24
  have i_u1 := i_u1.same m_r24
  have i_u2 := i_u2.same m_r24
  have i_u3 := i_u3.same m_r24
  have i_u5 := i_u5.same m_r24
  have i_u8 := i_u8.same m_r24
  have i_u9 := i_u9.same m_r24
  have i_u10 := i_u10.same m_r24
  have i_u11 := i_u11.same m_r24
  have i_u12 := i_u12.same m_r24
  have i_u13 := i_u13.same m_r24
  have i_u14 := i_u14.same m_r24
  have i_u17 := i_u17.same m_r24
  have i_u19 := i_u19.same m_r24
  have i_u21 := i_u21.same m_r24
  have i_u22 := i_u22.same m_r24
  have i_u23 := i_u23.same m_r24
  have ht := m_r24 _ _ ht
  have e_q16 := m_r24 _ _ e_q16
  generalize upd G23 r24 (.lst [.ref u17, .ref u19, .ref u21, .ref u22, .ref u23]) = G24 at *
  refine ⟨q16, r24, _, _, rfl, rfl, nw_le _ _ e_q16, nw_le _ _ e_r24, (by show 21 ≤ sizeLine; decide), fun q25 h_q25 => ?_⟩
  have c_q25 := ((hD.same st).off h_q25).2
  obtain ⟨st, e_q25, m_q25⟩ := newF (o := .lst ([.str "new", .str "active", .str "dying", .str "frozen", .str "", .ref u1, .ref u2, .ref u3, .ref u5, .ref u8, .ref u9, .ref u10, .ref u11, .ref u12, .ref u13, .ref u14] ++ [.ref u17, .ref u19, .ref u21, .ref u22, .ref u23])) hD st h_q25
  have i_tk := i_tk.same m_q25
  have i_tt := i_tt.same m_q25
  have i_u1 := i_u1.same m_q25
  have i_u2 := i_u2.same m_q25
  have i_u3 := i_u3.same m_q25
  have i_u5 := i_u5.same m_q25
  have i_u8 := i_u8.same m_q25
  have i_u9 := i_u9.same m_q25
  have i_u10 := i_u10.same m_q25
  have i_u11 := i_u11.same m_q25
  have i_u12 := i_u12.same m_q25
  have i_u13 := i_u13.same m_q25
  have i_u14 := i_u14.same m_q25
  have i_u17 := i_u17.same m_q25
  have i_u19 := i_u19.same m_q25
  have i_u21 := i_u21.same m_q25
  have i_u22 := i_u22.same m_q25
  have i_u23 := i_u23.same m_q25
  have ht := m_q25 _ _ ht
  generalize upd G24 q25 (.lst ([.str "new", .str "active", .str "dying", .str "frozen", .str "", .ref u1, .ref u2, .ref u3, .ref u5, .ref u8, .ref u9, .ref u10, .ref u11, .ref u12, .ref u13, .ref u14] ++ [.ref u17, .ref u19, .ref u21, .ref u22, .ref u23])) = G25 at *
  have e_q25 : nw H G25 q25 = some (.lst [.str "new", .str "active", .str "dying", .str "frozen", .str "", .ref u1, .ref u2, .ref u3, .ref u5, .ref u8, .ref u9, .ref u10, .ref u11, .ref u12, .ref u13, .ref u14, .ref u17, .ref u19, .ref u21, .ref u22, .ref u23]) := e_q25
  refine ⟨_, rfl, (by show 2 ≤ sizeLine; decide), fun u26 h_u26 => ?_⟩
  obtain ⟨st, e_u26, m_u26⟩ := newF (o := .tup [.str "frozen", .bl true]) hD st h_u26
  have i_u26 : Is C (nw H (upd G25 u26 (.tup [.str "frozen", .bl true]))) (.ref u26) (.tup [.str "frozen", .bl true]) := .tup e_u26 (.cons (.str _) (.cons (.bl _) .nil))
  have i_tk := i_tk.same m_u26
  have i_tt := i_tt.same m_u26
  have i_u1 := i_u1.same m_u26
  have i_u2 := i_u2.same m_u26
  have i_u3 := i_u3.same m_u26
  have i_u5 := i_u5.same m_u26
  have i_u8 := i_u8.same m_u26
  have i_u9 := i_u9.same m_u26
  have i_u10 := i_u10.same m_u26
  have i_u11 := i_u11.same m_u26
  have i_u12 := i_u12.same m_u26
  have i_u13 := i_u13.same m_u26
  have i_u14 := i_u14.same m_u26
  have i_u17 := i_u17.same m_u26
  have i_u19 := i_u19.same m_u26
  have i_u21 := i_u21.same m_u26
  have i_u22 := i_u22.same m_u26
  have i_u23 := i_u23.same m_u26
  have ht := m_u26 _ _ ht
  have e_q25 := m_u26 _ _ e_q25
  generalize upd G25 u26 (.tup [.str "frozen", .bl true]) = G26 at *
  refine ⟨(by show 1 ≤ sizeLine; decide), fun u27 h_u27 => ?_⟩
  obtain ⟨st, e_u27, m_u27⟩ := newF (o := .lst [.int 1]) hD st h_u27
  have i_u27 : Is C (nw H (upd G26 u27 (.lst [.int 1]))) (.ref u27) (.lst [.int 1]) := .lst e_u27 (.cons (.int _) .nil)
  have i_tk := i_tk.same m_u27
  have i_tt := i_tt.same m_u27
  have i_u1 := i_u1.same m_u27
  have i_u2 := i_u2.same m_u27
  have i_u3 := i_u3.same m_u27
  have i_u5 := i_u5.same m_u27
  have i_u8 := i_u8.same m_u27
  have i_u9 := i_u9.same m_u27
  have i_u10 := i_u10.same m_u27
  have i_u11 := i_u11.same m_u27
  have i_u12 := i_u12.same m_u27
  have i_u13 := i_u13.same m_u27
  have i_u14 := i_u14.same m_u27
  have i_u17 := i_u17.same m_u27
  have i_u19 := i_u19.same m_u27
  have i_u21 := i_u21.same m_u27
  have i_u22 := i_u22.same m_u27
  have i_u23 := i_u23.same m_u27
  have i_u26 := i_u26.same m_u27
  have ht := m_u27 _ _ ht
  have e_q25 := m_u27 _ _ e_q25
  generalize upd G26 u27 (.lst [.int 1]) = G27 at *
  refine ⟨(by show 2 ≤ sizeLine; decide), fun u28 h_u28 => ?_⟩
  obtain ⟨st, e_u28, m_u28⟩ := newF (o := .tup [.str "frozen", .ref u27]) hD st h_u28
  have i_u28 : Is C (nw H (upd G27 u28 (.tup [.str "frozen", .ref u27]))) (.ref u28) (.tup [.str "frozen", .lst [.int 1]]) := .tup e_u28 (.cons (.str _) (.cons (i_u27.same m_u28) .nil))
  clear i_u27
  have i_tk := i_tk.same m_u28
  have i_tt := i_tt.same m_u28
  have i_u1 := i_u1.same m_u28
  have i_u2 := i_u2.same m_u28
  have i_u3 := i_u3.same m_u28
  have i_u5 := i_u5.same m_u28
  have i_u8 := i_u8.same m_u28
  have i_u9 := i_u9.same m_u28
  have i_u10 := i_u10.same m_u28
  have i_u11 := i_u11.same m_u28
  have i_u12 := i_u12.same m_u28
  have i_u13 := i_u13.same m_u28
  have i_u14 := i_u14.same m_u28
  have i_u17 := i_u17.same m_u28
  have i_u19 := i_u19.same m_u28
  have i_u21 := i_u21.same m_u28
  have i_u22 := i_u22.same m_u28
  have i_u23 := i_u23.same m_u28
  have i_u26 := i_u26.same m_u28
  have ht := m_u28 _ _ ht
  have e_q25 := m_u28 _ _ e_q25
  generalize upd G27 u28 (.tup [.str "frozen", .ref u27]) = G28 at *
  refine ⟨(by show 2 ≤ sizeLine; decide), fun u29 h_u29 => ?_⟩
  obtain ⟨st, e_u29, m_u29⟩ := newF (o := .tup [.str "frozen", .non]) hD st h_u29
  have i_u29 : Is C (nw H (upd G28 u29 (.tup [.str "frozen", .non]))) (.ref u29) (.tup [.str "frozen", .non]) := .tup e_u29 (.cons (.str _) (.cons .non .nil))
  have i_tk := i_tk.same m_u29
  have i_tt := i_tt.same m_u29
  have i_u1 := i_u1.same m_u29
  have i_u2 := i_u2.same m_u29
  have i_u3 := i_u3.same m_u29
  have i_u5 := i_u5.same m_u29
  have i_u8 := i_u8.same m_u29
  have i_u9 := i_u9.same m_u29
  have i_u10 := i_u10.same m_u29
  have i_u11 := i_u11.same m_u29
  have i_u12 := i_u12.same m_u29
  have i_u13 := i_u13.same m_u29
  have i_u14 := i_u14.same m_u29
  have i_u17 := i_u17.same m_u29
  have i_u19 := i_u19.same m_u29
  have i_u21 := i_u21.same m_u29
  have i_u22 := i_u22.same m_u29
  have i_u23 := i_u23.same m_u29
  have i_u26 := i_u26.same m_u29
  have i_u28 := i_u28.same m_u29
  have ht := m_u29 _ _ ht
  have e_q25 := m_u29 _ _ e_q25
  generalize upd G28 u29 (.tup [.str "frozen", .non]) = G29 at *
  refine ⟨(by show 2 ≤ sizeLine; decide), fun u30 h_u30 => ?_⟩
  obtain ⟨st, e_u30, m_u30⟩ := newF (o := .tup [.int 1, .int 2]) hD st h_u30
  have i_u30 : Is C (nw H (upd G29 u30 (.tup [.int 1, .int 2]))) (.ref u30) (.tup [.int 1, .int 2]) := .tup e_u30 (.cons (.int _) (.cons (.int _) .nil))
  have i_tk := i_tk.same m_u30
  have i_tt := i_tt.same m_u30
  have i_u1 := i_u1.same m_u30
  have i_u2 := i_u2.same m_u30
  have i_u3 := i_u3.same m_u30
  have i_u5 := i_u5.same m_u30
  have i_u8 := i_u8.same m_u30
  have i_u9 := i_u9.same m_u30
  have i_u10 := i_u10.same m_u30
  have i_u11 := i_u11.same m_u30
  have i_u12 := i_u12.same m_u30
  have i_u13 := i_u13.same m_u30
  have i_u14 := i_u14.same m_u30
  have i_u17 := i_u17.same m_u30
  have i_u19 := i_u19.same m_u30
  have i_u21 := i_u21.same m_u30
  have i_u22 := i_u22.same m_u30
  have i_u23 := i_u23.same m_u30
  have i_u26 := i_u26.same m_u30
  have i_u28 := i_u28.same m_u30
  have i_u29 := i_u29.same m_u30
  have ht := m_u30 _ _ ht
  have e_q25 := m_u30 _ _ e_q25
  generalize upd G29 u30 (.tup [.int 1, .int 2]) = G30 at *
  refine ⟨(by show 0 ≤ sizeLine; decide), fun u31 h_u31 => ?_⟩
  obtain ⟨st, e_u31, m_u31⟩ := newF (o := .tup []) hD st h_u31
  have i_u31 : Is C (nw H (upd G30 u31 (.tup []))) (.ref u31) (.tup []) := .tup e_u31 .nil
  have i_tk := i_tk.same m_u31
  have i_tt := i_tt.same m_u31
  have i_u1 := i_u1.same m_u31
  have i_u2 := i_u2.same m_u31
  have i_u3 := i_u3.same m_u31
  have i_u5 := i_u5.same m_u31
  have i_u8 := i_u8.same m_u31
  have i_u9 := i_u9.same m_u31
  have i_u10 := i_u10.same m_u31
  have i_u11 := i_u11.same m_u31
  have i_u12 := i_u12.same m_u31
  have i_u13 := i_u13.same m_u31
  have i_u14 := i_u14.same m_u31
  have i_u17 := i_u17.same m_u31
  have i_u19 := i_u19.same m_u31
  have i_u21 := i_u21.same m_u31
  have i_u22 := i_u22.same m_u31
  have i_u23 := i_u23.same m_u31
  have i_u26 := i_u26.same m_u31
  have i_u28 := i_u28.same m_u31
  have i_u29 := i_u29.same m_u31
  have i_u30 := i_u30.same m_u31
  have ht := m_u31 _ _ ht
  have e_q25 := m_u31 _ _ e_q25
  generalize upd G30 u31 (.tup []) = G31 at *
  refine ⟨(by show 2 ≤ sizeLine; decide), fun u32 h_u32 => ?_⟩
  obtain ⟨st, e_u32, m_u32⟩ := newF (o := .lst [.str "frozen", .int 1]) hD st h_u32
  have i_u32 : Is C (nw H (upd G31 u32 (.lst [.str "frozen", .int 1]))) (.ref u32) (.lst [.str "frozen", .int 1]) := .lst e_u32 (.cons (.str _) (.cons (.int _) .nil))
  have i_tk := i_tk.same m_u32
  have i_tt := i_tt.same m_u32
  have i_u1 := i_u1.same m_u32
  have i_u2 := i_u2.same m_u32
  have i_u3 := i_u3.same m_u32
  have i_u5 := i_u5.same m_u32
  have i_u8 := i_u8.same m_u32
  have i_u9 := i_u9.same m_u32
  have i_u10 := i_u10.same m_u32
  have i_u11 := i_u11.same m_u32
  have i_u12 := i_u12.same m_u32
  have i_u13 := i_u13.same m_u32
  have i_u14 := i_u14.same m_u32
  have i_u17 := i_u17.same m_u32
  have i_u19 := i_u19.same m_u32
  have i_u21 := i_u21.same m_u32
  have i_u22 := i_u22.same m_u32
  have i_u23 := i_u23.same m_u32
  have i_u26 := i_u26.same m_u32
  have i_u28 := i_u28.same m_u32
  have i_u29 := i_u29.same m_u32
  have i_u30 := i_u30.same m_u32
  have i_u31 := i_u31.same m_u32
  have ht := m_u32 _ _ ht
  have e_q25 := m_u32 _ _ e_q25
  generalize upd G31 u32 (.lst [.str "frozen", .int 1]) = G32 at *
  refine ⟨(by show 2 ≤ sizeLine; decide), fun u33 h_u33 => ?_⟩
  obtain ⟨st, e_u33, m_u33⟩ := newF (o := .tup [.str "new", .int 1]) hD st h_u33
  have i_u33 : Is C (nw H (upd G32 u33 (.tup [.str "new", .int 1]))) (.ref u33) (.tup [.str "new", .int 1]) := .tup e_u33 (.cons (.str _) (.cons (.int _) .nil))
  have i_tk := i_tk.same m_u33
  have i_tt := i_tt.same m_u33
  have i_u1 := i_u1.same m_u33
  have i_u2 := i_u2.same m_u33
  have i_u3 := i_u3.same m_u33
  have i_u5 := i_u5.same m_u33
  have i_u8 := i_u8.same m_u33
  have i_u9 := i_u9.same m_u33
  have i_u10 := i_u10.same m_u33
  have i_u11 := i_u11.same m_u33
  have i_u12 := i_u12.same m_u33
  have i_u13 := i_u13.same m_u33
  have i_u14 := i_u14.same m_u33
  have i_u17 := i_u17.same m_u33
  have i_u19 := i_u19.same m_u33
  have i_u21 := i_u21.same m_u33
  have i_u22 := i_u22.same m_u33
  have i_u23 := i_u23.same m_u33
  have i_u26 := i_u26.same m_u33
  have i_u28 := i_u28.same m_u33
  have i_u29 := i_u29.same m_u33
  have i_u30 := i_u30.same m_u33
  have i_u31 := i_u31.same m_u33
  have i_u32 := i_u32.same m_u33
  have ht := m_u33 _ _ ht
  have e_q25 := m_u33 _ _ e_q25
  generalize upd G32 u33 (.tup [.str "new", .int 1]) = G33 at *
  refine ⟨(by show 2 ≤ sizeLine; decide), fun u34 h_u34 => ?_⟩
  obtain ⟨st, e_u34, m_u34⟩ := newF (o := .tup [.str "thaw", .int 2]) hD st h_u34
  have i_u34 : Is C (nw H (upd G33 u34 (.tup [.str "thaw", .int 2]))) (.ref u34) (.tup [.str "thaw", .int 2]) := .tup e_u34 (.cons (.str _) (.cons (.int _) .nil))
  have i_tk := i_tk.same m_u34
  have i_tt := i_tt.same m_u34
  have i_u1 := i_u1.same m_u34
  have i_u2 := i_u2.same m_u34
  have i_u3 := i_u3.same m_u34
  have i_u5 := i_u5.same m_u34
  have i_u8 := i_u8.same m_u34
  have i_u9 := i_u9.same m_u34
  have i_u10 := i_u10.same m_u34
  have i_u11 := i_u11.same m_u34
  have i_u12 := i_u12.same m_u34
  have i_u13 := i_u13.same m_u34
  have i_u14 := i_u14.same m_u34
  have i_u17 := i_u17.same m_u34
  have i_u19 := i_u19.same m_u34
  have i_u21 := i_u21.same m_u34
  have i_u22 := i_u22.same m_u34
  have i_u23 := i_u23.same m_u34
  have i_u26 := i_u26.same m_u34
  have i_u28 := i_u28.same m_u34
  have i_u29 := i_u29.same m_u34
  have i_u30 := i_u30.same m_u34
  have i_u31 := i_u31.same m_u34
  have i_u32 := i_u32.same m_u34
  have i_u33 := i_u33.same m_u34
  have ht := m_u34 _ _ ht
  have e_q25 := m_u34 _ _ e_q25
  generalize upd G33 u34 (.tup [.str "thaw", .int 2]) = G34 at *
  refine ⟨(by show 10 ≤ sizeLine; decide), fun r35 h_r35 => ?_⟩
  have c_r35 := ((hD.same st).off h_r35).2
  obtain ⟨st, e_r35, m_r35⟩ := newF (o := .lst [.ref u26, .ref u28, .ref u29, .ref u30, .ref u31, .non, .int 3, .ref u32, .ref u33, .ref u34]) hD st h_r35
  have i_tk := i_tk.same m_r35
  have i_tt := i_tt.same m_r35
  have i_u1 := i_u1.same m_r35
  have i_u2 := i_u2.same m_r35
  have i_u3 := i_u3.same m_r35
  have i_u5 := i_u5.same m_r35
  have i_u8 := i_u8.same m_r35
  have i_u9 := i_u9.same m_r35
  have i_u10 := i_u10.same m_r35
  have i_u11 := i_u11.same m_r35
  have i_u12 := i_u12.same m_r35
  have i_u13 := i_u13.same m_r35
  have i_u14 := i_u14.same m_r35
  have i_u17 := i_u17.same m_r35
  have i_u19 := i_u19.same m_r35
  have i_u21 := i_u21.same m_r35
  have i_u22 := i_u22.same m_r35
  have i_u23 := i_u23.same m_r35
  have i_u26 := i_u26.same m_r35
  have i_u28 := i_u28.same m_r35
  have i_u29 := i_u29.same m_r35
  have i_u30 := i_u30.same m_r35
  have i_u31 := i_u31.same m_r35
  have i_u32 := i_u32.same m_r35
  have i_u33 := i_u33.same m_r35
  have i_u34 := i_u34.same m_r35
  have ht := m_r35 _ _ ht
  have e_q25 := m_r35 _ _ e_q25
  generalize upd G34 r35 (.lst [.ref u26, .ref u28, .ref u29, .ref u30, .ref u31, .non, .int 3, .ref u32, .ref u33, .ref u34]) = G35 at *
  refine ⟨q25, r35, _, _, rfl, rfl, nw_le _ _ e_q25, nw_le _ _ e_r35, (by show 31 ≤ sizeLine; decide), fun q36 h_q36 => ?_⟩
  have c_q36 := ((hD.same st).off h_q36).2
  obtain ⟨st, e_q36, m_q36⟩ := newF (o := .lst ([.str "new", .str "active", .str "dying", .str "frozen", .str "", .ref u1, .ref u2, .ref u3, .ref u5, .ref u8, .ref u9, .ref u10, .ref u11, .ref u12, .ref u13, .ref u14, .ref u17, .ref u19, .ref u21, .ref u22, .ref u23] ++ [.ref u26, .ref u28, .ref u29, .ref u30, .ref u31, .non, .int 3, .ref u32, .ref u33, .ref u34])) hD st h_q36
  have i_tk := i_tk.same m_q36
  have i_tt := i_tt.same m_q36
  have i_u1 := i_u1.same m_q36
  have i_u2 := i_u2.same m_q36
  have i_u3 := i_u3.same m_q36
  have i_u5 := i_u5.same m_q36
  have i_u8 := i_u8.same m_q36
  have i_u9 := i_u9.same m_q36
  have i_u10 := i_u10.same m_q36
  have i_u11 := i_u11.same m_q36
  have i_u12 := i_u12.same m_q36
  have i_u13 := i_u13.same m_q36
  have i_u14 := i_u14.same m_q36
  have i_u17 := i_u17.same m_q36
  have i_u19 := i_u19.same m_q36
  have i_u21 := i_u21.same m_q36
  have i_u22 := i_u22.same m_q36
  have i_u23 := i_u23.same m_q36
  have i_u26 := i_u26.same m_q36
  have i_u28 := i_u28.same m_q36
  have i_u29 := i_u29.same m_q36
  have i_u30 := i_u30.same m_q36
  have i_u31 := i_u31.same m_q36
  have i_u32 := i_u32.same m_q36
  have i_u33 := i_u33.same m_q36
  have i_u34 := i_u34.same m_q36
  have ht := m_q36 _ _ ht
  generalize upd G35 q36 (.lst ([.str "new", .str "active", .str "dying", .str "frozen", .str "", .ref u1, .ref u2, .ref u3, .ref u5, .ref u8, .ref u9, .ref u10, .ref u11, .ref u12, .ref u13, .ref u14, .ref u17, .ref u19, .ref u21, .ref u22, .ref u23] ++ [.ref u26, .ref u28, .ref u29, .ref u30, .ref u31, .non, .int 3, .ref u32, .ref u33, .ref u34])) = G36 at *
  have e_q36 : nw H G36 q36 = some (.lst [.str "new", .str "active", .str "dying", .str "frozen", .str "", .ref u1, .ref u2, .ref u3, .ref u5, .ref u8, .ref u9, .ref u10, .ref u11, .ref u12, .ref u13, .ref u14, .ref u17, .ref u19, .ref u21, .ref u22, .ref u23, .ref u26, .ref u28, .ref u29, .ref u30, .ref u31, .non, .int 3, .ref u32, .ref u33, .ref u34]) := e_q36
  have ia : IsA C (nw H G36) [.str "new", .str "active", .str "dying", .str "frozen", .str "", .ref u1, .ref u2, .ref u3, .ref u5, .ref u8, .ref u9, .ref u10, .ref u11, .ref u12, .ref u13, .ref u14, .ref u17, .ref u19, .ref u21, .ref u22, .ref u23, .ref u26, .ref u28, .ref u29, .ref u30, .ref u31, .non, .int 3, .ref u32, .ref u33, .ref u34] stateD := (.cons (.str _) (.cons (.str _) (.cons (.str _) (.cons (.str _) (.cons (.str _) (.cons i_u1 (.cons i_u2 (.cons i_u3 (.cons i_u5 (.cons i_u8 (.cons i_u9 (.cons i_u10 (.cons i_u11 (.cons i_u12 (.cons i_u13 (.cons i_u14 (.cons i_u17 (.cons i_u19 (.cons i_u21 (.cons i_u22 (.cons i_u23 (.cons i_u26 (.cons i_u28 (.cons i_u29 (.cons i_u30 (.cons i_u31 (.cons .non (.cons (.int _) (.cons i_u32 (.cons i_u33 (.cons i_u34 .nil)))))))))))))))))))))))))))))))
  refine ⟨_, rfl, _, rfl, d, c, q36, _, rfl, hD.same st, nw_le _ _ e_q36, c_q36, by show 0 < 31; decide, by show 31 < 1000000; decide, fun H' i x hD' b' hx => ?_⟩
  obtain ⟨e, he, ie⟩ := isA_mem ia (List.mem_of_getElem? hx)
  exact q H' x e hD' ((Bu2.of st).trans b') (ie.same (nw_bu hD b')) he
end
end Hc

set_option maxHeartbeats 8000000
namespace Hc
open PySem PySem.Spec PyProof.Rows L2 Hr
def flat1 : D → Bool | .tup (n :: _) => flt3 n | _ => true
where flt3 : D → Bool | .non => true | .int _ => true | .str _ => true | _ => false
def lenD : D → Nat | .tup vs => vs.length | _ => 0
def lstD (d : D) : Bool := match d with
  | .str k => decide (k = "new") || decide (k = "active") || decide (k = "dying")
  | d => if formB d "coming" 3 = true then isTk (argD d 1) && isTu2 (argD d 2) else match numO d with | .int i => decide (1 ≤ i) && (decide (lenD d = 2) || isSt (argD d 2)) | _ => false
theorem st_eq : ∀ v ∈ stateD, stD v = lstD v := by
  have h : (stateD.all fun v => decide (stD v = lstD v)) = true := by decide +kernel
  exact fun v hv => of_decide_eq_true (List.all_eq_true.mp h v hv)
theorem st_flat : ∀ v ∈ stateD, flat1 v = true := by
  have h : (stateD.all flat1) = true := by decide +kernel
  exact fun v hv => List.all_eq_true.mp h v hv
theorem st_sz : ∀ v ∈ stateD, Fit v := by
  have h : (stateD.all fun v => decide (sz v ≤ 1000) && txb v) = true := by decide +kernel
  intro v hv
  have := List.all_eq_true.mp h v hv
  simp only [Bool.and_eq_true, decide_eq_true_eq] at this
  exact fit_of this.1 this.2
def spLNum (C : Addr) : Sp := fun vs H Q _ => ∃ x v, vs = [x] ∧ Is C H x v ∧ flat1 v = true ∧ ∀ H' l y, Same H H' → H l = none → H' l = some (.lst [y]) → (numF v = true → ∀ a xs, x = .ref a → H a = some (.tup xs) → xs[1]? = some y) → (numF v = false → y = .non) → Is C H' y (numO v) → Q (.ref l) H'
def spLSt (C : Addr) : Sp := fun vs H Q _ => ∃ x v, vs = [x] ∧ Is C H x v ∧ flat1 v = true ∧ ∀ H', Same H H' → Q (.bl (lstD v)) H'
def spAg : Sp := fun vs H Q _ => ∃ a b, vs = [.bl a, .bl b] ∧ Q (.bl (decide (a = b))) H
theorem inVab (k p q : Str) : inV (.str k) [.str p, .str q] = (decide (k = p) || decide (k = q)) := by
  have e : ∀ a b : Str, eqV (.str a) (.str b) = decide (b = a) := fun a b => by
    simp only [eqV]
    by_cases h : b = a
    · subst h; simp
    · rw [decide_eq_false h]; exact beq_eq_false_iff_ne.mpr fun z => h z.symm
  show ([V.str p, .str q].any fun y => eqV y (.str k)) = _
  simp only [List.any_cons, List.any_nil, e, Bool.or_false]
theorem form_s {n : D} {vs : List D} {k : Str} {m : Int} (h : flat1 (.tup (n :: vs)) = true) (hm : ((vs.length + 1 : Nat) : Int) = m) : formB (.tup (n :: vs)) k m = (match n with | .str s => decide (s = k) | _ => false) := by
  cases n <;> first | (simp only [formB]; rw [decide_eq_true hm, Bool.true_and]) | rfl
theorem form_n {v : D} {k : Str} {m : Int} (hm : (lenD v : Int) ≠ m) : formB v k m = false := by
  unfold formB
  split
  · rename_i s ds
    rw [decide_eq_false (fun z => hm (by rw [← z]; simp [lenD]))]; rfl
  · rfl
theorem kitC2 {K : PySem.W.Frag} {mg : Str → Option Value} {w : World} {C : Addr} (T : Txt K mg w C) (e : D) : PySem.W.kitOne K (kyU C e) (.ref C) = some (isAt e) := by
  rw [T.kitC e]; cases e <;> rfl
section
variable {P : Program} {w : World} {K : PySem.W.Frag} {mg : Str → Option Value} {base : Heap} {f : Addr} {fd : FuncData} {C : Addr}
abbrev s__law_agree : Stmt := top 77
theorem sc__law_agree : FnScope ["actual", "due"] ["actual", "due"] (C8.fnScope s__law_agree) := C8.fnScope_by (by decide +kernel)
theorem ok__law_agree (F : C8.Def K mg "_law_agree" s__law_agree f fd) (b : Binds K fd ["actual", "due"] []) (T : Txt K mg w C) : C8.Cal P w K mg base 1 "_law_agree" spAg [] := by
  refine C8.cal0 F b .nil sc__law_agree (fun vs H Q E h => ?_) (fun cdv A outer s H vs Q E hr h => ?_)
  · obtain ⟨a, b, rfl, _⟩ := h; rfl
  obtain ⟨a, b, rfl, q⟩ := h
  refine ⟨_, (pss_one (ps_ret (pe_and (pe_callB (call_isiA T.cl) rfl T.z_isinstance bt_isinstance (pa_cons (pv 0) (pa_cons (pe_bltn (v := .ty "bool") rfl T.z_bool bt_bool rfl) pa_nil))) (pe_one (pe_cmpR op_eq (pv 0) (pv 1) (nomark _)))))), ?_⟩
  refine ⟨_, rfl, .bl a, .bl a, _, _, _, rfl, .bl a, .ty _, kitB T (.bl a), _, rfl, bT rfl ⟨_, rfl, _, rfl, rfl, ?_⟩⟩
  have e : decide (V.bl a = V.bl b) = decide (a = b) := by cases a <;> cases b <;> rfl
  rw [e]; exact q
abbrev s__law_number : Stmt := top 75
theorem sc__law_number : FnScope ["state"] ["state"] (C8.fnScope s__law_number) := C8.fnScope_by (by decide +kernel)
theorem ok__law_number (F : C8.Def K mg "_law_number" s__law_number f fd) (b : Binds K fd ["state"] []) (T : Txt K mg w C) : C8.Cal P w K mg base 1 "_law_number" (spLNum C) [] := by
  refine C8.cal0 F b .nil sc__law_number (fun vs H Q E h => ?_) (fun cdv A outer s H vs Q E hr h => ?_)
  · obtain ⟨x, v, rfl, _⟩ := h; rfl
  obtain ⟨x, v, rfl, hx, hf, q⟩ := h
  refine ⟨_, (C8.pss_cut (ps_if (PW.pt (pw_and (pt_val (pe_callB (call_isiA T.cl) rfl T.z_isinstance bt_isinstance (pa_cons (pv 0) (pa_cons (pe_bltn (v := .ty "tuple") rfl T.z_tuple bt_tuple rfl) pa_nil)))) (pw_and (pt_cmpR op_eq (pe_callB call_lenS rfl T.z_len bt_len (pa_cons (pv 0) pa_nil)) pe_int (nomark _)) (pw_and1 (pt_cmpR op_in_seq (pe_ix ix_tup (pv 0) pe_int (fun _ _ => rfl)) (pe_lst (pa_cons pe_str (pa_cons pe_str pa_nil))) (by with_unfolding_all rfl)))))) (pss_one (ps_ret (pe_lst (pa_cons (pe_ix ix_tup (pv 0) pe_int (fun _ _ => rfl)) pa_nil)))) pss_nil)
      (pss_cons (ps_if (PW.pt (pw_and (pt_val (pe_callB (call_isiA T.cl) rfl T.z_isinstance bt_isinstance (pa_cons (pv 0) (pa_cons (pe_bltn (v := .ty "tuple") rfl T.z_tuple bt_tuple rfl) pa_nil)))) (pw_and (pt_cmpR op_eq (pe_callB call_lenS rfl T.z_len bt_len (pa_cons (pv 0) pa_nil)) pe_int (nomark _)) (pw_and1 (pt_cmpR op_eq (pe_ix ix_tup (pv 0) pe_int (fun _ _ => rfl)) pe_str (nomark _)))))) (pss_one (ps_ret (pe_lst (pa_cons (pe_ix ix_tup (pv 0) pe_int (fun _ _ => rfl)) pa_nil)))) pss_nil)
      (pss_one (ps_ret (pe_lst (pa_cons pe_non pa_nil)))))), ?_⟩
  have none_ : ∀ H1 l, Same H H1 → H1 l = none → numF v = false → Q (.ref l) (upd H1 l (.lst [.non])) := fun H1 l s1 hl hn => by
    refine q _ l .non (s1.trans (same_new hl)) (s1.free hl) upd_same (fun h => ?_) (fun _ => rfl) ?_
    · rw [hn] at h; cases h
    · unfold numO; rw [if_neg (by rw [hn]; simp)]; exact .non
  have yes_ : ∀ H1 l a xs y, Same H H1 → H1 l = none → numF v = true → x = .ref a → H a = some (.tup xs) → xs[1]? = some y → Is C H y (argD v 1) → Q (.ref l) (upd H1 l (.lst [y])) := fun H1 l a xs y s1 hl hn hxa ha hy iy => by
    refine q _ l y (s1.trans (same_new hl)) (s1.free hl) upd_same (fun _ a' xs' e1 e2 => ?_) (fun h => ?_) ?_
    · rw [hxa] at e1; cases e1
      rw [ha] at e2; cases e2
      exact hy
    · rw [hn] at h; cases h
    · unfold numO; rw [if_pos hn]; exact iy.same (s1.trans (same_new hl))
  refine ⟨fun σ' H' => σ' = [some x] ∧ Same H H' ∧ formB v "freezing" 2 = false ∧ formB v "frozen" 2 = false, ?_, ?_⟩
  · refine ⟨_, rfl, x, v, _, _, _, rfl, hx, .ty _, kitT T v, _, rfl, ?_⟩
    cases ht : isTu2 v with
    | false => exact bF rfl ⟨rfl, Same.refl H, by cases v <;> first | rfl | (simp [isTu2] at ht; done), by cases v <;> first | rfl | (simp [isTu2] at ht; done)⟩
    | true =>
    obtain ⟨vs, rfl⟩ : ∃ vs, v = .tup vs := by cases v <;> first | exact ⟨_, rfl⟩ | (simp [isTu2] at ht; done)
    have hx' := hx
    cases hx with
    | @tup a xs _ ha hxs =>
    have hl := hxs.len
    refine bT rfl ⟨_, rfl, a, xs, rfl, .inr (SqT.of ha), rfl, _, rfl, ?_⟩
    by_cases c2 : vs.length = 2
    · refine ifT (by rw [hl, c2]; rfl) ?_
      match vs, c2 with
      | [n0, n1], _ =>
      cases hxs with
      | @cons y0 _ _ _ i0 hxs => cases hxs with
      | @cons y1 _ _ _ i1 hxs =>
      cases hxs
      have e1 := form_s (k := "freezing") (m := 2) hf rfl
      have e2 := form_s (k := "frozen") (m := 2) hf rfl
      refine ⟨_, rfl, a, _, 0, y0, rfl, rfl, SqT.of ha, atI_nat (j := 0) rfl, (by show 2 ≤ sizeLine; decide), fun l hl => ?_⟩
      have s1 := same_new (o := .lst [.str "freezing", .str "frozen"]) hl
      have fy : flatV y0 = true := by
        have : flat1.flt3 n0 = true := hf
        cases i0 <;> first | rfl | (simp [flat1.flt3] at this; done)
      refine ⟨l, _, rfl, .inl (SqL.of upd_same), fy, rfl, _, rfl, ?_⟩
      have e0 : inV y0 [.str "freezing", .str "frozen"] = (formB (.tup [n0, n1]) "freezing" 2 || formB (.tup [n0, n1]) "frozen" 2) := by
        rw [e1, e2]
        have : flat1.flt3 n0 = true := hf
        cases i0 <;> first | exact inVab _ _ _ | rfl | (simp [flat1.flt3] at this; done)
      show (if inV y0 [.str "freezing", .str "frozen"] = true then _ else _)
      rw [e0]
      cases h : (formB (.tup [n0, n1]) "freezing" 2 || formB (.tup [n0, n1]) "frozen" 2) with
      | false =>
        simp only [Bool.or_eq_false_iff] at h
        exact bF rfl ⟨rfl, s1, h.1, h.2⟩
      | true =>
        refine bT rfl ⟨_, rfl, a, _, 1, y1, rfl, rfl, SqT.of (s1 _ _ ha), atI_nat (j := 1) rfl, (by show 1 ≤ sizeLine; decide), fun l2 hl2 => ?_⟩
        exact yes_ _ l2 a _ y1 s1 hl2 (by unfold numF; rw [h]; rfl) rfl ha rfl i1
    · refine ifF (fun z => c2 (by have := V.int.inj z; omega)) ⟨rfl, Same.refl H, form_n (fun z => c2 (by simp only [lenD] at z; omega)), form_n (fun z => c2 (by simp only [lenD] at z; omega))⟩
  · rintro σ' H1 ⟨rfl, s1, n1, n2⟩
    have hx1 := hx.same s1
    refine ⟨_, rfl, x, v, _, _, _, rfl, hx1, .ty _, kitT T v, _, rfl, ?_⟩
    have fin : formB v "gone" 3 = false → tRet (tLst (tCons (tC V.non) tNil)) { nx := fun x H' => Q V.non H', rt := Q } [some x] H1 := fun h => ⟨(by show 1 ≤ sizeLine; decide), fun l hl => none_ _ l s1 hl (by unfold numF; rw [n1, n2, h]; rfl)⟩
    cases ht : isTu2 v with
    | false => exact bF rfl (fin (by cases v <;> first | rfl | (simp [isTu2] at ht; done)))
    | true =>
    obtain ⟨vs, rfl⟩ : ∃ vs, v = .tup vs := by cases v <;> first | exact ⟨_, rfl⟩ | (simp [isTu2] at ht; done)
    cases hx with
    | @tup a xs _ ha hxs =>
    have hl := hxs.len
    refine bT rfl ⟨_, rfl, a, xs, rfl, .inr (SqT.of (s1 _ _ ha)), rfl, _, rfl, ?_⟩
    by_cases c2 : vs.length = 3
    · refine ifT (by rw [hl, c2]; rfl) ?_
      match vs, c2 with
      | [m0, m1, m2], _ =>
      cases hxs with
      | @cons y0 _ _ _ i0 hxs => cases hxs with
      | @cons y1 _ _ _ i1 hxs => cases hxs with
      | @cons y2 _ _ _ i2 hxs =>
      cases hxs
      have e1 := form_s (k := "gone") (m := 3) hf rfl
      have ff : flat1.flt3 m0 = true := hf
      refine ⟨_, rfl, a, _, 0, y0, rfl, rfl, SqT.of (s1 _ _ ha), atI_nat (j := 0) rfl, (by cases i0 <;> first | rfl | (simp [flat1.flt3] at ff; done)), _, rfl, ?_⟩
      have e0 : decide (y0 = V.str "gone") = formB (.tup [m0, m1, m2]) "gone" 3 := by
        rw [e1]
        cases i0 <;> first | (simp; done) | (simp [flat1.flt3] at ff; done)
      rw [e0]
      cases h : formB (.tup [m0, m1, m2]) "gone" 3 with
      | false => exact bF rfl (fin h)
      | true =>
        refine bT rfl ⟨_, rfl, a, _, 1, y1, rfl, rfl, SqT.of (s1 _ _ ha), atI_nat (j := 1) rfl, (by show 1 ≤ sizeLine; decide), fun l2 hl2 => ?_⟩
        exact yes_ _ l2 a _ y1 s1 hl2 (by unfold numF; rw [h]; simp) rfl ha rfl i1
    · exact ifF (fun z => c2 (by have := V.int.inj z; omega)) (fin (form_n (fun z => c2 (by simp only [lenD] at z; omega))))
end
end Hc

set_option maxHeartbeats 8000000
namespace Hc
open PySem PySem.Spec PyProof.Rows L2 Hr
section
variable {P : Program} {w : World} {K : PySem.W.Frag} {mg : Str → Option Value} {base : Heap} {f : Addr} {fd : FuncData} {C : Addr}
abbrev s__law_is_state : Stmt := top 76
theorem sc__law_is_state : FnScope ["state", "number"] ["state"] (C8.fnScope s__law_is_state) := C8.fnScope_by (by decide +kernel)
theorem ok__law_is_state (F : C8.Def K mg "_law_is_state" s__law_is_state f fd) (b : Binds K fd ["state"] []) (T : Txt K mg w C) (c__law_number : C8.Cal P w K mg base 1 "_law_number" (spLNum C) []) : C8.Cal P w K mg base 2 "_law_is_state" (spLSt C) [] := by
  refine C8.cal0 F b .nil sc__law_is_state (fun vs H Q E h => ?_) (fun cdv A outer s H vs Q E hr h => ?_)
  · obtain ⟨x, v, rfl, _⟩ := h; rfl
  obtain ⟨x, v, rfl, hx, hf, q⟩ := h
  refine ⟨_, (pss_cons (ps_if (pt_val (pe_callB (call_isiA T.cl) rfl T.z_isinstance bt_isinstance (pa_cons (pv 0) (pa_cons (pe_bltn (v := .ty "str") rfl T.z_str bt_str rfl) pa_nil)))) (pss_one (ps_ret (pe_cmpR op_in_seq (pv 0) (pe_lst (pa_cons pe_str (pa_cons pe_str (pa_cons pe_str pa_nil)))) (by with_unfolding_all rfl)))) pss_nil)
      (C8.pss_cut (ps_if (PW.pt (pw_and (pt_val (pe_callB (call_isiA T.cl) rfl T.z_isinstance bt_isinstance (pa_cons (pv 0) (pa_cons (pe_bltn (v := .ty "tuple") rfl T.z_tuple bt_tuple rfl) pa_nil)))) (pw_and (pt_cmpR op_eq (pe_callB call_lenS rfl T.z_len bt_len (pa_cons (pv 0) pa_nil)) pe_int (nomark _)) (pw_and1 (pt_cmpR op_eq (pe_ix ix_tup (pv 0) pe_int (fun _ _ => rfl)) pe_str (nomark _)))))) (pss_one (ps_ret (pe_and (pe_callB (call_isiA T.cl) rfl T.z_isinstance bt_isinstance (pa_cons (pe_ix ix_tup (pv 0) pe_int (fun _ _ => rfl)) (pa_cons (pe_glob (v := .ref C) rfl T.g_Atom rfl) pa_nil))) (pe_and (pe_cmpR op_eq (pe_fld (pe_ix ix_tup (pv 0) pe_int (fun _ _ => rfl)) rfl) pe_str (nomark _)) (pe_one (pe_callB (call_isiA T.cl) rfl T.z_isinstance bt_isinstance (pa_cons (pe_ix ix_tup (pv 0) pe_int (fun _ _ => rfl)) (pa_cons (pe_bltn (v := .ty "tuple") rfl T.z_tuple bt_tuple rfl) pa_nil)))))))) pss_nil)
      (pss_cons (ps_set (i := 1) sc__law_is_state.nd rfl (Or.inl rfl) (pe_ix ix_list (C8.pe_c c__law_number hr (by first | decide | omega) rfl (pa_cons (pv 0) pa_nil)) pe_int (fun _ _ => rfl)))
      (pss_cons (ps_if (PW.pt (pw_or (pt_not (pt_val (pe_callB (call_isiA T.cl) rfl T.z_isinstance bt_isinstance (pa_cons (pv 1) (pa_cons (pe_bltn (v := .ty "int") rfl T.z_int bt_int rfl) pa_nil))))) (pw_or (pt_val (pe_callB (call_isiA T.cl) rfl T.z_isinstance bt_isinstance (pa_cons (pv 1) (pa_cons (pe_bltn (v := .ty "bool") rfl T.z_bool bt_bool rfl) pa_nil)))) (pw_or1 (pt_cmpR op_lt (pv 1) pe_int (nomark _)))))) (pss_one (ps_ret pe_bl)) pss_nil)
      (pss_one (ps_ret (pe_or (pe_cmpR op_eq (pe_callB call_lenS rfl T.z_len bt_len (pa_cons (pv 0) pa_nil)) pe_int (nomark _)) (pe_one (pe_callB (call_isiA T.cl) rfl T.z_isinstance bt_isinstance (pa_cons (pe_ix ix_tup (pv 0) pe_int (fun _ _ => rfl)) (pa_cons (pe_bltn (v := .ty "str") rfl T.z_str bt_str rfl) pa_nil))))))))))), ?_⟩
  refine ⟨_, rfl, x, v, _, _, _, rfl, hx, .ty _, kitS T v, _, rfl, ?_⟩
  cases hs : isSt v with
  | true =>
    obtain ⟨k, rfl⟩ : ∃ k, v = .str k := by cases v <;> first | exact ⟨_, rfl⟩ | (simp [isSt] at hs; done)
    cases hx
    refine bT rfl ⟨_, rfl, (by show 3 ≤ sizeLine; decide), fun m hm => ?_⟩
    refine ⟨m, _, rfl, .inl (SqL.of upd_same), rfl, rfl, ?_⟩
    show Q (.bl (inV (.str k) [.str "new", .str "active", .str "dying"])) _
    rw [inV3]
    exact q _ (same_new (o := .lst [.str "new", .str "active", .str "dying"]) hm)
  | false =>
  refine bF rfl ?_
  unfold tNext
  dsimp only
  have eD : lstD v = if formB v "coming" 3 = true then isTk (argD v 1) && isTu2 (argD v 2) else match numO v with | .int i => decide (1 ≤ i) && (decide (lenD v = 2) || isSt (argD v 2)) | _ => false := by
    unfold lstD
    split
    · simp [isSt] at hs
    · rfl
  have q0 : ∀ b, lstD v = b → ∀ H', Same H H' → Q (.bl b) H' := fun b e H' s' => by rw [← e]; exact q H' s'
  refine ⟨fun σ' H' => σ' = [some x, none] ∧ H' = H ∧ formB v "coming" 3 = false, ?_, ?_⟩
  · refine ⟨_, rfl, x, v, _, _, _, rfl, hx, .ty _, kitT T v, _, rfl, ?_⟩
    cases ht : isTu2 v with
    | false => exact bF rfl ⟨rfl, rfl, by cases v <;> first | rfl | (simp [isTu2] at ht; done)⟩
    | true =>
    obtain ⟨vs, rfl⟩ : ∃ vs, v = .tup vs := by cases v <;> first | exact ⟨_, rfl⟩ | (simp [isTu2] at ht; done)
    cases hx with
    | @tup a xs _ ha hxs =>
    have hl := hxs.len
    refine bT rfl ⟨_, rfl, a, xs, rfl, .inr (SqT.of ha), rfl, _, rfl, ?_⟩
    by_cases c2 : vs.length = 3
    · refine ifT (by rw [hl, c2]; rfl) ?_
      match vs, c2 with
      | [m0, m1, m2], _ =>
      cases hxs with
      | @cons y0 _ _ _ i0 hxs => cases hxs with
      | @cons y1 _ _ _ i1 hxs => cases hxs with
      | @cons y2 _ _ _ i2 hxs =>
      cases hxs
      have e1 := form_s (k := "coming") (m := 3) hf rfl
      have ff : flat1.flt3 m0 = true := hf
      refine ⟨_, rfl, a, _, 0, y0, rfl, rfl, SqT.of ha, atI_nat (j := 0) rfl, (by cases i0 <;> first | rfl | (simp [flat1.flt3] at ff; done)), _, rfl, ?_⟩
      have e0 : decide (y0 = V.str "coming") = formB (.tup [m0, m1, m2]) "coming" 3 := by
        rw [e1]
        cases i0 <;> first | (simp; done) | (simp [flat1.flt3] at ff; done)
      rw [e0]
      cases h : formB (.tup [m0, m1, m2]) "coming" 3 with
      | false => exact bF rfl ⟨rfl, rfl, rfl⟩
      | true =>
        rw [if_pos h] at eD
        have a1 : argD (.tup [m0, m1, m2]) 1 = m1 := rfl
        have a2 : argD (.tup [m0, m1, m2]) 2 = m2 := rfl
        rw [a1, a2] at eD
        refine bT rfl ⟨_, rfl, a, _, 1, y1, rfl, rfl, SqT.of ha, atI_nat (j := 1) rfl, y1, m1, _, _, _, rfl, i1, .own C, kitC2 T m1, _, rfl, ?_⟩
        cases hat : isAt m1 with
        | false => exact bF rfl (q0 _ (by rw [eD]; cases m1 <;> first | rfl | (simp [isAt] at hat; done)) H (Same.refl H))
        | true =>
        obtain ⟨k, es, rfl⟩ : ∃ k es, m1 = .atom k es := by cases m1 <;> first | exact ⟨_, _, rfl⟩ | (simp [isAt] at hat; done)
        cases i1 with
        | @atom o1 dx t _ ts _ u1 u2 it =>
        refine bT rfl ⟨_, rfl, a, _, 1, _, rfl, rfl, SqT.of ha, atI_nat (j := 1) rfl, o1, C, dx, _, .str k, rfl, u1, T.cl.cl, T.cl.nK, rfl, rfl, _, rfl, ?_⟩
        by_cases ck : k = "ticket"
        · subst ck
          refine ifT rfl ⟨_, rfl, a, _, 2, y2, rfl, rfl, SqT.of ha, atI_nat (j := 2) rfl, y2, m2, _, _, _, rfl, i2, .ty _, kitT T m2, ?_⟩
          exact q0 _ (by rw [eD]; rfl) H (Same.refl H)
        · exact ifF (fun z => ck (V.str.inj z)) (q0 _ (by rw [eD]; simp only [isTk]; rw [decide_eq_false ck]; rfl) H (Same.refl H))
    · exact ifF (fun z => c2 (by have := V.int.inj z; omega)) ⟨rfl, rfl, form_n (fun z => c2 (by simp only [lenD] at z; omega))⟩
  · rintro σ' H' ⟨rfl, rfl, hc⟩
    rw [if_neg (by rw [hc]; simp)] at eD
    refine ⟨_, rfl, x, v, rfl, hx, hf, fun H1 l y s1 hl0 hl hy1 hy2 iy => ?_⟩
    refine ⟨l, _, 0, y, rfl, rfl, SqL.of hl, atI_nat (j := 0) rfl, ?_⟩
    have hx1 := hx.same s1
    refine ⟨_, rfl, y, numO v, _, _, _, rfl, iy, .ty _, kitI T _, _, rfl, ?_⟩
    cases hn : numO v with
    | int i =>
      rw [hn] at iy eD
      cases iy
      have eD : lstD v = (decide (1 ≤ i) && (decide (lenD v = 2) || isSt (argD v 2))) := eD
      refine bF rfl ?_
      refine ⟨_, rfl, .int i, .int i, _, _, _, rfl, .int i, .ty _, kitB T _, _, rfl, bF rfl ?_⟩
      refine ⟨_, rfl, _, _, rfl, rfl, _, rfl, ite2 (fun c => ?_) (fun c => ?_)⟩
      · exact q0 _ (by rw [eD, decide_eq_false (by have := of_decide_eq_true c; omega)]; rfl) H1 s1
      · have c1 : decide (1 ≤ i) = true := decide_eq_true (by simp at c; omega)
        rw [c1, Bool.true_and] at eD
        dsimp only
        have hnf : numF v = true := by
          cases h : numF v with
          | true => rfl
          | false => unfold numO at hn; rw [if_neg (by rw [h]; simp)] at hn; cases hn
        obtain ⟨k0, e1, es, rfl⟩ := numF_len hnf
        cases hx1 with
        | @tup a xs _ ha hxs =>
        have hl2 := hxs.len
        refine ⟨_, rfl, a, xs, rfl, .inr (SqT.of ha), rfl, _, rfl, ?_⟩
        by_cases c3 : es = []
        · subst c3
          refine ifT (by rw [hl2]; rfl) (q0 _ ?_ H1 s1)
          rw [eD]; rfl
        · obtain ⟨e2, er, rfl⟩ : ∃ a b, es = a :: b := by cases es <;> first | exact absurd rfl c3 | exact ⟨_, _, rfl⟩
          refine ifF (fun z => by have := V.int.inj z; rw [hl2] at this; simp at this; omega) ?_
          cases hxs with
          | @cons z0 _ _ _ j0 hxs => cases hxs with
          | @cons z1 _ _ _ j1 hxs => cases hxs with
          | @cons z2 _ _ _ j2 hxs =>
          refine ⟨_, rfl, a, _, 2, z2, rfl, rfl, SqT.of ha, atI_nat (j := 2) rfl, z2, e2, _, _, _, rfl, j2, .ty _, kitS T e2, ?_⟩
          refine q0 _ ?_ H1 s1
          rw [eD, decide_eq_false (by simp [lenD]), Bool.false_or]; rfl
    | bl b0 =>
      rw [hn] at iy eD
      cases iy
      refine bF rfl ?_
      exact ⟨_, rfl, .bl b0, .bl b0, _, _, _, rfl, .bl b0, .ty _, kitB T _, _, rfl, bT rfl (q0 _ eD H1 s1)⟩
    | _ =>
      rw [hn] at eD
      exact bT rfl (q0 _ eD H1 s1)
end
end Hc

namespace Hc
open PySem PySem.Spec PyProof.Rows L2 Hr
theorem room64 {k : Nat} {A : Around} (hr : Room k A) : A.units + 64 < cLine := by
  have := hr.un
  omega
mutual
/-- the datum in the words of the library -/
def pyd : D → PyData
  | .non => .none | .bl b => .bool b | .int i => .int i | .str s => .str s
  | .tup ds => .tuple (pydL ds)
  | .lst ds => .list (pydL ds)
  | _ => .none
def pydL : List D → List PyData
  | [] => []
  | d :: ds => pyd d :: pydL ds
end
mutual
def pln : D → Bool
  | .tup ds => plnL ds
  | .lst ds => plnL ds
  | .str s => PyData.strOk s
  | .dct => false
  | .atom _ _ => false
  | _ => true
def plnL : List D → Bool
  | [] => true
  | d :: ds => pln d && plnL ds
end
mutual
theorem is_dp {K : PySem.W.Frag} {C : Addr} {H : Hp} : ∀ {x : V} {d : D}, pln d = true → Is C H x d → Dp K H x (pyd d)
  | _, _, _, .non => .non
  | _, _, _, .bl b => .bl b
  | _, _, _, .int i => .int i
  | _, _, _, .str s => .str s
  | _, _, c, .tup h t => .tup (SqT.of h) (isA_dp (by simpa [pln] using c) t)
  | _, _, c, .lst h t => .lst (SqL.of h) (isA_dp (by simpa [pln] using c) t)
  | _, _, c, .dct _ => by simp [pln] at c
  | _, _, c, .atom _ _ _ => by simp [pln] at c
theorem isA_dp {K : PySem.W.Frag} {C : Addr} {H : Hp} : ∀ {xs : List V} {ds : List D}, plnL ds = true → IsA C H xs ds → DpAll K H xs (pydL ds)
  | _, _, _, .nil => .nil
  | _, _, c, .cons h t => by
    simp only [plnL, Bool.and_eq_true] at c
    exact .cons (is_dp c.1 h) (isA_dp c.2 t)
end
mutual
def dpt : D → Nat
  | .tup ds => dptL ds + 1
  | .lst ds => dptL ds + 1
  | _ => 0
def dptL : List D → Nat
  | [] => 0
  | d :: ds => max (dpt d) (dptL ds)
end
mutual
theorem pyd_lay : ∀ d : D, pln d = true → PyData.canLay0 (pyd d) = true ∧ PyData.depth (pyd d) ≤ dpt d
  | .tup ds, h => by
    have := pydL_lay ds (by simpa [pln] using h)
    simp only [pyd, PyData.canLay0, PyData.depth, dpt]; exact ⟨this.1, by omega⟩
  | .lst ds, h => by
    have := pydL_lay ds (by simpa [pln] using h)
    simp only [pyd, PyData.canLay0, PyData.depth, dpt]; exact ⟨this.1, by omega⟩
  | .non, _ => by simp [pyd, PyData.canLay0, PyData.depth]
  | .bl _, _ => by simp [pyd, PyData.canLay0, PyData.depth]
  | .int _, _ => by simp [pyd, PyData.canLay0, PyData.depth]
  | .str s, h => by simp only [pyd, PyData.canLay0, PyData.depth]; exact ⟨by simpa [pln] using h, Nat.zero_le _⟩
  | .dct, h => by simp [pln] at h
  | .atom _ _, h => by simp [pln] at h
theorem pydL_lay : ∀ ds : List D, plnL ds = true → PyData.canLayAll0 (pydL ds) = true ∧ PyData.depthAll (pydL ds) ≤ dptL ds
  | [], _ => by simp [pydL, PyData.canLayAll0, PyData.depthAll]
  | d :: ds, h => by
    simp only [plnL, Bool.and_eq_true] at h
    have h1 := pyd_lay d h.1
    have h2 := pydL_lay ds h.2
    simp only [pydL, PyData.canLayAll0, PyData.depthAll, dptL, Bool.and_eq_true]
    exact ⟨⟨h1.1, h2.1⟩, by omega⟩
end
theorem pyd_shaped {d : D} (h : pln d = true) (k : dpt d ≤ 64) : SeqAt.shaped (pyd d) = true := by
  have := pyd_lay d h
  unfold SeqAt.shaped
  rw [this.1, decide_eq_true (Nat.le_trans this.2 k)]; rfl
theorem eqv_nil (ds : List D) : PyData.eqv (.list (pydL ds)) (.list []) = ds.isEmpty := by
  cases ds <;> simp [pydL, PyData.eqv, PyData.eqvAll]
theorem room65 {k : Nat} {A : Around} (hr : Room k A) : A.units + 65 < cLine := by
  have := hr.un
  omega
/-- x in t, x not in t, a tuple of data -/
def rInTD (K : PySem.W.Frag) (g : Bool → Bool) : R2 := fun x y H Q => ∃ d ds, Dp K H x d ∧ Dp K H y (.tuple ds) ∧ SeqAt.shaped d = true ∧ SeqAt.shaped (.tuple ds) = true ∧ Q (.bl (g (ds.any fun z => PyData.eqv z d))) H
theorem op_inTD {X : Cx} (hu : X.A.units + 65 < cLine) : OpR X (compareOp .In) (rInTD X.K id) := by
  intro pins s σ H x y v u Q I rx ry h
  obtain ⟨d, ds, hd, he, sd, se, q⟩ := h
  obtain ⟨as, r1⟩ := Dp.reads I d x v hd rx
  obtain ⟨bs, r2⟩ := Dp.reads I (.tuple ds) y u he ry
  exact SeqAt.in_tuple_reads r2 r1 (SeqAt.canLay_of_shaped se) (SeqAt.canLay_of_shaped sd) (room_in_shaped sd hu) ⟨.bl _, H, I, rfl, q⟩
theorem op_notInTD {X : Cx} (hu : X.A.units + 65 < cLine) : OpR X (compareOp .NotIn) (rInTD X.K not) := by
  intro pins s σ H x y v u Q I rx ry h
  obtain ⟨d, ds, hd, he, sd, se, q⟩ := h
  obtain ⟨as, r1⟩ := Dp.reads I d x v hd rx
  obtain ⟨bs, r2⟩ := Dp.reads I (.tuple ds) y u he ry
  exact SeqAt.notIn_tuple_reads r2 r1 (SeqAt.canLay_of_shaped se) (SeqAt.canLay_of_shaped sd) (room_in_shaped sd hu) ⟨.bl _, H, I, rfl, q⟩
end Hc

set_option maxHeartbeats 8000000
namespace Hc
open PySem PySem.Spec PyProof.Rows L2 Hr
def spLaw (K : PySem.W.Frag) : Sp := fun vs H Q _ => ∃ (a : Addr) (ns : List Int), vs = [.ref a] ∧ SqL K H a (ns.map V.int) ∧ ns.length ≤ 1000 ∧ ∀ H', Q (.bl true) H'
def tkD (e : D) : D := match e with | .atom k es => if k = "ticket" then .tup es else .non | _ => .non
def slD (e : D) : D := if sealB e = true then (match e with | .atom _ es => .tup es | _ => .non) else .non
theorem tk_go {C : Addr} {H : Hp} {x : V} {e : D} {Q : VK} {E : XK} (ix : Is C H x e) (k : ∀ y, Is C H y (tkD e) → Q y H) : spTk C [x] H Q E := by
  refine ⟨x, e, rfl, ix, fun h => k .non ?_, fun es t he it => k _ ?_⟩
  · have : tkD e = .non := by
      cases e <;> first | rfl | (rename_i k0 es; unfold tkD; simp only [isTk] at h; exact if_neg (of_decide_eq_false h))
    rw [this]; exact .non
  · subst he
    have : tkD (.atom "ticket" es) = .tup es := by unfold tkD; exact if_pos rfl
    rw [this]; exact it
theorem sl_go2 {C : Addr} {H : Hp} {x : V} {e : D} {Q : VK} {E : XK} (ix : Is C H x e) (h4 : ∀ es, e = .atom "seal" es → es.length = 4) (k : ∀ y, Is C H y (slD e) → Q y H) : spSl C [x] H Q E := by
  refine ⟨x, e, rfl, ix, h4, fun h => k .non ?_, fun es t he hs it => k _ ?_⟩
  · have : slD e = .non := by unfold slD; rw [if_neg (by rw [h]; simp)]
    rw [this]; exact .non
  · subst he
    have : slD (.atom "seal" es) = .tup es := by unfold slD; rw [if_pos hs]
    rw [this]; exact it
theorem num_go {C : Addr} {H : Hp} {x : V} {e : D} {Q : VK} {E : XK} (ix : Is C H x e) (k : ∀ y, Is C H y (numO e) → Q y H) : spNum C [x] H Q E := by
  refine ⟨x, e, rfl, ix, fun h => k .non (by unfold numO; rw [if_neg (by rw [h]; simp)]; exact .non), fun h a xs y hx ha hy => k y ?_⟩
  obtain ⟨k0, e1, es, rfl⟩ := numF_len h
  subst hx
  cases ix with
  | @tup _ xs' _ ha' hxs =>
  rw [ha] at ha'
  cases ha'
  obtain ⟨z, hz, iz⟩ := hxs.get (i := 1) (d := e1) rfl
  rw [hy] at hz
  cases hz
  unfold numO; rw [if_pos h]; exact iz
theorem st_num : ∀ v ∈ stateD, pln (numO v) = true ∧ dpt (numO v) ≤ 10 ∧ PyData.eqv (.list [pyd (numO v)]) (.list [pyd (numO v)]) = true := by
  have h : (stateD.all fun v => pln (numO v) && decide (dpt (numO v) ≤ 10) && PyData.eqv (.list [pyd (numO v)]) (.list [pyd (numO v)])) = true := by decide +kernel
  intro v hv
  have := List.all_eq_true.mp h v hv
  simp only [Bool.and_eq_true, decide_eq_true_eq] at this
  exact ⟨this.1.1, this.1.2, this.2⟩
def lastD' : D → Bool := fun e => match e with | .atom k es => wrdL es && isTermK k es && decide (szL es ≤ 1000) && decide (depL es ≤ 3) && (decide (k ≠ "seal") || decide (es.length = 4)) | _ => true
theorem last_ok : ∀ e ∈ wordsD ++ oddD, lastD' e = true := by
  have h : ((wordsD ++ oddD).all lastD') = true := by decide +kernel
  exact fun v hv => List.all_eq_true.mp h v hv
theorem mv_data : PyData.eqv (.tuple (movesL.map fun s => PyData.str s)) (.tuple (movesL.map fun s => PyData.str s)) = true ∧ SeqAt.shaped (.tuple (movesL.map fun s => PyData.str s)) = true := by decide +kernel
theorem dps {K : PySem.W.Frag} {H : Hp} : ∀ ss : List Str, DpAll K H (ss.map V.str) (ss.map fun s => PyData.str s)
  | [] => .nil
  | s :: ss => .cons (.str s) (dps ss)
section
variable {P : Program} {w : World} {K : PySem.W.Frag} {mg : Str → Option Value} {base : Heap} {f : Addr} {fd : FuncData} {C : Addr}
abbrev s_law : Stmt := top 78
theorem sc_law : FnScope ["script", "draws", "turn", "call", "state", "word", "ticket", "seal"] ["script"] (C8.fnScope s_law) := C8.fnScope_by (by decide +kernel)
theorem fn_law (F : C8.Fun K "law" "law" s_law f fd) (b : Binds K fd ["script"] []) (T : Txt K mg w C) (O : OwnS P w K mg base 4 C (spEqG C)) (o : Oth K C)
    (c__law_begin : C8.Cal P w K mg base 1 "_law_begin" (fun vs H Q _ => ∃ (a : Addr) (ns : List Int), vs = [.ref a] ∧ SqL K H a (ns.map V.int) ∧ ns.length ≤ 1000 ∧ ∀ H' d c, Same H H' → H d = none → H c = none → Dr H' d c → Q (.ref d) H') [])
    (c__law_shapes : C8.Cal P w K mg base 1 "_law_shapes" spShp []) (c__law_call : C8.Cal P w K mg base 9 "_law_call" (spOne C CallOk) []) (c_is_move : C8.Cal P w K mg base 7 "is_move" (spMv C) []) (c__law_is_move : C8.Cal P w K mg base 8 "_law_is_move" (spLMv C) []) (c__law_agree : C8.Cal P w K mg base 1 "_law_agree" spAg [])
    (c__law_state : C8.Cal P w K mg base 8 "_law_state" (spOne C (· ∈ stateD)) []) (c_is_state : C8.Cal P w K mg base 4 "is_state" (spSt C) []) (c__law_is_state : C8.Cal P w K mg base 2 "_law_is_state" (spLSt C) []) (c_number_of : C8.Cal P w K mg base 2 "number_of" (spNum C) []) (c__law_number : C8.Cal P w K mg base 1 "_law_number" (spLNum C) [])
    (c__law_words : C8.Cal P w K mg base 7 "_law_words" (spWds C) []) (c__law_odd : C8.Cal P w K mg base 3 "_law_odd" (spOne C (· ∈ oddD)) []) (c_ticket_parts : C8.Cal P w K mg base 1 "ticket_parts" (spTk C) []) (c_seal_parts : C8.Cal P w K mg base 1 "seal_parts" (spSl C) []) : FnOk P w K mg base C8.CX0 12 f fd ["script"] (spLaw K) := by
  refine C8.fn0 F sc_law (fun vs H Q E h => ?_) (fun cdv A outer s H vs Q E hr h => ?_)
  · obtain ⟨a, ns, rfl, _⟩ := h; rfl
  obtain ⟨a, ns, rfl, ha, hns, q⟩ := h
  obtain ⟨tM, gM, kM⟩ := T.moves
  refine ⟨_, (pss_cons (ps_set (i := 1) sc_law.nd rfl (Or.inl rfl) (C8.pe_c c__law_begin hr (by first | decide | omega) rfl (pa_cons (pv 0) pa_nil)))
      (pss_cons (ps_if (PW.pt (pw_or (pt_cmpR op_ne (C8.pe_gc rfl T.c_CPU_PLACE) pe_int (nomark _)) (pw_or1 (pt_cmpR (op_neD (room64 hr)) (C8.pe_gc rfl gM) (pe_callTy (call_tuple_dK rfl) rfl T.z_tuple bt_tuple (pa_cons (Hr.pe_c0 c__law_shapes hr (by first | decide | omega) rfl) pa_nil)) (nomark _))))) (pss_one (ps_ret pe_bl)) pss_nil)
      (C8.pss_cut (ps_for PassesOwn.never rfl (pi_range1 rfl T.z_range (pa_cons pe_int pa_nil)) (pg_name (i := 2) sc_law.nd rfl (Or.inl rfl))
      (pss_cons (ps_set (i := 3) sc_law.nd rfl (Or.inl rfl) (C8.pe_c c__law_call hr (by first | decide | omega) rfl (pa_cons (pv 1) pa_nil)))
      (pss_cons (ps_if (pt_not (pt_val (C8.pe_c c__law_agree hr (by first | decide | omega) rfl (pa_cons (C8.pe_c c_is_move hr (by first | decide | omega) rfl (pa_cons (pv 3) pa_nil)) (pa_cons (C8.pe_c c__law_is_move hr (by first | decide | omega) rfl (pa_cons (pv 3) pa_nil)) pa_nil))))) (pss_one (ps_ret pe_bl)) pss_nil)
      (pss_cons (ps_set (i := 4) sc_law.nd rfl (Or.inl rfl) (C8.pe_c c__law_state hr (by first | decide | omega) rfl (pa_cons (pv 1) pa_nil)))
      (pss_one (ps_if (PW.pt (pw_or (pt_not (pt_val (C8.pe_c c__law_agree hr (by first | decide | omega) rfl (pa_cons (C8.pe_c c_is_state hr (by first | decide | omega) rfl (pa_cons (pv 4) pa_nil)) (pa_cons (C8.pe_c c__law_is_state hr (by first | decide | omega) rfl (pa_cons (pv 4) pa_nil)) pa_nil))))) (pw_or1 (pt_cmpR (op_neD (room64 hr)) (pe_lst (pa_cons (C8.pe_c c_number_of hr (by first | decide | omega) rfl (pa_cons (pv 4) pa_nil)) pa_nil)) (C8.pe_c c__law_number hr (by first | decide | omega) rfl (pa_cons (pv 4) pa_nil)) (nomark _))))) (pss_one (ps_ret pe_bl)) pss_nil))))))
      (pss_cons (ps_for PassesOwn.never rfl (pi_list (pe_op op_cat (Hr.pe_c0 c__law_words hr (by first | decide | omega) rfl) (pe_lst (pa_cons (C8.pe_c c__law_odd hr (by first | decide | omega) rfl (pa_cons (pv 1) pa_nil)) pa_nil)))) (pg_name (i := 5) sc_law.nd rfl (Or.inl rfl))
      (pss_cons (ps_set (i := 6) sc_law.nd rfl (Or.inl rfl) pe_non)
      (pss_cons (ps_set (i := 7) sc_law.nd rfl (Or.inl rfl) pe_non)
      (C8.pss_cut (ps_if (PW.pt (pw_and (pt_val (pe_callB (call_isiA T.cl) rfl T.z_isinstance bt_isinstance (pa_cons (pv 5) (pa_cons (pe_glob (v := .ref C) rfl T.g_Atom rfl) pa_nil)))) (pw_and1 (pt_cmpR op_eq (pe_fld (pv 5) rfl) pe_str (nomark _))))) (pss_one (ps_set (i := 6) sc_law.nd rfl (Or.inl rfl) (pe_fld (pv 5) rfl))) pss_nil)
      (C8.pss_cut (ps_if (PW.pt (pw_and (pt_val (pe_callB (call_isiA T.cl) rfl T.z_isinstance bt_isinstance (pa_cons (pv 5) (pa_cons (pe_glob (v := .ref C) rfl T.g_Atom rfl) pa_nil)))) (pw_and (pt_cmpR op_eq (pe_fld (pv 5) rfl) pe_str (nomark _)) (pw_and1 (pt_cmpR op_notN (pe_ix ix_tup (pe_fld (pv 5) rfl) pe_int (fun _ _ => rfl)) pe_non (nomark _)))))) (pss_one (ps_set (i := 7) sc_law.nd rfl (Or.inl rfl) (pe_fld (pv 5) rfl))) pss_nil)
      (pss_one (ps_if (PW.pt (pw_or (pt_cmpR (op_neW (N := 4) O o (hr.mono (by decide))) (C8.pe_c c_ticket_parts hr (by first | decide | omega) rfl (pa_cons (pv 5) pa_nil)) (pv 6) (nomark _)) (pw_or1 (pt_cmpR (op_neW (N := 4) O o (hr.mono (by decide))) (C8.pe_c c_seal_parts hr (by first | decide | omega) rfl (pa_cons (pv 5) pa_nil)) (pv 7) (nomark _))))) (pss_one (ps_ret pe_bl)) pss_nil)))))))
      (pss_one (ps_ret pe_bl)))))), ?_⟩
  refine ⟨_, rfl, a, ns, rfl, ha, hns, fun H1 d c s1 hd0 hc0 hD => ?_⟩
  refine ⟨rfl, _, rfl, bF (by simp) ?_⟩
  refine ⟨rfl, fun H2 sd s2 hsd0 hsd => ⟨sd, _, rfl, hsd, fun tk htk => ?_⟩⟩
  have ekeys : (shK11.map fun kv => kV kv.1) = movesL.map V.str := by decide +kernel
  rw [ekeys]
  have s3 := same_new (o := .tup (movesL.map V.str)) htk
  refine ⟨.tuple (movesL.map fun s => PyData.str s), .tuple (movesL.map fun s => PyData.str s), .tup (kM _) (dps movesL), .tup (SqT.of upd_same) (dps movesL), mv_data.2, mv_data.2, _, rfl, bF (by rw [mv_data.1]; rfl) ?_⟩
  have hD3 := (hD.same s2).same s3
  generalize upd H2 tk (.tup (movesL.map V.str)) = H3 at *
  clear s1 s2 s3 hsd hsd0 htk hD hd0 hc0 ha
  refine ⟨fun σ' H' => ∃ v2 v3 v4, σ' = [some (.ref a), some (.ref d), v2, v3, v4, none, none, none] ∧ Dr H' d c, ?_, ?_⟩
  · refine ⟨8, rfl, by decide, by decide, for_it walk_range (fun i σ H' => ∃ v2 v3 v4, σ = [some (.ref a), some (.ref d), v2, v3, v4, none, none, none] ∧ Dr H' d c) ⟨none, none, none, rfl, hD3⟩ (fun _ _ _ _ _ => trivial) ?_ ?_⟩
    · rintro i x σ H4 H5 hi ⟨v2, v3, v4, rfl, hD4⟩ ⟨rfl, rfl⟩
      refine ⟨_, rfl, d, c, rfl, hD4, fun H6 x v hD6 b6 ix hc => ?_⟩
      have ix := ix.same nw_le
      have em := mv_eq hc
      refine ⟨_, rfl, x, v, rfl, ix, call_mv hc, fun H7 s7 => ⟨_, rfl, x, v, rfl, ix.same s7, hc, fun H8 s8 => ⟨_, _, rfl, _, rfl, ?_⟩⟩⟩
      rw [em]
      refine bF (by simp) ?_
      have hD8 := (hD6.same s7).same s8
      refine ⟨_, rfl, d, c, rfl, hD8, fun H9 x v hD9 b9 ix hv => ?_⟩
      have ix := ix.same nw_le
      obtain ⟨p1, p2, p3⟩ := st_num v hv
      refine ⟨_, rfl, x, v, rfl, ix, st_sz v hv, fun Ha sa => ⟨_, rfl, x, v, rfl, ix.same sa, st_flat v hv, fun Hb sb => ⟨_, _, rfl, _, rfl, ?_⟩⟩⟩
      rw [st_eq v hv]
      refine bF (by simp) ?_
      have sab := sa.trans sb
      refine ⟨_, rfl, ?_⟩
      dsimp only [tNil]
      refine num_go (ix.same sab) fun y iy => ⟨(by show 1 ≤ sizeLine; decide), fun l1 hl1 => ?_⟩
      have t1 := same_new (o := .lst [y]) hl1
      have g1 : (upd Hb l1 (.lst [y])) l1 = some (.lst [y]) := upd_same
      have iy := iy.same t1
      have hDb := (hD9.same sab).same t1
      have ixb := (ix.same sab).same t1
      generalize upd Hb l1 (.lst [y]) = Hd at *
      refine ⟨_, rfl, x, v, rfl, ixb, st_flat v hv, fun He l2 y2 se hl20 hl2 _ _ iy2 => ?_⟩
      refine ⟨.list [pyd (numO v)], .list [pyd (numO v)], .lst (SqL.of (se _ _ g1)) (.cons (is_dp p1 (iy.same se)) .nil), .lst (SqL.of hl2) (.cons (is_dp p1 iy2) .nil), ?_, ?_, _, rfl, bF (by rw [p3]; rfl) ?_⟩
      · exact pyd_shaped (d := .lst [numO v]) (by simp [pln, plnL, p1]) (by simp only [dpt, dptL]; omega)
      · exact pyd_shaped (d := .lst [numO v]) (by simp [pln, plnL, p1]) (by simp only [dpt, dptL]; omega)
      · exact ⟨_, _, _, rfl, hDb.same se⟩
    · rintro σ H4 ⟨v2, v3, v4, rfl, hD4⟩
      exact ⟨_, _, _, rfl, hD4⟩
  · rintro σ' H4 ⟨v2, v3, v4, rfl, hD4⟩
    refine ⟨rfl, fun H5 l xs s5 hl0 hl ia => ?_⟩
    have hD5 := hD4.same s5
    have ol := hD4.off hl0
    refine ⟨_, rfl, d, c, rfl, hD5, fun H6 x e hD6 b6 ix he => ⟨(by show 1 ≤ sizeLine; decide), fun l2 hl2 => ?_⟩⟩
    have e6 := b6 _ _ hl ol.1 ol.2
    have ia6 : IsA C H6 xs wordsD := IsA.keep (hD5.keep b6) (by decide +kernel) ia
    have ix6 := ix.same nw_le
    have t1 := same_new (o := .lst [x]) hl2
    have g2 : (upd H6 l2 (.lst [x])) l2 = some (.lst [x]) := upd_same
    have g1 := t1 _ _ e6
    have ia7 := (ia6.app (.cons ix6 .nil)).same t1
    generalize upd H6 l2 (.lst [x]) = H7 at *
    have hxl := ia.len
    refine ⟨l, l2, _, _, rfl, rfl, g1, g2, (by rw [hxl]; show _ ≤ sizeLine; exact Nat.le_trans (show _ ≤ 1000 by simp) (by decide)), fun l3 hl3 => ?_⟩
    have t2 := same_new (o := .lst (xs ++ [x])) hl3
    have g3 : (upd H7 l3 (.lst (xs ++ [x]))) l3 = some (.lst (xs ++ [x])) := upd_same
    have ia8 := ia7.same t2
    generalize upd H7 l3 (.lst (xs ++ [x])) = H8 at *
    have hlast : ∀ z ∈ wordsD ++ [e], lastD' z = true := fun z hz => last_ok z (by
      rcases List.mem_append.mp hz with h | h
      · exact List.mem_append_left _ h
      · rw [List.mem_singleton.mp h]; exact List.mem_append_right _ he)
    refine ⟨l3, rfl, ⟨_, SqL.of g3⟩, for_it (walk_list (xs := xs ++ [x])) (fun i σ H' => ∃ v5 v6 v7, σ = [some (.ref a), some (.ref d), v2, v3, v4, v5, v6, v7] ∧ Same H8 H') ⟨none, none, none, rfl, Same.refl H8⟩ (fun i σ H' _ h => by obtain ⟨_, _, _, _, sm⟩ := h; exact SqL.of (sm _ _ g3)) ?_ ?_⟩
    · rintro i y σ H9 Ha hi ⟨v5, v6, v7, rfl, sm⟩ ⟨rfl, hy⟩
      obtain ⟨z, hz, iz0⟩ := ia8.at hy
      have hzm := List.mem_of_getElem? hz
      have hzl := hlast z hzm
      have iz := iz0.same sm
      have Mg : ∀ (tv sv : V), Is C Ha tv (tkD z) → Is C Ha sv (slD z) → (tIfS (tOr (tTest (tOp (rNeW C 4) (tCall (spTk C) [] C8.E0 (tCons (tVar 5) tNil)) (tVar 6))) (tTest (tOp (rNeW C 4) (tCall (spSl C) [] C8.E0 (tCons (tVar 5) tNil)) (tVar 7)))) (tRet (tC (V.bl false))) tNext)
          { nx := fun σ H' => ∃ v5 v6 v7, σ = [some (.ref a), some (.ref d), v2, v3, v4, v5, v6, v7] ∧ Same H8 H', rt := Q } [some (.ref a), some (.ref d), v2, v3, v4, some y, some tv, some sv] Ha := fun tv sv it is => by
        have o1 : wrd (tkD z) = true ∧ sz (tkD z) ≤ 1000000 ∧ dep (tkD z) ≤ 4 ∧ wrd (slD z) = true ∧ sz (slD z) ≤ 1000000 ∧ dep (slD z) ≤ 4 ∧ ∀ es, z = .atom "seal" es → es.length = 4 := by
          cases z with
          | atom k es =>
            simp only [lastD', Bool.and_eq_true, Bool.or_eq_true, decide_eq_true_eq] at hzl
            obtain ⟨⟨⟨⟨w1, w2⟩, w3⟩, w4⟩, w5⟩ := hzl
            have tu : wrd (.tup es) = true ∧ sz (.tup es) ≤ 1000000 ∧ dep (.tup es) ≤ 4 := ⟨by simp only [wrd]; exact w1, by simp only [sz]; omega, by simp only [dep]; omega⟩
            have no : wrd .non = true ∧ sz .non ≤ 1000000 ∧ dep .non ≤ 4 := by decide +kernel
            have a1 : wrd (tkD (.atom k es)) = true ∧ sz (tkD (.atom k es)) ≤ 1000000 ∧ dep (tkD (.atom k es)) ≤ 4 := by
              unfold tkD; dsimp only; split
              · exact tu
              · exact no
            have a2 : wrd (slD (.atom k es)) = true ∧ sz (slD (.atom k es)) ≤ 1000000 ∧ dep (slD (.atom k es)) ≤ 4 := by
              unfold slD; dsimp only; split
              · exact tu
              · exact no
            refine ⟨a1.1, a1.2.1, a1.2.2, a2.1, a2.2.1, a2.2.2, fun es' h => ?_⟩
            cases h
            rcases w5 with h | h
            · exact absurd rfl h
            · exact h
          | _ => exact ⟨rfl, by show 1 ≤ 1000000; decide, by show 0 ≤ 4; decide, rfl, by show 1 ≤ 1000000; decide, by show 0 ≤ 4; decide, fun es h => nomatch h⟩
        obtain ⟨o1, o2, o3, o4, o5, o6, o7⟩ := o1
        refine ⟨_, rfl, ?_⟩
        dsimp only [tNil]
        refine tk_go iz fun y1 iy1 => ⟨_, rfl, ?_⟩
        refine ⟨tkD z, tkD z, ⟨iy1, it, o1, o1, o2, o2⟩, o3, fun H2 s2 => ⟨_, rfl, bF (by rw [eqD_refl o1]; rfl) ?_⟩⟩
        refine ⟨_, rfl, ?_⟩
        dsimp only [tNil]
        refine sl_go2 (iz.same s2) o7 fun y2 iy2 => ⟨_, rfl, ?_⟩
        refine ⟨slD z, slD z, ⟨iy2, is.same s2, o4, o4, o5, o5⟩, o6, fun H3 s3 => ⟨_, rfl, bF (by rw [eqD_refl o4]; rfl) ?_⟩⟩
        exact ⟨_, _, _, rfl, (sm.trans s2).trans s3⟩
      refine ⟨fun σ' H' => ∃ tv, σ' = [some (.ref a), some (.ref d), v2, v3, v4, some y, some tv, some .non] ∧ H' = Ha ∧ Is C Ha tv (tkD z), ?_, ?_⟩
      · refine ⟨_, rfl, y, z, _, _, _, rfl, iz, .own C, kitC2 T z, _, rfl, ?_⟩
        cases hat : isAt z with
        | false => exact bF rfl ⟨_, rfl, rfl, by cases z <;> first | exact .non | (simp [isAt] at hat; done)⟩
        | true =>
        obtain ⟨k, es, rfl⟩ : ∃ k es, z = .atom k es := by cases z <;> first | exact ⟨_, _, rfl⟩ | (simp [isAt] at hat; done)
        cases iz with
        | @atom o1 dx t0 _ ts _ u1 u2 it =>
        refine bT rfl ⟨_, rfl, o1, C, dx, _, .str k, rfl, u1, T.cl.cl, T.cl.nK, rfl, rfl, _, rfl, ?_⟩
        by_cases ck : k = "ticket"
        · subst ck
          refine ifT rfl ⟨_, rfl, o1, C, dx, _, .ref t0, rfl, u1, T.cl.cl, T.cl.nT, rfl, _, rfl, rfl, ?_⟩
          have : tkD (.atom "ticket" es) = .tup es := by unfold tkD; exact if_pos rfl
          rw [this]; exact .tup u2 it
        · refine ifF (fun z => ck (V.str.inj z)) ⟨_, rfl, rfl, ?_⟩
          have : tkD (.atom k es) = .non := by unfold tkD; exact if_neg ck
          rw [this]; exact .non
      rintro σ' Hb ⟨tv, rfl, hHb, itv⟩
      obtain rfl := hHb.symm
      refine ⟨fun σ' H' => ∃ sv, σ' = [some (.ref a), some (.ref d), v2, v3, v4, some y, some tv, some sv] ∧ H' = Ha ∧ Is C Ha sv (slD z), ?_, ?_⟩
      · refine ⟨_, rfl, y, z, _, _, _, rfl, iz, .own C, kitC2 T z, _, rfl, ?_⟩
        cases hat : isAt z with
        | false => exact bF rfl ⟨_, rfl, rfl, by cases z <;> first | exact .non | (simp [isAt] at hat; done)⟩
        | true =>
        obtain ⟨k, es, rfl⟩ : ∃ k es, z = .atom k es := by cases z <;> first | exact ⟨_, _, rfl⟩ | (simp [isAt] at hat; done)
        cases iz with
        | @atom o1 dx t0 _ ts _ u1 u2 it =>
        refine bT rfl ⟨_, rfl, o1, C, dx, _, .str k, rfl, u1, T.cl.cl, T.cl.nK, rfl, rfl, _, rfl, ?_⟩
        by_cases ck : k = "seal"
        · subst ck
          have h4 : es.length = 4 := by
            simp only [lastD', Bool.and_eq_true, Bool.or_eq_true, decide_eq_true_eq] at hzl
            rcases hzl.2 with h | h
            · exact absurd rfl h
            · exact h
          obtain ⟨e3, he3⟩ : ∃ e, es[3]? = some e := ⟨es[3]'(by omega), List.getElem?_eq_getElem _⟩
          obtain ⟨y3, hy3, iy3⟩ := it.get he3
          have eg : es.getD 3 .non = e3 := by rw [List.getD_eq_getElem?_getD, he3]; rfl
          refine ifT rfl ⟨_, rfl, o1, C, dx, _, .ref t0, rfl, u1, T.cl.cl, T.cl.nT, rfl, t0, ts, 3, y3, rfl, rfl, SqT.of u2, atI_nat (j := 3) hy3, rfl, _, rfl, ?_⟩
          by_cases c3 : y3 = .non
          · subst c3
            cases iy3
            refine bF rfl ⟨_, rfl, rfl, ?_⟩
            have : slD (.atom "seal" es) = .non := by unfold slD; exact if_neg (by simp only [sealB, eg, isNn]; simp)
            rw [this]; exact .non
          · have hn : isNn e3 = false := by cases iy3 <;> first | rfl | exact absurd rfl c3
            refine bT (by rw [decide_eq_false c3]; rfl) ⟨_, rfl, o1, C, dx, _, .ref t0, rfl, u1, T.cl.cl, T.cl.nT, rfl, _, rfl, rfl, ?_⟩
            have : slD (.atom "seal" es) = .tup es := by unfold slD; exact if_pos (by simp only [sealB, eg, hn]; rfl)
            rw [this]; exact .tup u2 it
        · refine ifF (fun z => ck (V.str.inj z)) ⟨_, rfl, rfl, ?_⟩
          have : slD (.atom k es) = .non := by unfold slD; exact if_neg (by simp only [sealB]; rw [decide_eq_false ck]; simp)
          rw [this]; exact .non
      · rintro σ' Hc ⟨sv, rfl, hHc, isv⟩
        obtain rfl := hHc.symm
        exact Mg tv sv itv isv
    · rintro σ H9 ⟨v5, v6, v7, rfl, sm⟩
      exact q _
end
end Hc

namespace Hc
open PySem PySem.Spec PyProof.Rows L2 Hr
theorem kmIn_of {K : PySem.Params → PySem.W.Frag} {as : List PySem.Addr} {e : ∀ (P : PySem.Params), as = List.map (fun x => x.fst) (K P)} {ts : List PySem.Addr} {w : PySem.World} {h : PySem.Heap} (Y : (PySem.W.kmHook K as e ts).says w h) : (K w.params).In h := PySem.W.kIn_of (as := as) (e := e) Y.1
theorem all_mk {l : PySem.W.OpenLaw} {w : World} {K : PySem.W.Frag} {h : Heap} {mg : Str → Option Value} {fa C Fo tt1 tt2 tt3 tt4 tt5 kf0_0 kf0_1 kf0_2 kf0_3 kf0_4 kf0_5 kf0_6 kf0_7 kf0_8 kf0_9 kf0_10 ku0 Kf0 f1 f2 f3 f4 f5 f6 f7 f8 f9 f10 f11 f12 f13 f14 f15 f16 f17 f18 f19 f20 f21 f22 f23 f24 f25 f26 f27 f28 f29 f30 f31 f32 f33 f34 f35 f36 f37 f38 f39 f40 f41 f42 : Addr} (X : K.In h) (G : h.Ns mainGlobals mg) (hfa : mg "law" = some (.ref fa))
    {od1 od2 od3 od4 od5 od6 od7 od8 od9 od10 od11 od12 od13 od14 od15 od16 od17 od18 od19 od20 od21 od22 od23 od24 od25 od26 od27 od28 od29 od30 od31 od32 od33 od34 od35 od36 od37 od38 od39 od40 od41 od42 an1 an2 an3 an4 an5 an6 an7 an8 an9 an10 an11 an12 an13 an14 an15 an16 an17 an18 an19 an20 an21 an22 an23 an24 an25 an26 an27 an28 an29 an30 an31 an32 an33 an34 an35 an36 an37 an38 an39 an40 an41 an42 : Option Addr} {sl1 sl2 sl3 sl4 sl5 sl6 sl7 sl8 sl9 sl10 sl11 sl12 sl13 sl14 sl15 sl16 sl17 sl18 sl19 sl20 sl21 sl22 sl23 sl24 sl25 sl26 sl27 sl28 sl29 sl30 sl31 sl32 sl33 sl34 sl35 sl36 sl37 sl38 sl39 sl40 sl41 sl42 : Array (Option Value)} {oc1 oc2 oc3 oc4 oc5 oc6 oc7 oc8 oc9 oc10 oc11 oc12 oc13 oc14 oc15 oc16 oc17 oc18 oc19 oc20 oc21 oc22 oc23 oc24 oc25 oc26 oc27 oc28 oc29 oc30 oc31 oc32 oc33 oc34 oc35 oc36 oc37 oc38 oc39 oc40 oc41 oc42 kV1 kV2 kV3 kV4 kV5 kV6 kV7 kV8 kV9 kV10 kV11 kV12 kV13 kV14 kV15 kV16 kV17 kV18 kV19 kV20 kV21 kV22 kV23 kV24 kV25 kV26 kV27 kV28 kV29 kV30 kV31 kV32 kV33 kV34 kV35 kV36 kV37 kV38 kV39 kV40 kV41 kV42 dc1 dc2 dc3 dc4 dc5 dc6 dc7 dc8 dc9 dc10 dc11 dc12 dc13 dc14 dc15 dc16 dc17 dc18 dc19 dc20 dc21 dc22 dc23 dc24 dc25 dc26 dc27 dc28 dc29 dc30 dc31 dc32 dc33 dc34 dc35 dc36 dc37 dc38 dc39 dc40 dc41 dc42 pm1 pm2 pm3 pm4 pm5 pm6 pm7 pm8 pm9 pm10 pm11 pm12 pm13 pm14 pm15 pm16 pm17 pm18 pm19 pm20 pm21 pm22 pm23 pm24 pm25 pm26 pm27 pm28 pm29 pm30 pm31 pm32 pm33 pm34 pm35 pm36 pm37 pm38 pm39 pm40 pm41 pm42 cd1 cd2 cd3 cd4 cd5 cd6 cd7 cd8 cd9 cd10 cd11 cd12 cd13 cd14 cd15 cd16 cd17 cd18 cd19 cd20 cd21 cd22 cd23 cd24 cd25 cd26 cd27 cd28 cd29 cd30 cd31 cd32 cd33 cd34 cd35 cd36 cd37 cd38 cd39 cd40 cd41 cd42 ct1 ct2 ct3 ct4 ct5 ct6 ct7 ct8 ct9 ct10 ct11 ct12 ct13 ct14 ct15 ct16 ct17 ct18 ct19 ct20 ct21 ct22 ct23 ct24 ct25 ct26 ct27 ct28 ct29 ct30 ct31 ct32 ct33 ct34 ct35 ct36 ct37 ct38 ct39 ct40 ct41 ct42 : Value}
    {tLEAST tGREATEST tMOST_CHARACTERS tMOST_DEEP tMOST_RANK tMOST_RANK_HOST tGRANULES tPAGES tCPU_PLACE : Tok} {esF esK0 : Array DictEntry} {nF nK0 : Nat}
    {utt1_0 utt1_1 utt1_2 utt2_0 utt2_1 utt3_0 utt3_1 utt3_2 utt3_3 utt4_0 utt4_1 utt4_2 utt4_3 utt5_0 utt5_1 utt5_2 utt5_3 utt5_4 utt5_5 ukf0_0_0 ukf0_1_0 ukf0_2_0 ukf0_2_1 ukf0_3_0 ukf0_3_1 ukf0_4_0 ukf0_4_1 ukf0_5_0 ukf0_6_0 ukf0_6_1 ukf0_6_2 ukf0_7_0 ukf0_7_1 ukf0_7_2 ukf0_7_3 ukf0_8_0 ukf0_8_1 ukf0_9_0 ukf0_9_1 ukf0_9_2 ukf0_10_0 uku0_0 uku0_1 uku0_2 uku0_3 uku0_4 uku0_5 uku0_6 uku0_7 uku0_8 uku0_9 uku0_10 : Tok} {ntt1 ntt2 ntt3 ntt4 ntt5 nkf0_0 nkf0_1 nkf0_2 nkf0_3 nkf0_4 nkf0_5 nkf0_6 nkf0_7 nkf0_8 nkf0_9 nkf0_10 nku0 : Nat} {dtt1 dtt2 dtt3 dtt4 dtt5 dkf0_0 dkf0_1 dkf0_2 dkf0_3 dkf0_4 dkf0_5 dkf0_6 dkf0_7 dkf0_8 dkf0_9 dkf0_10 dku0 : Option Addr} {stt1 stt2 stt3 stt4 stt5 skf0_0 skf0_1 skf0_2 skf0_3 skf0_4 skf0_5 skf0_6 skf0_7 skf0_8 skf0_9 skf0_10 sku0 : Array (Option Value)}
    (a1 : PySem.W.nsIn K mainGlobals "is_number" = some (some (.ref f1)))
    (l1 : K.lookup f1 = some ⟨oc1, od1, .func (PySem.W.fnOf "is_number" "is_number" (C8.fnArgs s_is_number) (C8.fnBody s_is_number) (C8.fnScope s_is_number) .none kV1 dc1 pm1 an1 cd1 ct1), sl1⟩)
    (c1 : PySem.W.codeIn K cd1 "is_number" = true)
    (k1 : PySem.W.keepIn K (.ref f1) = true)
    (a2 : PySem.W.nsIn K mainGlobals "is_text" = some (some (.ref f2)))
    (l2 : K.lookup f2 = some ⟨oc2, od2, .func (PySem.W.fnOf "is_text" "is_text" (C8.fnArgs s_is_text) (C8.fnBody s_is_text) (C8.fnScope s_is_text) .none kV2 dc2 pm2 an2 cd2 ct2), sl2⟩)
    (c2 : PySem.W.codeIn K cd2 "is_text" = true)
    (k2 : PySem.W.keepIn K (.ref f2) = true)
    (a3 : PySem.W.nsIn K mainGlobals "_is_within" = some (some (.ref f3)))
    (l3 : K.lookup f3 = some ⟨oc3, od3, .func (PySem.W.fnOf "_is_within" "_is_within" (C8.fnArgs s__is_within) (C8.fnBody s__is_within) (C8.fnScope s__is_within) .none kV3 dc3 pm3 an3 cd3 ct3), sl3⟩)
    (c3 : PySem.W.codeIn K cd3 "_is_within" = true)
    (k3 : PySem.W.keepIn K (.ref f3) = true)
    (a4 : PySem.W.nsIn K mainGlobals "is_word" = some (some (.ref f4)))
    (l4 : K.lookup f4 = some ⟨oc4, od4, .func (PySem.W.fnOf "is_word" "is_word" (C8.fnArgs s_is_word) (C8.fnBody s_is_word) (C8.fnScope s_is_word) .none kV4 dc4 pm4 an4 cd4 ct4), sl4⟩)
    (c4 : PySem.W.codeIn K cd4 "is_word" = true)
    (k4 : PySem.W.keepIn K (.ref f4) = true)
    (a5 : PySem.W.nsIn K mainGlobals "_places_of_atoms" = some (some (.ref f5)))
    (l5 : K.lookup f5 = some ⟨oc5, od5, .func (PySem.W.fnOf "_places_of_atoms" "_places_of_atoms" (C8.fnArgs s__places_of_atoms) (C8.fnBody s__places_of_atoms) (C8.fnScope s__places_of_atoms) .none kV5 dc5 pm5 an5 cd5 ct5), sl5⟩)
    (c5 : PySem.W.codeIn K cd5 "_places_of_atoms" = true)
    (k5 : PySem.W.keepIn K (.ref f5) = true)
    (a6 : PySem.W.nsIn K mainGlobals "rank_of" = some (some (.ref f6)))
    (l6 : K.lookup f6 = some ⟨oc6, od6, .func (PySem.W.fnOf "rank_of" "rank_of" (C8.fnArgs s_rank_of) (C8.fnBody s_rank_of) (C8.fnScope s_rank_of) .none kV6 dc6 pm6 an6 cd6 ct6), sl6⟩)
    (c6 : PySem.W.codeIn K cd6 "rank_of" = true)
    (k6 : PySem.W.keepIn K (.ref f6) = true)
    (a7 : PySem.W.nsIn K mainGlobals "_rank_of_atom" = some (some (.ref f7)))
    (l7 : K.lookup f7 = some ⟨oc7, od7, .func (PySem.W.fnOf "_rank_of_atom" "_rank_of_atom" (C8.fnArgs s__rank_of_atom) (C8.fnBody s__rank_of_atom) (C8.fnScope s__rank_of_atom) .none kV7 dc7 pm7 an7 cd7 ct7), sl7⟩)
    (c7 : PySem.W.codeIn K cd7 "_rank_of_atom" = true)
    (k7 : PySem.W.keepIn K (.ref f7) = true)
    (a8 : PySem.W.nsIn K mainGlobals "_most_rank" = some (some (.ref f8)))
    (l8 : K.lookup f8 = some ⟨oc8, od8, .func (PySem.W.fnOf "_most_rank" "_most_rank" (C8.fnArgs s__most_rank) (C8.fnBody s__most_rank) (C8.fnScope s__most_rank) .none kV8 dc8 pm8 an8 cd8 ct8), sl8⟩)
    (c8 : PySem.W.codeIn K cd8 "_most_rank" = true)
    (k8 : PySem.W.keepIn K (.ref f8) = true)
    (a9 : PySem.W.nsIn K mainGlobals "has_form_words" = some (some (.ref f9)))
    (l9 : K.lookup f9 = some ⟨oc9, od9, .func (PySem.W.fnOf "_has_form" "_has_form" (C8.fnArgs s_has_form_words) (C8.fnBody s_has_form_words) (C8.fnScope s_has_form_words) .none kV9 dc9 pm9 an9 cd9 ct9), sl9⟩)
    (c9 : PySem.W.codeIn K cd9 "_has_form" = true)
    (k9 : PySem.W.keepIn K (.ref f9) = true)
    (a10 : PySem.W.nsIn K mainGlobals "_is_term" = some (some (.ref f10)))
    (l10 : K.lookup f10 = some ⟨oc10, od10, .func (PySem.W.fnOf "_is_term" "_is_term" (C8.fnArgs s__is_term) (C8.fnBody s__is_term) (C8.fnScope s__is_term) .none kV10 dc10 pm10 an10 cd10 ct10), sl10⟩)
    (c10 : PySem.W.codeIn K cd10 "_is_term" = true)
    (k10 : PySem.W.keepIn K (.ref f10) = true)
    (a11 : PySem.W.nsIn K mainGlobals "_are_equal" = some (some (.ref f11)))
    (l11 : K.lookup f11 = some ⟨oc11, od11, .func (PySem.W.fnOf "_are_equal" "_are_equal" (C8.fnArgs s__are_equal) (C8.fnBody s__are_equal) (C8.fnScope s__are_equal) .none kV11 dc11 pm11 an11 cd11 ct11), sl11⟩)
    (c11 : PySem.W.codeIn K cd11 "_are_equal" = true)
    (k11 : PySem.W.keepIn K (.ref f11) = true)
    (a12 : PySem.W.nsIn K mainGlobals "is_form" = some (some (.ref f12)))
    (l12 : K.lookup f12 = some ⟨oc12, od12, .func (PySem.W.fnOf "is_form" "is_form" (C8.fnArgs s_is_form) (C8.fnBody s_is_form) (C8.fnScope s_is_form) .none kV12 dc12 pm12 an12 cd12 ct12), sl12⟩)
    (c12 : PySem.W.codeIn K cd12 "is_form" = true)
    (k12 : PySem.W.keepIn K (.ref f12) = true)
    (a13 : PySem.W.nsIn K mainGlobals "has_name" = some (some (.ref f13)))
    (l13 : K.lookup f13 = some ⟨oc13, od13, .func (PySem.W.fnOf "has_name" "has_name" (C8.fnArgs s_has_name) (C8.fnBody s_has_name) (C8.fnScope s_has_name) .none kV13 dc13 pm13 an13 cd13 ct13), sl13⟩)
    (c13 : PySem.W.codeIn K cd13 "has_name" = true)
    (k13 : PySem.W.keepIn K (.ref f13) = true)
    (a14 : PySem.W.nsIn K mainGlobals "_is_below" = some (some (.ref f14)))
    (l14 : K.lookup f14 = some ⟨oc14, od14, .func (PySem.W.fnOf "_is_below" "_is_below" (C8.fnArgs s__is_below) (C8.fnBody s__is_below) (C8.fnScope s__is_below) .none kV14 dc14 pm14 an14 cd14 ct14), sl14⟩)
    (c14 : PySem.W.codeIn K cd14 "_is_below" = true)
    (k14 : PySem.W.keepIn K (.ref f14) = true)
    (a15 : PySem.W.nsIn K mainGlobals "is_granule" = some (some (.ref f15)))
    (l15 : K.lookup f15 = some ⟨oc15, od15, .func (PySem.W.fnOf "is_granule" "is_granule" (C8.fnArgs s_is_granule) (C8.fnBody s_is_granule) (C8.fnScope s_is_granule) .none kV15 dc15 pm15 an15 cd15 ct15), sl15⟩)
    (c15 : PySem.W.codeIn K cd15 "is_granule" = true)
    (k15 : PySem.W.keepIn K (.ref f15) = true)
    (a16 : PySem.W.nsIn K mainGlobals "is_page" = some (some (.ref f16)))
    (l16 : K.lookup f16 = some ⟨oc16, od16, .func (PySem.W.fnOf "is_page" "is_page" (C8.fnArgs s_is_page) (C8.fnBody s_is_page) (C8.fnScope s_is_page) .none kV16 dc16 pm16 an16 cd16 ct16), sl16⟩)
    (c16 : PySem.W.codeIn K cd16 "is_page" = true)
    (k16 : PySem.W.keepIn K (.ref f16) = true)
    (a17 : PySem.W.nsIn K mainGlobals "fits" = some (some (.ref f17)))
    (l17 : K.lookup f17 = some ⟨oc17, od17, .func (PySem.W.fnOf "fits" "fits" (C8.fnArgs s_fits) (C8.fnBody s_fits) (C8.fnScope s_fits) .none kV17 dc17 pm17 an17 cd17 ct17), sl17⟩)
    (c17 : PySem.W.codeIn K cd17 "fits" = true)
    (k17 : PySem.W.keepIn K (.ref f17) = true)
    (a18 : PySem.W.nsIn K mainGlobals "_is_part" = some (some (.ref f18)))
    (l18 : K.lookup f18 = some ⟨oc18, od18, .func (PySem.W.fnOf "_is_part" "_is_part" (C8.fnArgs s__is_part) (C8.fnBody s__is_part) (C8.fnScope s__is_part) .none kV18 dc18 pm18 an18 cd18 ct18), sl18⟩)
    (c18 : PySem.W.codeIn K cd18 "_is_part" = true)
    (k18 : PySem.W.keepIn K (.ref f18) = true)
    (a19 : PySem.W.nsIn K mainGlobals "are_parts" = some (some (.ref f19)))
    (l19 : K.lookup f19 = some ⟨oc19, od19, .func (PySem.W.fnOf "are_parts" "are_parts" (C8.fnArgs s_are_parts) (C8.fnBody s_are_parts) (C8.fnScope s_are_parts) .none kV19 dc19 pm19 an19 cd19 ct19), sl19⟩)
    (c19 : PySem.W.codeIn K cd19 "are_parts" = true)
    (k19 : PySem.W.keepIn K (.ref f19) = true)
    (a20 : PySem.W.nsIn K mainGlobals "is_move" = some (some (.ref f20)))
    (l20 : K.lookup f20 = some ⟨oc20, od20, .func (PySem.W.fnOf "is_move" "is_move" (C8.fnArgs s_is_move) (C8.fnBody s_is_move) (C8.fnScope s_is_move) .none kV20 dc20 pm20 an20 cd20 ct20), sl20⟩)
    (c20 : PySem.W.codeIn K cd20 "is_move" = true)
    (k20 : PySem.W.keepIn K (.ref f20) = true)
    (a21 : PySem.W.nsIn K mainGlobals "is_state" = some (some (.ref f21)))
    (l21 : K.lookup f21 = some ⟨oc21, od21, .func (PySem.W.fnOf "is_state" "is_state" (C8.fnArgs s_is_state) (C8.fnBody s_is_state) (C8.fnScope s_is_state) .none kV21 dc21 pm21 an21 cd21 ct21), sl21⟩)
    (c21 : PySem.W.codeIn K cd21 "is_state" = true)
    (k21 : PySem.W.keepIn K (.ref f21) = true)
    (a22 : PySem.W.nsIn K mainGlobals "number_of" = some (some (.ref f22)))
    (l22 : K.lookup f22 = some ⟨oc22, od22, .func (PySem.W.fnOf "number_of" "number_of" (C8.fnArgs s_number_of) (C8.fnBody s_number_of) (C8.fnScope s_number_of) .none kV22 dc22 pm22 an22 cd22 ct22), sl22⟩)
    (c22 : PySem.W.codeIn K cd22 "number_of" = true)
    (k22 : PySem.W.keepIn K (.ref f22) = true)
    (a23 : PySem.W.nsIn K mainGlobals "ticket_parts" = some (some (.ref f23)))
    (l23 : K.lookup f23 = some ⟨oc23, od23, .func (PySem.W.fnOf "ticket_parts" "ticket_parts" (C8.fnArgs s_ticket_parts) (C8.fnBody s_ticket_parts) (C8.fnScope s_ticket_parts) .none kV23 dc23 pm23 an23 cd23 ct23), sl23⟩)
    (c23 : PySem.W.codeIn K cd23 "ticket_parts" = true)
    (k23 : PySem.W.keepIn K (.ref f23) = true)
    (a24 : PySem.W.nsIn K mainGlobals "seal_parts" = some (some (.ref f24)))
    (l24 : K.lookup f24 = some ⟨oc24, od24, .func (PySem.W.fnOf "seal_parts" "seal_parts" (C8.fnArgs s_seal_parts) (C8.fnBody s_seal_parts) (C8.fnScope s_seal_parts) .none kV24 dc24 pm24 an24 cd24 ct24), sl24⟩)
    (c24 : PySem.W.codeIn K cd24 "seal_parts" = true)
    (k24 : PySem.W.keepIn K (.ref f24) = true)
    (a25 : PySem.W.nsIn K mainGlobals "_law_begin" = some (some (.ref f25)))
    (l25 : K.lookup f25 = some ⟨oc25, od25, .func (PySem.W.fnOf "_law_begin" "_law_begin" (C8.fnArgs s__law_begin) (C8.fnBody s__law_begin) (C8.fnScope s__law_begin) .none kV25 dc25 pm25 an25 cd25 ct25), sl25⟩)
    (c25 : PySem.W.codeIn K cd25 "_law_begin" = true)
    (k25 : PySem.W.keepIn K (.ref f25) = true)
    (a26 : PySem.W.nsIn K mainGlobals "_law_draw" = some (some (.ref f26)))
    (l26 : K.lookup f26 = some ⟨oc26, od26, .func (PySem.W.fnOf "_law_draw" "_law_draw" (C8.fnArgs s__law_draw) (C8.fnBody s__law_draw) (C8.fnScope s__law_draw) .none kV26 dc26 pm26 an26 cd26 ct26), sl26⟩)
    (c26 : PySem.W.codeIn K cd26 "_law_draw" = true)
    (k26 : PySem.W.keepIn K (.ref f26) = true)
    (a27 : PySem.W.nsIn K mainGlobals "_law_pick" = some (some (.ref f27)))
    (l27 : K.lookup f27 = some ⟨oc27, od27, .func (PySem.W.fnOf "_law_pick" "_law_pick" (C8.fnArgs s__law_pick) (C8.fnBody s__law_pick) (C8.fnScope s__law_pick) .none kV27 dc27 pm27 an27 cd27 ct27), sl27⟩)
    (c27 : PySem.W.codeIn K cd27 "_law_pick" = true)
    (k27 : PySem.W.keepIn K (.ref f27) = true)
    (a28 : PySem.W.nsIn K mainGlobals "_law_shapes" = some (some (.ref f28)))
    (l28 : K.lookup f28 = some ⟨oc28, od28, .func (PySem.W.fnOf "_law_shapes" "_law_shapes" (C8.fnArgs s__law_shapes) (C8.fnBody s__law_shapes) (C8.fnScope s__law_shapes) .none kV28 dc28 pm28 an28 cd28 ct28), sl28⟩)
    (c28 : PySem.W.codeIn K cd28 "_law_shapes" = true)
    (k28 : PySem.W.keepIn K (.ref f28) = true)
    (a29 : PySem.W.nsIn K mainGlobals "_law_words" = some (some (.ref f29)))
    (l29 : K.lookup f29 = some ⟨oc29, od29, .func (PySem.W.fnOf "_law_words" "_law_words" (C8.fnArgs s__law_words) (C8.fnBody s__law_words) (C8.fnScope s__law_words) .none kV29 dc29 pm29 an29 cd29 ct29), sl29⟩)
    (c29 : PySem.W.codeIn K cd29 "_law_words" = true)
    (k29 : PySem.W.keepIn K (.ref f29) = true)
    (a30 : PySem.W.nsIn K mainGlobals "_law_odd" = some (some (.ref f30)))
    (l30 : K.lookup f30 = some ⟨oc30, od30, .func (PySem.W.fnOf "_law_odd" "_law_odd" (C8.fnArgs s__law_odd) (C8.fnBody s__law_odd) (C8.fnScope s__law_odd) .none kV30 dc30 pm30 an30 cd30 ct30), sl30⟩)
    (c30 : PySem.W.codeIn K cd30 "_law_odd" = true)
    (k30 : PySem.W.keepIn K (.ref f30) = true)
    (a31 : PySem.W.nsIn K mainGlobals "_law_part" = some (some (.ref f31)))
    (l31 : K.lookup f31 = some ⟨oc31, od31, .func (PySem.W.fnOf "_law_part" "_law_part" (C8.fnArgs s__law_part) (C8.fnBody s__law_part) (C8.fnScope s__law_part) .none kV31 dc31 pm31 an31 cd31 ct31), sl31⟩)
    (c31 : PySem.W.codeIn K cd31 "_law_part" = true)
    (k31 : PySem.W.keepIn K (.ref f31) = true)
    (a32 : PySem.W.nsIn K mainGlobals "_law_fits" = some (some (.ref f32)))
    (l32 : K.lookup f32 = some ⟨oc32, od32, .func (PySem.W.fnOf "_law_fits" "_law_fits" (C8.fnArgs s__law_fits) (C8.fnBody s__law_fits) (C8.fnScope s__law_fits) .none kV32 dc32 pm32 an32 cd32 ct32), sl32⟩)
    (c32 : PySem.W.codeIn K cd32 "_law_fits" = true)
    (k32 : PySem.W.keepIn K (.ref f32) = true)
    (a33 : PySem.W.nsIn K mainGlobals "_law_call" = some (some (.ref f33)))
    (l33 : K.lookup f33 = some ⟨oc33, od33, .func (PySem.W.fnOf "_law_call" "_law_call" (C8.fnArgs s__law_call) (C8.fnBody s__law_call) (C8.fnScope s__law_call) .none kV33 dc33 pm33 an33 cd33 ct33), sl33⟩)
    (c33 : PySem.W.codeIn K cd33 "_law_call" = true)
    (k33 : PySem.W.keepIn K (.ref f33) = true)
    (a34 : PySem.W.nsIn K mainGlobals "_law_is_move" = some (some (.ref f34)))
    (l34 : K.lookup f34 = some ⟨oc34, od34, .func (PySem.W.fnOf "_law_is_move" "_law_is_move" (C8.fnArgs s__law_is_move) (C8.fnBody s__law_is_move) (C8.fnScope s__law_is_move) .none kV34 dc34 pm34 an34 cd34 ct34), sl34⟩)
    (c34 : PySem.W.codeIn K cd34 "_law_is_move" = true)
    (k34 : PySem.W.keepIn K (.ref f34) = true)
    (a35 : PySem.W.nsIn K mainGlobals "_law_state" = some (some (.ref f35)))
    (l35 : K.lookup f35 = some ⟨oc35, od35, .func (PySem.W.fnOf "_law_state" "_law_state" (C8.fnArgs s__law_state) (C8.fnBody s__law_state) (C8.fnScope s__law_state) .none kV35 dc35 pm35 an35 cd35 ct35), sl35⟩)
    (c35 : PySem.W.codeIn K cd35 "_law_state" = true)
    (k35 : PySem.W.keepIn K (.ref f35) = true)
    (a36 : PySem.W.nsIn K mainGlobals "_law_number" = some (some (.ref f36)))
    (l36 : K.lookup f36 = some ⟨oc36, od36, .func (PySem.W.fnOf "_law_number" "_law_number" (C8.fnArgs s__law_number) (C8.fnBody s__law_number) (C8.fnScope s__law_number) .none kV36 dc36 pm36 an36 cd36 ct36), sl36⟩)
    (c36 : PySem.W.codeIn K cd36 "_law_number" = true)
    (k36 : PySem.W.keepIn K (.ref f36) = true)
    (a37 : PySem.W.nsIn K mainGlobals "_law_is_state" = some (some (.ref f37)))
    (l37 : K.lookup f37 = some ⟨oc37, od37, .func (PySem.W.fnOf "_law_is_state" "_law_is_state" (C8.fnArgs s__law_is_state) (C8.fnBody s__law_is_state) (C8.fnScope s__law_is_state) .none kV37 dc37 pm37 an37 cd37 ct37), sl37⟩)
    (c37 : PySem.W.codeIn K cd37 "_law_is_state" = true)
    (k37 : PySem.W.keepIn K (.ref f37) = true)
    (a38 : PySem.W.nsIn K mainGlobals "_law_agree" = some (some (.ref f38)))
    (l38 : K.lookup f38 = some ⟨oc38, od38, .func (PySem.W.fnOf "_law_agree" "_law_agree" (C8.fnArgs s__law_agree) (C8.fnBody s__law_agree) (C8.fnScope s__law_agree) .none kV38 dc38 pm38 an38 cd38 ct38), sl38⟩)
    (c38 : PySem.W.codeIn K cd38 "_law_agree" = true)
    (k38 : PySem.W.keepIn K (.ref f38) = true)
    (a39 : PySem.W.nsIn K mainGlobals "law" = some (some (.ref f39)))
    (l39 : K.lookup f39 = some ⟨oc39, od39, .func (PySem.W.fnOf "law" "law" (C8.fnArgs s_law) (C8.fnBody s_law) (C8.fnScope s_law) .none kV39 dc39 pm39 an39 cd39 ct39), sl39⟩)
    (c39 : PySem.W.codeIn K cd39 "law" = true)
    (k39 : PySem.W.keepIn K (.ref f39) = true)
    (aC : PySem.W.nsIn K mainGlobals "Atom" = some (some (.ref C)))
    (onn : PySem.W.findIn K (.ref C) "__ne__" = some (some (.builtin "object.__ne__")))
    (oNoneType : PySem.W.subIn K (.ref C) (.type "NoneType") = some false)
    (oint : PySem.W.subIn K (.ref C) (.type "int") = some false)
    (ostr : PySem.W.subIn K (.ref C) (.type "str") = some false)
    (otuple : PySem.W.subIn K (.ref C) (.type "tuple") = some false)
    (a40 : PySem.W.findIn K (.ref C) "__init__" = some (some (.ref f40)))
    (i40 : PySem.W.isFn K (.ref f40) = true)
    (l40 : K.lookup f40 = some ⟨oc40, od40, .func (PySem.W.fnOf "__init__" "Atom.__init__" (C8.fnArgs s_Atom___init__) (C8.fnBody s_Atom___init__) (C8.fnScope s_Atom___init__) .none kV40 dc40 pm40 an40 cd40 ct40), sl40⟩)
    (c40 : PySem.W.codeIn K cd40 "Atom.__init__" = true)
    (k40 : PySem.W.keepIn K (.ref f40) = true)
    (a41 : PySem.W.findIn K (.ref C) "__eq__" = some (some (.ref f41)))
    (i41 : PySem.W.isFn K (.ref f41) = true)
    (l41 : K.lookup f41 = some ⟨oc41, od41, .func (PySem.W.fnOf "__eq__" "Atom.__eq__" (C8.fnArgs s_Atom___eq__) (C8.fnBody s_Atom___eq__) (C8.fnScope s_Atom___eq__) .none kV41 dc41 pm41 an41 cd41 ct41), sl41⟩)
    (c41 : PySem.W.codeIn K cd41 "Atom.__eq__" = true)
    (k41 : PySem.W.keepIn K (.ref f41) = true)
    (a42 : PySem.W.findIn K (.ref C) "is_same" = some (some (.ref f42)))
    (i42 : PySem.W.isFn K (.ref f42) = true)
    (l42 : K.lookup f42 = some ⟨oc42, od42, .func (PySem.W.fnOf "is_same" "Atom.is_same" (C8.fnArgs s_Atom_is_same) (C8.fnBody s_Atom_is_same) (C8.fnScope s_Atom_is_same) .none kV42 dc42 pm42 an42 cd42 ct42), sl42⟩)
    (c42 : PySem.W.codeIn K cd42 "Atom.is_same" = true)
    (k42 : PySem.W.keepIn K (.ref f42) = true)
    (pgC : PySem.W.plainGet K C Str.empty = true)
    (hdC : PySem.W.hasDictIn K C = true)
    (poC : PySem.W.plainOver K C = true)
    (saC : PySem.W.findIn K (.ref C) "__setattr__" = some (some (.builtin "object.__setattr__")))
    (mkC : PySem.W.makesIn K C = true)
    (kcC : PySem.W.keepIn K (.ref C) = true)
    (ha : PySem.W.findIn K (.ref C) "__class__" = some (some (.builtin "object.__class__")))
    (hn : PySem.W.specialIn K (.builtin "object.__class__") "__get__" = some (some (.builtin "getset_descriptor.__get__")))
    (htk : PySem.W.takesIn K (.builtin "object.__class__") = some true)
    (hm : PySem.W.mroIn K C (.type "object") = some true)
    (me : PySem.W.kitOne K (.ref C) (.ref C) = some true)
    (nakind : PySem.W.findIn K (.ref C) "kind" = some none)
    (naterm : PySem.W.findIn K (.ref C) "term" = some none)
    (narank : PySem.W.findIn K (.ref C) "rank" = some none)
    (na_stripped : PySem.W.findIn K (.ref C) "_stripped" = some none)
    (qint : PySem.W.kitOne K (.ref C) (.type "int") = some false)
    (qstr : PySem.W.kitOne K (.ref C) (.type "str") = some false)
    (qtuple : PySem.W.kitOne K (.ref C) (.type "tuple") = some false)
    (qbool : PySem.W.kitOne K (.ref C) (.type "bool") = some false)
    (qlist : PySem.W.kitOne K (.ref C) (.type "list") = some false)
    (qdict : PySem.W.kitOne K (.ref C) (.type "dict") = some false)
    (rNoneType : PySem.W.kitOne K (.type "NoneType") (.ref C) = some false)
    (rbool : PySem.W.kitOne K (.type "bool") (.ref C) = some false)
    (rint : PySem.W.kitOne K (.type "int") (.ref C) = some false)
    (rstr : PySem.W.kitOne K (.type "str") (.ref C) = some false)
    (rtuple : PySem.W.kitOne K (.type "tuple") (.ref C) = some false)
    (rlist : PySem.W.kitOne K (.type "list") (.ref C) = some false)
    (rdict : PySem.W.kitOne K (.type "dict") (.ref C) = some false)
    (nLEAST : PySem.W.nsIn K mainGlobals "LEAST" = some (some (.int (-2147483648) tLEAST)))
    (nGREATEST : PySem.W.nsIn K mainGlobals "GREATEST" = some (some (.int (2147483647) tGREATEST)))
    (nMOST_CHARACTERS : PySem.W.nsIn K mainGlobals "MOST_CHARACTERS" = some (some (.int (24) tMOST_CHARACTERS)))
    (nMOST_DEEP : PySem.W.nsIn K mainGlobals "MOST_DEEP" = some (some (.int (40) tMOST_DEEP)))
    (nMOST_RANK : PySem.W.nsIn K mainGlobals "MOST_RANK" = some (some (.int (40) tMOST_RANK)))
    (nMOST_RANK_HOST : PySem.W.nsIn K mainGlobals "MOST_RANK_HOST" = some (some (.int (36) tMOST_RANK_HOST)))
    (nGRANULES : PySem.W.nsIn K mainGlobals "GRANULES" = some (some (.int (24) tGRANULES)))
    (nPAGES : PySem.W.nsIn K mainGlobals "PAGES" = some (some (.int (16) tPAGES)))
    (nCPU_PLACE : PySem.W.nsIn K mainGlobals "CPU_PLACE" = some (some (.int (8) tCPU_PLACE)))
    (ztype : PySem.W.nsIn K mainGlobals "type" = some none)
    (zint : PySem.W.nsIn K mainGlobals "int" = some none)
    (zstr : PySem.W.nsIn K mainGlobals "str" = some none)
    (zbool : PySem.W.nsIn K mainGlobals "bool" = some none)
    (ztuple : PySem.W.nsIn K mainGlobals "tuple" = some none)
    (zlist : PySem.W.nsIn K mainGlobals "list" = some none)
    (zrange : PySem.W.nsIn K mainGlobals "range" = some none)
    (zzip : PySem.W.nsIn K mainGlobals "zip" = some none)
    (zset : PySem.W.nsIn K mainGlobals "set" = some none)
    (zlen : PySem.W.nsIn K mainGlobals "len" = some none)
    (zall : PySem.W.nsIn K mainGlobals "all" = some none)
    (zmax : PySem.W.nsIn K mainGlobals "max" = some none)
    (zisinstance : PySem.W.nsIn K mainGlobals "isinstance" = some none)
    (zabs : PySem.W.nsIn K mainGlobals "abs" = some none)
    (aF : PySem.W.nsIn K mainGlobals "FORMS_words" = some (some (.ref Fo)))
    (lF : K.lookup Fo = some ⟨.type "dict", none, .dict esF nF, #[]⟩)
    (kF : PySem.W.KeysLit w.params esF.toList)
    (oF : (Fo == sysModules) = false)
    (vtt1 : PySem.W.nsIn K Fo "token" = some (some (.ref tt1)))
    (wtt1 : K.lookup tt1 = some ⟨.type "tuple", dtt1, .seq #[.str "text" utt1_0, .str "tuple" utt1_1, .str "word" utt1_2] ntt1, stt1⟩)
    (vtt2 : PySem.W.nsIn K Fo "challenge" = some (some (.ref tt2)))
    (wtt2 : K.lookup tt2 = some ⟨.type "tuple", dtt2, .seq #[.str "text" utt2_0, .str "number" utt2_1] ntt2, stt2⟩)
    (vtt3 : PySem.W.nsIn K Fo "seal" = some (some (.ref tt3)))
    (wtt3 : K.lookup tt3 = some ⟨.type "tuple", dtt3, .seq #[.str "text" utt3_0, .str "number" utt3_1, .str "number" utt3_2, .str "hidden" utt3_3] ntt3, stt3⟩)
    (vtt4 : PySem.W.nsIn K Fo "page" = some (some (.ref tt4)))
    (wtt4 : K.lookup tt4 = some ⟨.type "tuple", dtt4, .seq #[.str "text" utt4_0, .str "number" utt4_1, .str "number" utt4_2, .str "hidden" utt4_3] ntt4, stt4⟩)
    (vtt5 : PySem.W.nsIn K Fo "ticket" = some (some (.ref tt5)))
    (wtt5 : K.lookup tt5 = some ⟨.type "tuple", dtt5, .seq #[.str "text" utt5_0, .str "number" utt5_1, .str "text" utt5_2, .str "tuple" utt5_3, .str "pages" utt5_4, .str "tuple" utt5_5] ntt5, stt5⟩)
    (vkey : PySem.W.nsIn K Fo "key" = some none)
    (aK0 : PySem.W.nsIn K mainGlobals "FORMS_moveforms" = some (some (.ref Kf0)))
    (lK0 : K.lookup Kf0 = some ⟨.type "dict", none, .dict esK0 nK0, #[]⟩)
    (kK0 : PySem.W.KeysLit w.params esK0.toList)
    (oK0 : (Kf0 == sysModules) = false)
    (vkf0_0 : PySem.W.nsIn K Kf0 "freeze" = some (some (.ref kf0_0)))
    (wkf0_0 : K.lookup kf0_0 = some ⟨.type "tuple", dkf0_0, .seq #[.str "granule" ukf0_0_0] nkf0_0, skf0_0⟩)
    (vkf0_1 : PySem.W.nsIn K Kf0 "thaw" = some (some (.ref kf0_1)))
    (wkf0_1 : K.lookup kf0_1 = some ⟨.type "tuple", dkf0_1, .seq #[.str "granule" ukf0_1_0] nkf0_1, skf0_1⟩)
    (vkf0_2 : PySem.W.nsIn K Kf0 "seal" = some (some (.ref kf0_2)))
    (wkf0_2 : K.lookup kf0_2 = some ⟨.type "tuple", dkf0_2, .seq #[.str "granule" ukf0_2_0, .str "page" ukf0_2_1] nkf0_2, skf0_2⟩)
    (vkf0_3 : PySem.W.nsIn K Kf0 "seal_cpu" = some (some (.ref kf0_3)))
    (wkf0_3 : K.lookup kf0_3 = some ⟨.type "tuple", dkf0_3, .seq #[.str "granule" ukf0_3_0, .str "granule" ukf0_3_1] nkf0_3, skf0_3⟩)
    (vkf0_4 : PySem.W.nsIn K Kf0 "give" = some (some (.ref kf0_4)))
    (wkf0_4 : K.lookup kf0_4 = some ⟨.type "tuple", dkf0_4, .seq #[.str "granule" ukf0_4_0, .str "text" ukf0_4_1] nkf0_4, skf0_4⟩)
    (vkf0_5 : PySem.W.nsIn K Kf0 "ticket" = some (some (.ref kf0_5)))
    (wkf0_5 : K.lookup kf0_5 = some ⟨.type "tuple", dkf0_5, .seq #[.str "granule" ukf0_5_0] nkf0_5, skf0_5⟩)
    (vkf0_6 : PySem.W.nsIn K Kf0 "come" = some (some (.ref kf0_6)))
    (wkf0_6 : K.lookup kf0_6 = some ⟨.type "tuple", dkf0_6, .seq #[.str "granule" ukf0_6_0, .str "granule" ukf0_6_1, .str "word" ukf0_6_2] nkf0_6, skf0_6⟩)
    (vkf0_7 : PySem.W.nsIn K Kf0 "place" = some (some (.ref kf0_7)))
    (wkf0_7 : K.lookup kf0_7 = some ⟨.type "tuple", dkf0_7, .seq #[.str "granule" ukf0_7_0, .str "granule" ukf0_7_1, .str "page" ukf0_7_2, .str "word" ukf0_7_3] nkf0_7, skf0_7⟩)
    (vkf0_8 : PySem.W.nsIn K Kf0 "strike" = some (some (.ref kf0_8)))
    (wkf0_8 : K.lookup kf0_8 = some ⟨.type "tuple", dkf0_8, .seq #[.str "granule" ukf0_8_0, .str "page" ukf0_8_1] nkf0_8, skf0_8⟩)
    (vkf0_9 : PySem.W.nsIn K Kf0 "place_cpu" = some (some (.ref kf0_9)))
    (wkf0_9 : K.lookup kf0_9 = some ⟨.type "tuple", dkf0_9, .seq #[.str "granule" ukf0_9_0, .str "granule" ukf0_9_1, .str "word" ukf0_9_2] nkf0_9, skf0_9⟩)
    (vkf0_10 : PySem.W.nsIn K Kf0 "begin" = some (some (.ref kf0_10)))
    (wkf0_10 : K.lookup kf0_10 = some ⟨.type "tuple", dkf0_10, .seq #[.str "granule" ukf0_10_0] nkf0_10, skf0_10⟩)
    (vn0_0 : PySem.W.nsIn K Kf0 "Freeze" = some none)
    (vn0_1 : PySem.W.nsIn K Kf0 "" = some none)
    (vn0_2 : PySem.W.nsIn K Kf0 "move" = some none)
    (vn0_3 : PySem.W.nsIn K Kf0 "arrive" = some none)
    (aU0 : PySem.W.nsIn K mainGlobals "MOVES" = some (some (.ref ku0)))
    (wku0 : K.lookup ku0 = some ⟨.type "tuple", dku0, .seq #[.str "freeze" uku0_0, .str "thaw" uku0_1, .str "seal" uku0_2, .str "seal_cpu" uku0_3, .str "give" uku0_4, .str "ticket" uku0_5, .str "come" uku0_6, .str "place" uku0_7, .str "strike" uku0_8, .str "place_cpu" uku0_9, .str "begin" uku0_10] nku0, sku0⟩)
    : ∃ fd : FuncData, (∀ (s : Shared) (v : Value), BindsTo s fd ⟨[v], []⟩ [("script", v)]) ∧ ∀ base : Heap, K.In base → base.Ns mainGlobals mg → FnOk l.prog w K mg base C8.CX0 12 fa fd ["script"] (spLaw K) := by
  have e := hfa.symm.trans (PySem.W.mg_of X G a39)
  cases e
  have clsC : Cls K C := ⟨pgC, hdC, poC, saC⟩
  have cl : Cl K C := ⟨clsC, ha, hn, htk, hm, me, mkC, nakind, naterm, narank, na_stripped⟩
  have kttt1 : KTup K tt1 ["text", "tuple", "word"] := fun H => .inr ⟨_, _, _, wtt1, rfl, rfl, (by show 3 ≤ sizeLine; decide), (.cons ⟨_, rfl⟩ (.cons ⟨_, rfl⟩ (.cons ⟨_, rfl⟩ .nil)))⟩
  have kttt2 : KTup K tt2 ["text", "number"] := fun H => .inr ⟨_, _, _, wtt2, rfl, rfl, (by show 2 ≤ sizeLine; decide), (.cons ⟨_, rfl⟩ (.cons ⟨_, rfl⟩ .nil))⟩
  have kttt3 : KTup K tt3 ["text", "number", "number", "hidden"] := fun H => .inr ⟨_, _, _, wtt3, rfl, rfl, (by show 4 ≤ sizeLine; decide), (.cons ⟨_, rfl⟩ (.cons ⟨_, rfl⟩ (.cons ⟨_, rfl⟩ (.cons ⟨_, rfl⟩ .nil))))⟩
  have kttt4 : KTup K tt4 ["text", "number", "number", "hidden"] := fun H => .inr ⟨_, _, _, wtt4, rfl, rfl, (by show 4 ≤ sizeLine; decide), (.cons ⟨_, rfl⟩ (.cons ⟨_, rfl⟩ (.cons ⟨_, rfl⟩ (.cons ⟨_, rfl⟩ .nil))))⟩
  have kttt5 : KTup K tt5 ["text", "number", "text", "tuple", "pages", "tuple"] := fun H => .inr ⟨_, _, _, wtt5, rfl, rfl, (by show 6 ≤ sizeLine; decide), (.cons ⟨_, rfl⟩ (.cons ⟨_, rfl⟩ (.cons ⟨_, rfl⟩ (.cons ⟨_, rfl⟩ (.cons ⟨_, rfl⟩ (.cons ⟨_, rfl⟩ .nil))))))⟩
  have ktkf0_0 : KTup K kf0_0 ["granule"] := fun H => .inr ⟨_, _, _, wkf0_0, rfl, rfl, (by show 1 ≤ sizeLine; decide), (.cons ⟨_, rfl⟩ .nil)⟩
  have ktkf0_1 : KTup K kf0_1 ["granule"] := fun H => .inr ⟨_, _, _, wkf0_1, rfl, rfl, (by show 1 ≤ sizeLine; decide), (.cons ⟨_, rfl⟩ .nil)⟩
  have ktkf0_2 : KTup K kf0_2 ["granule", "page"] := fun H => .inr ⟨_, _, _, wkf0_2, rfl, rfl, (by show 2 ≤ sizeLine; decide), (.cons ⟨_, rfl⟩ (.cons ⟨_, rfl⟩ .nil))⟩
  have ktkf0_3 : KTup K kf0_3 ["granule", "granule"] := fun H => .inr ⟨_, _, _, wkf0_3, rfl, rfl, (by show 2 ≤ sizeLine; decide), (.cons ⟨_, rfl⟩ (.cons ⟨_, rfl⟩ .nil))⟩
  have ktkf0_4 : KTup K kf0_4 ["granule", "text"] := fun H => .inr ⟨_, _, _, wkf0_4, rfl, rfl, (by show 2 ≤ sizeLine; decide), (.cons ⟨_, rfl⟩ (.cons ⟨_, rfl⟩ .nil))⟩
  have ktkf0_5 : KTup K kf0_5 ["granule"] := fun H => .inr ⟨_, _, _, wkf0_5, rfl, rfl, (by show 1 ≤ sizeLine; decide), (.cons ⟨_, rfl⟩ .nil)⟩
  have ktkf0_6 : KTup K kf0_6 ["granule", "granule", "word"] := fun H => .inr ⟨_, _, _, wkf0_6, rfl, rfl, (by show 3 ≤ sizeLine; decide), (.cons ⟨_, rfl⟩ (.cons ⟨_, rfl⟩ (.cons ⟨_, rfl⟩ .nil)))⟩
  have ktkf0_7 : KTup K kf0_7 ["granule", "granule", "page", "word"] := fun H => .inr ⟨_, _, _, wkf0_7, rfl, rfl, (by show 4 ≤ sizeLine; decide), (.cons ⟨_, rfl⟩ (.cons ⟨_, rfl⟩ (.cons ⟨_, rfl⟩ (.cons ⟨_, rfl⟩ .nil))))⟩
  have ktkf0_8 : KTup K kf0_8 ["granule", "page"] := fun H => .inr ⟨_, _, _, wkf0_8, rfl, rfl, (by show 2 ≤ sizeLine; decide), (.cons ⟨_, rfl⟩ (.cons ⟨_, rfl⟩ .nil))⟩
  have ktkf0_9 : KTup K kf0_9 ["granule", "granule", "word"] := fun H => .inr ⟨_, _, _, wkf0_9, rfl, rfl, (by show 3 ≤ sizeLine; decide), (.cons ⟨_, rfl⟩ (.cons ⟨_, rfl⟩ (.cons ⟨_, rfl⟩ .nil)))⟩
  have ktkf0_10 : KTup K kf0_10 ["granule"] := fun H => .inr ⟨_, _, _, wkf0_10, rfl, rfl, (by show 1 ≤ sizeLine; decide), (.cons ⟨_, rfl⟩ .nil)⟩
  have ktku0 : KTup K ku0 ["freeze", "thaw", "seal", "seal_cpu", "give", "ticket", "come", "place", "strike", "place_cpu", "begin"] := fun H => .inr ⟨_, _, _, wku0, rfl, rfl, (by show 11 ≤ sizeLine; decide), (.cons ⟨_, rfl⟩ (.cons ⟨_, rfl⟩ (.cons ⟨_, rfl⟩ (.cons ⟨_, rfl⟩ (.cons ⟨_, rfl⟩ (.cons ⟨_, rfl⟩ (.cons ⟨_, rfl⟩ (.cons ⟨_, rfl⟩ (.cons ⟨_, rfl⟩ (.cons ⟨_, rfl⟩ (.cons ⟨_, rfl⟩ .nil)))))))))))⟩
  have kit : ∀ (d : D) (n : String), n ∈ ["int", "str", "tuple", "bool", "list", "dict"] → PySem.W.kitOne K (kyU C d) (.type n) = some (match d with | .int _ => n == "int" | .bl _ => n == "int" || n == "bool" | .str _ => n == "str" | .tup _ => n == "tuple" | .lst _ => n == "list" | .dct => n == "dict" | _ => false) := fun d n hn => by
    simp only [List.mem_cons, List.not_mem_nil, or_false] at hn
    rcases hn with rfl | rfl | rfl | rfl | rfl | rfl <;> cases d <;> dsimp only [kyU] <;> first
      | exact kit_ty (by decide +kernel)
      | exact qint
      | exact qstr
      | exact qtuple
      | exact qbool
      | exact qlist
      | exact qdict
  have kitC : ∀ d : D, PySem.W.kitOne K (kyU C d) (.ref C) = some (match d with | .atom _ _ => true | _ => false) := fun d => by
    cases d <;> first
      | exact me
      | exact rNoneType
      | exact rbool
      | exact rint
      | exact rstr
      | exact rtuple
      | exact rlist
      | exact rdict
  have KD : KDict K w Fo esF nF := ⟨lF, kF, oF⟩
  have KD0 : KDict K w Kf0 esK0 nK0 := ⟨lK0, kK0, oK0⟩
  have KF0 : KForms K mg w "FORMS_moveforms" movF moreV := ⟨Kf0, esK0, nK0, ⟨_, PySem.W.mg_of X G aK0, rfl⟩, KD0, fun p hp => by
    simp only [movF, List.mem_cons, List.not_mem_nil, or_false] at hp
    rcases hp with rfl | rfl | rfl | rfl | rfl | rfl | rfl | rfl | rfl | rfl | rfl
    · exact ⟨kf0_0, vkf0_0, ktkf0_0⟩
    · exact ⟨kf0_1, vkf0_1, ktkf0_1⟩
    · exact ⟨kf0_2, vkf0_2, ktkf0_2⟩
    · exact ⟨kf0_3, vkf0_3, ktkf0_3⟩
    · exact ⟨kf0_4, vkf0_4, ktkf0_4⟩
    · exact ⟨kf0_5, vkf0_5, ktkf0_5⟩
    · exact ⟨kf0_6, vkf0_6, ktkf0_6⟩
    · exact ⟨kf0_7, vkf0_7, ktkf0_7⟩
    · exact ⟨kf0_8, vkf0_8, ktkf0_8⟩
    · exact ⟨kf0_9, vkf0_9, ktkf0_9⟩
    · exact ⟨kf0_10, vkf0_10, ktkf0_10⟩, fun k hk => by
    simp only [moreV, List.mem_cons, List.not_mem_nil, or_false] at hk
    rcases hk with rfl | rfl | rfl | rfl
    · exact vn0_0
    · exact vn0_1
    · exact vn0_2
    · exact vn0_3⟩
  have T : Txt K mg w C := ⟨cl, PySem.W.mg_of X G aC, PySem.W.mg_none_of X G ztype, PySem.W.mg_none_of X G zint, PySem.W.mg_none_of X G zstr, PySem.W.mg_none_of X G zbool, PySem.W.mg_none_of X G ztuple, PySem.W.mg_none_of X G zlist, PySem.W.mg_none_of X G zrange, PySem.W.mg_none_of X G zzip, PySem.W.mg_none_of X G zset, PySem.W.mg_none_of X G zlen, PySem.W.mg_none_of X G zall, PySem.W.mg_none_of X G zmax, PySem.W.mg_none_of X G zisinstance, PySem.W.mg_none_of X G zabs, ⟨_, PySem.W.mg_of X G nLEAST, ⟨_, rfl⟩⟩, ⟨_, PySem.W.mg_of X G nGREATEST, ⟨_, rfl⟩⟩, ⟨_, PySem.W.mg_of X G nMOST_CHARACTERS, ⟨_, rfl⟩⟩, ⟨_, PySem.W.mg_of X G nMOST_DEEP, ⟨_, rfl⟩⟩, ⟨_, PySem.W.mg_of X G nMOST_RANK, ⟨_, rfl⟩⟩, ⟨_, PySem.W.mg_of X G nMOST_RANK_HOST, ⟨_, rfl⟩⟩, ⟨_, PySem.W.mg_of X G nGRANULES, ⟨_, rfl⟩⟩, ⟨_, PySem.W.mg_of X G nPAGES, ⟨_, rfl⟩⟩, ⟨_, PySem.W.mg_of X G nCPU_PLACE, ⟨_, rfl⟩⟩, ⟨Fo, tt1, tt2, tt3, tt4, tt5, ⟨_, PySem.W.mg_of X G aF, rfl⟩, ⟨esF, nF, KD⟩, ⟨esF, nF, _, lF, kF, vtt1, rfl⟩, ⟨esF, nF, _, lF, kF, vtt2, rfl⟩, ⟨esF, nF, _, lF, kF, vtt3, rfl⟩, ⟨esF, nF, _, lF, kF, vtt4, rfl⟩, ⟨esF, nF, _, lF, kF, vtt5, rfl⟩, vkey, kttt1, kttt2, kttt3, kttt4, kttt5⟩, KF0, ⟨ku0, ⟨_, PySem.W.mg_of X G aU0, rfl⟩, ktku0⟩, kit, kitC⟩
  have oth : Oth K C := ⟨hm, onn, oNoneType, oint, ostr, otuple⟩
  have F1 : C8.Def K mg "is_number" s_is_number f1 _ := ⟨⟨⟨oc1, od1, .none, kV1, dc1, pm1, an1, cd1, ct1, sl1, rfl, l1, c1⟩⟩, PySem.W.mg_of X G a1, k1⟩
  have b1 : Binds K _ ["value"] [] := F1.fn.binds rfl (ps := ["value"]) fun _ _ _ _ _ _ us hl => match us, hl with | [_], _ => rfl
  have F2 : C8.Def K mg "is_text" s_is_text f2 _ := ⟨⟨⟨oc2, od2, .none, kV2, dc2, pm2, an2, cd2, ct2, sl2, rfl, l2, c2⟩⟩, PySem.W.mg_of X G a2, k2⟩
  have b2 : Binds K _ ["value"] [] := F2.fn.binds rfl (ps := ["value"]) fun _ _ _ _ _ _ us hl => match us, hl with | [_], _ => rfl
  have F3 : C8.Def K mg "_is_within" s__is_within f3 _ := ⟨⟨⟨oc3, od3, .none, kV3, dc3, pm3, an3, cd3, ct3, sl3, rfl, l3, c3⟩⟩, PySem.W.mg_of X G a3, k3⟩
  have b3 : Binds K _ ["value", "most_deep", "most_rank"] [] := F3.fn.binds rfl (ps := ["value", "most_deep", "most_rank"]) fun _ _ _ _ _ _ us hl => match us, hl with | [_, _, _], _ => rfl
  have F4 : C8.Def K mg "is_word" s_is_word f4 _ := ⟨⟨⟨oc4, od4, .none, kV4, dc4, pm4, an4, cd4, ct4, sl4, rfl, l4, c4⟩⟩, PySem.W.mg_of X G a4, k4⟩
  have b4 : Binds K _ ["value"] [] := F4.fn.binds rfl (ps := ["value"]) fun _ _ _ _ _ _ us hl => match us, hl with | [_], _ => rfl
  have F5 : C8.Def K mg "_places_of_atoms" s__places_of_atoms f5 _ := ⟨⟨⟨oc5, od5, .none, kV5, dc5, pm5, an5, cd5, ct5, sl5, rfl, l5, c5⟩⟩, PySem.W.mg_of X G a5, k5⟩
  have b5 : Binds K _ ["value"] [] := F5.fn.binds rfl (ps := ["value"]) fun _ _ _ _ _ _ us hl => match us, hl with | [_], _ => rfl
  have F6 : C8.Def K mg "rank_of" s_rank_of f6 _ := ⟨⟨⟨oc6, od6, .none, kV6, dc6, pm6, an6, cd6, ct6, sl6, rfl, l6, c6⟩⟩, PySem.W.mg_of X G a6, k6⟩
  have b6 : Binds K _ ["word"] [] := F6.fn.binds rfl (ps := ["word"]) fun _ _ _ _ _ _ us hl => match us, hl with | [_], _ => rfl
  have F7 : C8.Def K mg "_rank_of_atom" s__rank_of_atom f7 _ := ⟨⟨⟨oc7, od7, .none, kV7, dc7, pm7, an7, cd7, ct7, sl7, rfl, l7, c7⟩⟩, PySem.W.mg_of X G a7, k7⟩
  have b7 : Binds K _ ["kind", "term"] [] := F7.fn.binds rfl (ps := ["kind", "term"]) fun _ _ _ _ _ _ us hl => match us, hl with | [_, _], _ => rfl
  have F8 : C8.Def K mg "_most_rank" s__most_rank f8 _ := ⟨⟨⟨oc8, od8, .none, kV8, dc8, pm8, an8, cd8, ct8, sl8, rfl, l8, c8⟩⟩, PySem.W.mg_of X G a8, k8⟩
  have b8 : Binds K _ ["kind"] [] := F8.fn.binds rfl (ps := ["kind"]) fun _ _ _ _ _ _ us hl => match us, hl with | [_], _ => rfl
  have F9 : C8.Fun K "_has_form" "_has_form" s_has_form_words f9 _ := ⟨⟨oc9, od9, .none, kV9, dc9, pm9, an9, cd9, ct9, sl9, rfl, l9, c9⟩⟩
  have b9 : Binds K _ ["part", "form"] [] := F9.binds rfl (ps := ["part", "form"]) fun _ _ _ _ _ _ us hl => match us, hl with | [_, _], _ => rfl
  have F10 : C8.Def K mg "_is_term" s__is_term f10 _ := ⟨⟨⟨oc10, od10, .none, kV10, dc10, pm10, an10, cd10, ct10, sl10, rfl, l10, c10⟩⟩, PySem.W.mg_of X G a10, k10⟩
  have b10 : Binds K _ ["kind", "term"] [] := F10.fn.binds rfl (ps := ["kind", "term"]) fun _ _ _ _ _ _ us hl => match us, hl with | [_, _], _ => rfl
  have F11 : C8.Def K mg "_are_equal" s__are_equal f11 _ := ⟨⟨⟨oc11, od11, .none, kV11, dc11, pm11, an11, cd11, ct11, sl11, rfl, l11, c11⟩⟩, PySem.W.mg_of X G a11, k11⟩
  have b11 : Binds K _ ["ones", "others"] [] := F11.fn.binds rfl (ps := ["ones", "others"]) fun _ _ _ _ _ _ us hl => match us, hl with | [_, _], _ => rfl
  have F12 : C8.Def K mg "is_form" s_is_form f12 _ := ⟨⟨⟨oc12, od12, .none, kV12, dc12, pm12, an12, cd12, ct12, sl12, rfl, l12, c12⟩⟩, PySem.W.mg_of X G a12, k12⟩
  have b12 : Binds K _ ["value", "name", "many"] [] := F12.fn.binds rfl (ps := ["value", "name", "many"]) fun _ _ _ _ _ _ us hl => match us, hl with | [_, _, _], _ => rfl
  have F13 : C8.Def K mg "has_name" s_has_name f13 _ := ⟨⟨⟨oc13, od13, .none, kV13, dc13, pm13, an13, cd13, ct13, sl13, rfl, l13, c13⟩⟩, PySem.W.mg_of X G a13, k13⟩
  have b13 : Binds K _ ["value"] [] := F13.fn.binds rfl (ps := ["value"]) fun _ _ _ _ _ _ us hl => match us, hl with | [_], _ => rfl
  have F14 : C8.Def K mg "_is_below" s__is_below f14 _ := ⟨⟨⟨oc14, od14, .none, kV14, dc14, pm14, an14, cd14, ct14, sl14, rfl, l14, c14⟩⟩, PySem.W.mg_of X G a14, k14⟩
  have b14 : Binds K _ ["value", "many"] [] := F14.fn.binds rfl (ps := ["value", "many"]) fun _ _ _ _ _ _ us hl => match us, hl with | [_, _], _ => rfl
  have F15 : C8.Def K mg "is_granule" s_is_granule f15 _ := ⟨⟨⟨oc15, od15, .none, kV15, dc15, pm15, an15, cd15, ct15, sl15, rfl, l15, c15⟩⟩, PySem.W.mg_of X G a15, k15⟩
  have b15 : Binds K _ ["value"] [] := F15.fn.binds rfl (ps := ["value"]) fun _ _ _ _ _ _ us hl => match us, hl with | [_], _ => rfl
  have F16 : C8.Def K mg "is_page" s_is_page f16 _ := ⟨⟨⟨oc16, od16, .none, kV16, dc16, pm16, an16, cd16, ct16, sl16, rfl, l16, c16⟩⟩, PySem.W.mg_of X G a16, k16⟩
  have b16 : Binds K _ ["value"] [] := F16.fn.binds rfl (ps := ["value"]) fun _ _ _ _ _ _ us hl => match us, hl with | [_], _ => rfl
  have F17 : C8.Def K mg "fits" s_fits f17 _ := ⟨⟨⟨oc17, od17, .none, kV17, dc17, pm17, an17, cd17, ct17, sl17, rfl, l17, c17⟩⟩, PySem.W.mg_of X G a17, k17⟩
  have b17 : Binds K _ ["part", "form"] [] := F17.fn.binds rfl (ps := ["part", "form"]) fun _ _ _ _ _ _ us hl => match us, hl with | [_, _], _ => rfl
  have F18 : C8.Def K mg "_is_part" s__is_part f18 _ := ⟨⟨⟨oc18, od18, .none, kV18, dc18, pm18, an18, cd18, ct18, sl18, rfl, l18, c18⟩⟩, PySem.W.mg_of X G a18, k18⟩
  have b18 : Binds K _ ["part", "form"] [] := F18.fn.binds rfl (ps := ["part", "form"]) fun _ _ _ _ _ _ us hl => match us, hl with | [_, _], _ => rfl
  have F19 : C8.Def K mg "are_parts" s_are_parts f19 _ := ⟨⟨⟨oc19, od19, .none, kV19, dc19, pm19, an19, cd19, ct19, sl19, rfl, l19, c19⟩⟩, PySem.W.mg_of X G a19, k19⟩
  have b19 : Binds K _ ["parts", "forms"] [] := F19.fn.binds rfl (ps := ["parts", "forms"]) fun _ _ _ _ _ _ us hl => match us, hl with | [_, _], _ => rfl
  have F20 : C8.Def K mg "is_move" s_is_move f20 _ := ⟨⟨⟨oc20, od20, .none, kV20, dc20, pm20, an20, cd20, ct20, sl20, rfl, l20, c20⟩⟩, PySem.W.mg_of X G a20, k20⟩
  have b20 : Binds K _ ["value"] [] := F20.fn.binds rfl (ps := ["value"]) fun _ _ _ _ _ _ us hl => match us, hl with | [_], _ => rfl
  have F21 : C8.Def K mg "is_state" s_is_state f21 _ := ⟨⟨⟨oc21, od21, .none, kV21, dc21, pm21, an21, cd21, ct21, sl21, rfl, l21, c21⟩⟩, PySem.W.mg_of X G a21, k21⟩
  have b21 : Binds K _ ["value"] [] := F21.fn.binds rfl (ps := ["value"]) fun _ _ _ _ _ _ us hl => match us, hl with | [_], _ => rfl
  have F22 : C8.Def K mg "number_of" s_number_of f22 _ := ⟨⟨⟨oc22, od22, .none, kV22, dc22, pm22, an22, cd22, ct22, sl22, rfl, l22, c22⟩⟩, PySem.W.mg_of X G a22, k22⟩
  have b22 : Binds K _ ["state"] [] := F22.fn.binds rfl (ps := ["state"]) fun _ _ _ _ _ _ us hl => match us, hl with | [_], _ => rfl
  have F23 : C8.Def K mg "ticket_parts" s_ticket_parts f23 _ := ⟨⟨⟨oc23, od23, .none, kV23, dc23, pm23, an23, cd23, ct23, sl23, rfl, l23, c23⟩⟩, PySem.W.mg_of X G a23, k23⟩
  have b23 : Binds K _ ["word"] [] := F23.fn.binds rfl (ps := ["word"]) fun _ _ _ _ _ _ us hl => match us, hl with | [_], _ => rfl
  have F24 : C8.Def K mg "seal_parts" s_seal_parts f24 _ := ⟨⟨⟨oc24, od24, .none, kV24, dc24, pm24, an24, cd24, ct24, sl24, rfl, l24, c24⟩⟩, PySem.W.mg_of X G a24, k24⟩
  have b24 : Binds K _ ["word"] [] := F24.fn.binds rfl (ps := ["word"]) fun _ _ _ _ _ _ us hl => match us, hl with | [_], _ => rfl
  have F25 : C8.Def K mg "_law_begin" s__law_begin f25 _ := ⟨⟨⟨oc25, od25, .none, kV25, dc25, pm25, an25, cd25, ct25, sl25, rfl, l25, c25⟩⟩, PySem.W.mg_of X G a25, k25⟩
  have b25 : Binds K _ ["script"] [] := F25.fn.binds rfl (ps := ["script"]) fun _ _ _ _ _ _ us hl => match us, hl with | [_], _ => rfl
  have F26 : C8.Def K mg "_law_draw" s__law_draw f26 _ := ⟨⟨⟨oc26, od26, .none, kV26, dc26, pm26, an26, cd26, ct26, sl26, rfl, l26, c26⟩⟩, PySem.W.mg_of X G a26, k26⟩
  have b26 : Binds K _ ["draws", "many"] [] := F26.fn.binds rfl (ps := ["draws", "many"]) fun _ _ _ _ _ _ us hl => match us, hl with | [_, _], _ => rfl
  have F27 : C8.Def K mg "_law_pick" s__law_pick f27 _ := ⟨⟨⟨oc27, od27, .none, kV27, dc27, pm27, an27, cd27, ct27, sl27, rfl, l27, c27⟩⟩, PySem.W.mg_of X G a27, k27⟩
  have b27 : Binds K _ ["draws", "row"] [] := F27.fn.binds rfl (ps := ["draws", "row"]) fun _ _ _ _ _ _ us hl => match us, hl with | [_, _], _ => rfl
  have F28 : C8.Def K mg "_law_shapes" s__law_shapes f28 _ := ⟨⟨⟨oc28, od28, .none, kV28, dc28, pm28, an28, cd28, ct28, sl28, rfl, l28, c28⟩⟩, PySem.W.mg_of X G a28, k28⟩
  have b28 : Binds K _ [] [] := F28.fn.binds rfl (ps := []) fun _ _ _ _ _ _ us hl => match us, hl with | [], _ => rfl
  have F29 : C8.Def K mg "_law_words" s__law_words f29 _ := ⟨⟨⟨oc29, od29, .none, kV29, dc29, pm29, an29, cd29, ct29, sl29, rfl, l29, c29⟩⟩, PySem.W.mg_of X G a29, k29⟩
  have b29 : Binds K _ [] [] := F29.fn.binds rfl (ps := []) fun _ _ _ _ _ _ us hl => match us, hl with | [], _ => rfl
  have F30 : C8.Def K mg "_law_odd" s__law_odd f30 _ := ⟨⟨⟨oc30, od30, .none, kV30, dc30, pm30, an30, cd30, ct30, sl30, rfl, l30, c30⟩⟩, PySem.W.mg_of X G a30, k30⟩
  have b30 : Binds K _ ["draws"] [] := F30.fn.binds rfl (ps := ["draws"]) fun _ _ _ _ _ _ us hl => match us, hl with | [_], _ => rfl
  have F31 : C8.Def K mg "_law_part" s__law_part f31 _ := ⟨⟨⟨oc31, od31, .none, kV31, dc31, pm31, an31, cd31, ct31, sl31, rfl, l31, c31⟩⟩, PySem.W.mg_of X G a31, k31⟩
  have b31 : Binds K _ ["draws", "sort"] [] := F31.fn.binds rfl (ps := ["draws", "sort"]) fun _ _ _ _ _ _ us hl => match us, hl with | [_, _], _ => rfl
  have F32 : C8.Def K mg "_law_fits" s__law_fits f32 _ := ⟨⟨⟨oc32, od32, .none, kV32, dc32, pm32, an32, cd32, ct32, sl32, rfl, l32, c32⟩⟩, PySem.W.mg_of X G a32, k32⟩
  have b32 : Binds K _ ["sort", "value"] [] := F32.fn.binds rfl (ps := ["sort", "value"]) fun _ _ _ _ _ _ us hl => match us, hl with | [_, _], _ => rfl
  have F33 : C8.Def K mg "_law_call" s__law_call f33 _ := ⟨⟨⟨oc33, od33, .none, kV33, dc33, pm33, an33, cd33, ct33, sl33, rfl, l33, c33⟩⟩, PySem.W.mg_of X G a33, k33⟩
  have b33 : Binds K _ ["draws"] [] := F33.fn.binds rfl (ps := ["draws"]) fun _ _ _ _ _ _ us hl => match us, hl with | [_], _ => rfl
  have F34 : C8.Def K mg "_law_is_move" s__law_is_move f34 _ := ⟨⟨⟨oc34, od34, .none, kV34, dc34, pm34, an34, cd34, ct34, sl34, rfl, l34, c34⟩⟩, PySem.W.mg_of X G a34, k34⟩
  have b34 : Binds K _ ["value"] [] := F34.fn.binds rfl (ps := ["value"]) fun _ _ _ _ _ _ us hl => match us, hl with | [_], _ => rfl
  have F35 : C8.Def K mg "_law_state" s__law_state f35 _ := ⟨⟨⟨oc35, od35, .none, kV35, dc35, pm35, an35, cd35, ct35, sl35, rfl, l35, c35⟩⟩, PySem.W.mg_of X G a35, k35⟩
  have b35 : Binds K _ ["draws"] [] := F35.fn.binds rfl (ps := ["draws"]) fun _ _ _ _ _ _ us hl => match us, hl with | [_], _ => rfl
  have F36 : C8.Def K mg "_law_number" s__law_number f36 _ := ⟨⟨⟨oc36, od36, .none, kV36, dc36, pm36, an36, cd36, ct36, sl36, rfl, l36, c36⟩⟩, PySem.W.mg_of X G a36, k36⟩
  have b36 : Binds K _ ["state"] [] := F36.fn.binds rfl (ps := ["state"]) fun _ _ _ _ _ _ us hl => match us, hl with | [_], _ => rfl
  have F37 : C8.Def K mg "_law_is_state" s__law_is_state f37 _ := ⟨⟨⟨oc37, od37, .none, kV37, dc37, pm37, an37, cd37, ct37, sl37, rfl, l37, c37⟩⟩, PySem.W.mg_of X G a37, k37⟩
  have b37 : Binds K _ ["state"] [] := F37.fn.binds rfl (ps := ["state"]) fun _ _ _ _ _ _ us hl => match us, hl with | [_], _ => rfl
  have F38 : C8.Def K mg "_law_agree" s__law_agree f38 _ := ⟨⟨⟨oc38, od38, .none, kV38, dc38, pm38, an38, cd38, ct38, sl38, rfl, l38, c38⟩⟩, PySem.W.mg_of X G a38, k38⟩
  have b38 : Binds K _ ["actual", "due"] [] := F38.fn.binds rfl (ps := ["actual", "due"]) fun _ _ _ _ _ _ us hl => match us, hl with | [_, _], _ => rfl
  have F39 : C8.Fun K "law" "law" s_law fa _ := ⟨⟨oc39, od39, .none, kV39, dc39, pm39, an39, cd39, ct39, sl39, rfl, l39, c39⟩⟩
  have b39 : Binds K _ ["script"] [] := F39.binds rfl (ps := ["script"]) fun _ _ _ _ _ _ us hl => match us, hl with | [_], _ => rfl
  have F40 : C8.Fun K "__init__" "Atom.__init__" s_Atom___init__ f40 _ := ⟨⟨oc40, od40, .none, kV40, dc40, pm40, an40, cd40, ct40, sl40, rfl, l40, c40⟩⟩
  have b40 : Binds K _ ["self", "kind", "term"] [] := F40.binds rfl (ps := ["self", "kind", "term"]) fun _ _ _ _ _ _ us hl => match us, hl with | [_, _, _], _ => rfl
  have mk40 : Mk K C f40 := ⟨mkC, a40, i40, kcC⟩
  have F41 : C8.Fun K "__eq__" "Atom.__eq__" s_Atom___eq__ f41 _ := ⟨⟨oc41, od41, .none, kV41, dc41, pm41, an41, cd41, ct41, sl41, rfl, l41, c41⟩⟩
  have b41 : Binds K _ ["self", "other"] [] := F41.binds rfl (ps := ["self", "other"]) fun _ _ _ _ _ _ us hl => match us, hl with | [_, _], _ => rfl
  have F42 : C8.Fun K "is_same" "Atom.is_same" s_Atom_is_same f42 _ := ⟨⟨oc42, od42, .none, kV42, dc42, pm42, an42, cd42, ct42, sl42, rfl, l42, c42⟩⟩
  have b42 : Binds K _ ["self", "other"] [] := F42.binds rfl (ps := ["self", "other"]) fun _ _ _ _ _ _ us hl => match us, hl with | [_, _], _ => rfl
  have me42 : Meth K C "is_same" f42 := ⟨a42, i42, k42⟩
  refine ⟨PySem.W.fnOf "law" "law" (C8.fnArgs s_law) (C8.fnBody s_law) (C8.fnScope s_law) .none kV39 dc39 pm39 an39 cd39 ct39, fun s v => .of_eq rfl, fun base _ _ => ?_⟩
  have C1 := ok_is_number (P := l.prog) (w := w) (base := base)  F1 b1 T  
  have C2 := ok_is_text (P := l.prog) (w := w) (base := base)  F2 b2 T  
  have C3 := ok__is_within (P := l.prog) (w := w) (base := base)  F3 b3 T  C1 C2
  have C4 := ok_is_word (P := l.prog) (w := w) (base := base)  F4 b4 T  C3
  have C5 := ok__places_of_atoms (P := l.prog) (w := w) (base := base)  F5 b5 T  
  have C6 := ok_rank_of (P := l.prog) (w := w) (base := base)  F6 b6 T  C5
  have C7 := ok__rank_of_atom (P := l.prog) (w := w) (base := base)  F7 b7 T  C6
  have C8 := ok__most_rank (P := l.prog) (w := w) (base := base)  F8 b8 T  
  have C9 := ok_has_form_words (P := l.prog) (w := w) (base := base) F9 (PySem.W.mg_of X G a9) k9 b9 T 
  have C10 := ok__is_term (P := l.prog) (w := w) (base := base)  F10 b10 T  C4 C9
  have kA := ok_init (P := l.prog) (w := w) (base := base) mk40 (PySem.W.mg_of X G aC) F40 b40 T C10 C7 C8
  have fN := ok_eqN (P := l.prog) (w := w) (base := base) F41 T
  have ON : OwnS l.prog w K mg base 1 C (spEqN C) := ⟨f41, _, _, fN, a41, i41, b41⟩
  have mSm := ok_is_same (P := l.prog) (w := w) (base := base) me42 T F42 b42
  have C11 := ok__are_equal (P := l.prog) (w := w) (base := base)  F11 b11 T ON oth mSm 
  have fG := ok_eq (P := l.prog) (w := w) (base := base) F41 T C11
  have OG : OwnS l.prog w K mg base 4 C (spEqG C) := ⟨f41, _, _, fG, a41, i41, b41⟩
  have C12 := ok_is_form (P := l.prog) (w := w) (base := base)  F12 b12 T  
  have C13 := ok_has_name (P := l.prog) (w := w) (base := base)  F13 b13 T  
  have C14 := ok__is_below (P := l.prog) (w := w) (base := base)  F14 b14 T  
  have C15 := ok_is_granule (P := l.prog) (w := w) (base := base)  F15 b15 T  C14
  have C16 := ok_is_page (P := l.prog) (w := w) (base := base)  F16 b16 T  C14
  have C17 := ok_fits (P := l.prog) (w := w) (base := base)  F17 b17 T  C15 C16 C4
  have C18 := ok__is_part (P := l.prog) (w := w) (base := base)  F18 b18 T  C2 C17
  have C19 := ok_are_parts (P := l.prog) (w := w) (base := base)  F19 b19 T  C18
  have C20 := ok_is_move (P := l.prog) (w := w) (base := base)  F20 b20 T  C13 C19
  have C22 := ok_number_of (P := l.prog) (w := w) (base := base)  F22 b22 T  C12
  have C23 := ok_ticket_parts (P := l.prog) (w := w) (base := base)  F23 b23 T  
  have C24 := ok_seal_parts (P := l.prog) (w := w) (base := base)  F24 b24 T  
  have C21 := ok_is_state (P := l.prog) (w := w) (base := base)  F21 b21 T  C12 C23 C4 C2 C22 C1
  have C25 := ok__law_begin (P := l.prog) (w := w) (base := base)  F25 b25 T  
  have C26 := ok__law_draw (P := l.prog) (w := w) (base := base)  F26 b26 T  
  have C27 := ok__law_pick (P := l.prog) (w := w) (base := base)  F27 b27 T  C26
  have C28 := ok__law_shapes (P := l.prog) (w := w) (base := base)  F28 b28 T  
  have C29 := ok__law_words (P := l.prog) (w := w) (base := base)  F29 b29 T kA 
  have C30 := ok__law_odd (P := l.prog) (w := w) (base := base)  F30 b30 T  C27
  have C31 := ok__law_part (P := l.prog) (w := w) (base := base)  F31 b31 T  C26 C27 C29
  have C32 := ok__law_fits (P := l.prog) (w := w) (base := base)  F32 b32 T OG oth 
  have C33 := ok__law_call (P := l.prog) (w := w) (base := base)  F33 b33 T  C26 C27 C28 C31 C30
  have C34 := ok__law_is_move (P := l.prog) (w := w) (base := base)  F34 b34 T  C28 C32
  have C35 := ok__law_state (P := l.prog) (w := w) (base := base)  F35 b35 T  C27 C29
  have C36 := ok__law_number (P := l.prog) (w := w) (base := base)  F36 b36 T  
  have C37 := ok__law_is_state (P := l.prog) (w := w) (base := base)  F37 b37 T  C36
  have C38 := ok__law_agree (P := l.prog) (w := w) (base := base)  F38 b38 T  
  exact fn_law F39 b39 T OG oth C25 C28 C33 C20 C34 C38 C35 C21 C37 C22 C36 C29 C30 C23 C24
end Hc
open PySem PySem.W PyProof.Rows
set_option maxRecDepth 100000 in
set_option maxHeartbeats 0 in
theorem PySem.Challenge.cw_hermitcell_k64_forms_of_moves_holds : PySem.Challenge.rw_hermitcell_k64_forms_of_moves.Holds := by
  w_on; o_law; k_head; (case hw => w_witness2)
  k_fill
  refine L2.walk_of (l := PySem.Challenge.rw_hermitcell_k64_forms_of_moves) (n := 63) (k := 12) (x := "script") (CX := fun _ => C8.CX0) (sp := fun w => Hc.spLaw _) rfl (by decide) rfl ⟨rfl, by decide, by decide⟩ (fun w h Y => Hc.kmIn_of Y) ?F (fun _ _ a ns hl _ hS => ⟨a, ns, rfl, hS, Nat.le_trans hl (by decide), fun _ => rfl⟩) (fun _ _ _ _ _ h => h)
  case F =>
    intro w mg fa h KX G hmg
    refine' Hc.all_mk KX G hmg ?a1 ?l1 ?c1 ?k1 ?a2 ?l2 ?c2 ?k2 ?a3 ?l3 ?c3 ?k3 ?a4 ?l4 ?c4 ?k4 ?a5 ?l5 ?c5 ?k5 ?a6 ?l6 ?c6 ?k6 ?a7 ?l7 ?c7 ?k7 ?a8 ?l8 ?c8 ?k8 ?a9 ?l9 ?c9 ?k9 ?a10 ?l10 ?c10 ?k10 ?a11 ?l11 ?c11 ?k11 ?a12 ?l12 ?c12 ?k12 ?a13 ?l13 ?c13 ?k13 ?a14 ?l14 ?c14 ?k14 ?a15 ?l15 ?c15 ?k15 ?a16 ?l16 ?c16 ?k16 ?a17 ?l17 ?c17 ?k17 ?a18 ?l18 ?c18 ?k18 ?a19 ?l19 ?c19 ?k19 ?a20 ?l20 ?c20 ?k20 ?a21 ?l21 ?c21 ?k21 ?a22 ?l22 ?c22 ?k22 ?a23 ?l23 ?c23 ?k23 ?a24 ?l24 ?c24 ?k24 ?a25 ?l25 ?c25 ?k25 ?a26 ?l26 ?c26 ?k26 ?a27 ?l27 ?c27 ?k27 ?a28 ?l28 ?c28 ?k28 ?a29 ?l29 ?c29 ?k29 ?a30 ?l30 ?c30 ?k30 ?a31 ?l31 ?c31 ?k31 ?a32 ?l32 ?c32 ?k32 ?a33 ?l33 ?c33 ?k33 ?a34 ?l34 ?c34 ?k34 ?a35 ?l35 ?c35 ?k35 ?a36 ?l36 ?c36 ?k36 ?a37 ?l37 ?c37 ?k37 ?a38 ?l38 ?c38 ?k38 ?a39 ?l39 ?c39 ?k39 ?aC ?onn ?oNoneType ?oint ?ostr ?otuple ?a40 ?i40 ?l40 ?c40 ?k40 ?a41 ?i41 ?l41 ?c41 ?k41 ?a42 ?i42 ?l42 ?c42 ?k42 ?pgC ?hdC ?poC ?saC ?mkC ?kcC ?ha ?hn ?htk ?hm ?me ?nakind ?naterm ?narank ?na_stripped ?qint ?qstr ?qtuple ?qbool ?qlist ?qdict ?rNoneType ?rbool ?rint ?rstr ?rtuple ?rlist ?rdict ?nLEAST ?nGREATEST ?nMOST_CHARACTERS ?nMOST_DEEP ?nMOST_RANK ?nMOST_RANK_HOST ?nGRANULES ?nPAGES ?nCPU_PLACE ?ztype ?zint ?zstr ?zbool ?ztuple ?zlist ?zrange ?zzip ?zset ?zlen ?zall ?zmax ?zisinstance ?zabs ?aF ?lF ?kF ?oF ?vtt1 ?wtt1 ?vtt2 ?wtt2 ?vtt3 ?wtt3 ?vtt4 ?wtt4 ?vtt5 ?wtt5 ?vkey ?aK0 ?lK0 ?kK0 ?oK0 ?vkf0_0 ?wkf0_0 ?vkf0_1 ?wkf0_1 ?vkf0_2 ?wkf0_2 ?vkf0_3 ?wkf0_3 ?vkf0_4 ?wkf0_4 ?vkf0_5 ?wkf0_5 ?vkf0_6 ?wkf0_6 ?vkf0_7 ?wkf0_7 ?vkf0_8 ?wkf0_8 ?vkf0_9 ?wkf0_9 ?vkf0_10 ?wkf0_10 ?vn0_0 ?vn0_1 ?vn0_2 ?vn0_3 ?aU0 ?wku0
    (case a1 => k_is)
    (case l1 => k_is)
    (case c1 => k_is)
    (case k1 => k_is)
    (case a2 => k_is)
    (case l2 => k_is)
    (case c2 => k_is)
    (case k2 => k_is)
    (case a3 => k_is)
    (case l3 => k_is)
    (case c3 => k_is)
    (case k3 => k_is)
    (case a4 => k_is)
    (case l4 => k_is)
    (case c4 => k_is)
    (case k4 => k_is)
    (case a5 => k_is)
    (case l5 => k_is)
    (case c5 => k_is)
    (case k5 => k_is)
    (case a6 => k_is)
    (case l6 => k_is)
    (case c6 => k_is)
    (case k6 => k_is)
    (case a7 => k_is)
    (case l7 => k_is)
    (case c7 => k_is)
    (case k7 => k_is)
    (case a8 => k_is)
    (case l8 => k_is)
    (case c8 => k_is)
    (case k8 => k_is)
    (case a9 => k_is)
    (case l9 => k_is)
    (case c9 => k_is)
    (case k9 => k_is)
    (case a10 => k_is)
    (case l10 => k_is)
    (case c10 => k_is)
    (case k10 => k_is)
    (case a11 => k_is)
    (case l11 => k_is)
    (case c11 => k_is)
    (case k11 => k_is)
    (case a12 => k_is)
    (case l12 => k_is)
    (case c12 => k_is)
    (case k12 => k_is)
    (case a13 => k_is)
    (case l13 => k_is)
    (case c13 => k_is)
    (case k13 => k_is)
    (case a14 => k_is)
    (case l14 => k_is)
    (case c14 => k_is)
    (case k14 => k_is)
    (case a15 => k_is)
    (case l15 => k_is)
    (case c15 => k_is)
    (case k15 => k_is)
    (case a16 => k_is)
    (case l16 => k_is)
    (case c16 => k_is)
    (case k16 => k_is)
    (case a17 => k_is)
    (case l17 => k_is)
    (case c17 => k_is)
    (case k17 => k_is)
    (case a18 => k_is)
    (case l18 => k_is)
    (case c18 => k_is)
    (case k18 => k_is)
    (case a19 => k_is)
    (case l19 => k_is)
    (case c19 => k_is)
    (case k19 => k_is)
    (case a20 => k_is)
    (case l20 => k_is)
    (case c20 => k_is)
    (case k20 => k_is)
    (case a21 => k_is)
    (case l21 => k_is)
    (case c21 => k_is)
    (case k21 => k_is)
    (case a22 => k_is)
    (case l22 => k_is)
    (case c22 => k_is)
    (case k22 => k_is)
    (case a23 => k_is)
    (case l23 => k_is)
    (case c23 => k_is)
    (case k23 => k_is)
    (case a24 => k_is)
    (case l24 => k_is)
    (case c24 => k_is)
    (case k24 => k_is)
    (case a25 => k_is)
    (case l25 => k_is)
    (case c25 => k_is)
    (case k25 => k_is)
    (case a26 => k_is)
    (case l26 => k_is)
    (case c26 => k_is)
    (case k26 => k_is)
    (case a27 => k_is)
    (case l27 => k_is)
    (case c27 => k_is)
    (case k27 => k_is)
    (case a28 => k_is)
    (case l28 => k_is)
    (case c28 => k_is)
    (case k28 => k_is)
    (case a29 => k_is)
    (case l29 => k_is)
    (case c29 => k_is)
    (case k29 => k_is)
    (case a30 => k_is)
    (case l30 => k_is)
    (case c30 => k_is)
    (case k30 => k_is)
    (case a31 => k_is)
    (case l31 => k_is)
    (case c31 => k_is)
    (case k31 => k_is)
    (case a32 => k_is)
    (case l32 => k_is)
    (case c32 => k_is)
    (case k32 => k_is)
    (case a33 => k_is)
    (case l33 => k_is)
    (case c33 => k_is)
    (case k33 => k_is)
    (case a34 => k_is)
    (case l34 => k_is)
    (case c34 => k_is)
    (case k34 => k_is)
    (case a35 => k_is)
    (case l35 => k_is)
    (case c35 => k_is)
    (case k35 => k_is)
    (case a36 => k_is)
    (case l36 => k_is)
    (case c36 => k_is)
    (case k36 => k_is)
    (case a37 => k_is)
    (case l37 => k_is)
    (case c37 => k_is)
    (case k37 => k_is)
    (case a38 => k_is)
    (case l38 => k_is)
    (case c38 => k_is)
    (case k38 => k_is)
    (case a39 => k_is)
    (case l39 => k_is)
    (case c39 => k_is)
    (case k39 => k_is)
    (case aC => k_is)
    (case onn => k_is)
    (case oNoneType => k_is)
    (case oint => k_is)
    (case ostr => k_is)
    (case otuple => k_is)
    (case a40 => k_is)
    (case i40 => k_is)
    (case l40 => k_is)
    (case c40 => k_is)
    (case k40 => k_is)
    (case a41 => k_is)
    (case i41 => k_is)
    (case l41 => k_is)
    (case c41 => k_is)
    (case k41 => k_is)
    (case a42 => k_is)
    (case i42 => k_is)
    (case l42 => k_is)
    (case c42 => k_is)
    (case k42 => k_is)
    (case pgC => k_is)
    (case hdC => k_is)
    (case poC => k_is)
    (case saC => k_is)
    (case mkC => k_is)
    (case kcC => k_is)
    (case ha => k_is)
    (case hn => k_is)
    (case htk => k_is)
    (case hm => k_is)
    (case me => kit_is)
    (case nakind => k_is)
    (case naterm => k_is)
    (case narank => k_is)
    (case na_stripped => k_is)
    (case qint => kit_is)
    (case qstr => kit_is)
    (case qtuple => kit_is)
    (case qbool => kit_is)
    (case qlist => kit_is)
    (case qdict => kit_is)
    (case rNoneType => kit_is)
    (case rbool => kit_is)
    (case rint => kit_is)
    (case rstr => kit_is)
    (case rtuple => kit_is)
    (case rlist => kit_is)
    (case rdict => kit_is)
    (case nLEAST => k_is)
    (case nGREATEST => k_is)
    (case nMOST_CHARACTERS => k_is)
    (case nMOST_DEEP => k_is)
    (case nMOST_RANK => k_is)
    (case nMOST_RANK_HOST => k_is)
    (case nGRANULES => k_is)
    (case nPAGES => k_is)
    (case nCPU_PLACE => k_is)
    (case ztype => k_is)
    (case zint => k_is)
    (case zstr => k_is)
    (case zbool => k_is)
    (case ztuple => k_is)
    (case zlist => k_is)
    (case zrange => k_is)
    (case zzip => k_is)
    (case zset => k_is)
    (case zlen => k_is)
    (case zall => k_is)
    (case zmax => k_is)
    (case zisinstance => k_is)
    (case zabs => k_is)
    (case aF => k_is)
    (case lF => k_is)
    (case kF => k_keys)
    (case oF => decide)
    (case vtt1 => k_is)
    (case wtt1 => k_is)
    (case vtt2 => k_is)
    (case wtt2 => k_is)
    (case vtt3 => k_is)
    (case wtt3 => k_is)
    (case vtt4 => k_is)
    (case wtt4 => k_is)
    (case vtt5 => k_is)
    (case wtt5 => k_is)
    (case vkey => k_is)
    (case aK0 => k_is)
    (case lK0 => k_is)
    (case kK0 => k_keys)
    (case oK0 => decide)
    (case vkf0_0 => k_is)
    (case wkf0_0 => k_is)
    (case vkf0_1 => k_is)
    (case wkf0_1 => k_is)
    (case vkf0_2 => k_is)
    (case wkf0_2 => k_is)
    (case vkf0_3 => k_is)
    (case wkf0_3 => k_is)
    (case vkf0_4 => k_is)
    (case wkf0_4 => k_is)
    (case vkf0_5 => k_is)
    (case wkf0_5 => k_is)
    (case vkf0_6 => k_is)
    (case wkf0_6 => k_is)
    (case vkf0_7 => k_is)
    (case wkf0_7 => k_is)
    (case vkf0_8 => k_is)
    (case wkf0_8 => k_is)
    (case vkf0_9 => k_is)
    (case wkf0_9 => k_is)
    (case vkf0_10 => k_is)
    (case wkf0_10 => k_is)
    (case vn0_0 => k_is)
    (case vn0_1 => k_is)
    (case vn0_2 => k_is)
    (case vn0_3 => k_is)
    (case aU0 => k_is)
    (case wku0 => k_is)



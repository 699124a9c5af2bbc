import PyProof.Rows.All
import Wide.All
import OpenK.AllK
import Wide.FinOn
import HandS.ForMost
import HandS.Codes
import HandS.IsInst
import HandS.More
import HandS.OwnEq
import HandS.EndBits
import HandS.Style
import PyProof.Rows.CallKwBuiltin
import KE.KMinKey
import HandS.SortKw
import HandS.Walk
import HandS.Zip
import HandS.TupAny
import HandS.TupMul
import HandS.Dict
import HandS.MethStar
import KE.KUnpackStar
import HandS.DeepEq
import HandS.Iter
import HandS.Wide
import PyProof.P3Eq
import HandS.Conv
import HandS.ExcIs
import KE.RegKIsAll
import HandS.Defaults
import KE.KStateDown
import HandS.Head0
import HandS.Head1
import HandS.Head2
import HandS.HeadHook1
import PySem.Challenge.RW_hermitcell_k22_maps_and_faults_of_tables
set_option Elab.async false
set_option maxRecDepth 100000
set_option maxHeartbeats 4000000
set_option linter.all false
/-! Rules that the layer lacks. -/
namespace Hr
open PySem PySem.SeqAt PyProof.Rows
open AutoSeq1 (wpAny_loadPart')
open MeetsSeq MeetsSeq2 MeetsSeq3 SeqRoads2
/-! ### x in l: the items' == may run code -/
section
variable {prog : Program} {w : World} {A : Around} {E : Value → Shared → Prop}
/-- the list stands still, its items are asked one by one -/
structure Asks (prog : Program) (w : World) (A : Around) (E : Value → Shared → Prop) (l : Addr) (x : Value) (J : Shared → Prop) (bs : List Bool) : Prop where
  at_ : ∀ s, J s → ∃ (items : Array Value) (n : Nat), s.heap.get? l = some { cls := .type "list", data := .seq items n } ∧ items.size = bs.length ∧
    ∀ (i : Nat) (h : i < items.size) (h2 : i < bs.length), wpAny (model prog w) A.in1 (eqBool items[i] x) (fun r s' => r = bs[i] ∧ J s') E s
theorem in_loop {R : Result → Shared → Prop} {l : Addr} {x : Value} {J : Shared → Prop} {bs : List Bool} (hl : Asks prog w A (fun e s' => R (.error e) s') l x J bs) (k : Nat) :
    ∀ i : Nat, bs.length - i = k → ∀ s, J s → (∀ s', J s' → R (.ok (.ret (.bool ((bs.drop i).any id)))) s') →
      wpAny (model prog w) A.in1 (Builtin.«list.__contains__.loop» ⟨[.ref l, x, rawInt i], []⟩) (GQ.FinOf prog w A R) (fun e s' => R (.error e) s') s := by
  induction k with
  | zero =>
    intro i hk s h fin
    obtain ⟨items, n, hg, hz, _⟩ := hl.at_ _ h
    have f := fin s h
    rw [List.drop_eq_nil_of_le (by omega)] at f
    obtain ⟨hp, g, d, tk, os⟩ := s
    wp_walk using wpAny_loadPart' hg
    have hi : items[((i : Nat) : Int).toNat]? = none := by simp; omega
    rw [hi]
    wp_walk
    exact f
  | succ k ih =>
    intro i hk s h fin
    obtain ⟨items, n, hg, hz, turn⟩ := hl.at_ _ h
    have h1 : i < items.size := by omega
    have h2 : i < bs.length := by omega
    have ht := turn i h1 h2
    obtain ⟨hp, g, d, tk, os⟩ := s
    wp_walk using wpAny_loadPart' hg
    have hi : items[((i : Nat) : Int).toNat]? = some items[i] := by simp [h1]
    have hd : (bs.drop i).any id = (bs[i] || (bs.drop (i + 1)).any id) := by rw [List.drop_eq_getElem_cons h2, List.any_cons]; rfl
    rw [hd] at fin
    rw [hi]
    refine wpAny_bind (wpAny_mono ht (fun r s2 q2 => ?_) fun _ _ z => z)
    obtain ⟨hr, j2⟩ := q2
    subst hr
    cases hb : bs[i] with
    | true =>
      rw [hb] at fin
      have f := fin s2 j2
      obtain ⟨hp2, g2, d2, tk2, os2⟩ := s2
      wp_walk
      exact f
    | false =>
      rw [hb] at fin
      have rec_ := ih (i + 1) (by omega) s2 j2 fin
      have hc : ((i : Int) + 1) = ((i + 1 : Nat) : Int) := by omega
      obtain ⟨hp2, g2, d2, tk2, os2⟩ := s2
      wp_walk
      rw [hc]
      exact ⟨plainId_quiet plain_contains_loop _, codeAny_builtin entry_contains_loop (by
        rw [Around.under_plainId plain_contains_loop _]
        exact rec_)⟩
theorem in_list {R : Result → Shared → Prop} {l : Addr} {x : Value} {J : Shared → Prop} {bs : List Bool} (hl : Asks prog w A (fun e s' => R (.error e) s') l x J bs) {s : Shared} (h : J s)
    (fin : ∀ s', J s' → R (.ok (.ret (.bool (bs.any id)))) s') :
    wpAny (model prog w) A.in1 (Builtin.«list.__contains__» ⟨[.ref l, x], []⟩) (GQ.FinOf prog w A R) (fun e s' => R (.error e) s') s := by
  obtain ⟨items, n, hg, hz, _⟩ := hl.at_ _ h
  have rec_ := in_loop (A := A) hl _ 0 rfl s h (by simpa using fin)
  obtain ⟨hp, g, d, tk, os⟩ := s
  wp_walk using wpAny_loadPart' hg
  exact ⟨plainId_quiet plain_contains_loop _, codeAny_builtin entry_contains_loop (by
    rw [Around.under_plainId plain_contains_loop _]
    exact rec_)⟩
theorem call_in {l : Addr} {x : Value} {J : Shared → Prop} {bs : List Bool} {Q : Value → Shared → Prop} (hl : Asks prog w A E l x J bs) {s : Shared} (h : J s) (fin : ∀ s', J s' → Q (.bool (bs.any id)) s') :
    wpAny (model prog w) A (call (.builtin "list.__contains__") [.ref l, x]) Q E s := by
  obtain ⟨items, n, hg, _, _⟩ := hl.at_ _ h
  exact GQ.call_here F.slot_list_contains ⟨_, hg, rfl⟩ F.entry_list_contains (F.args_list_contains_2 _ _) (in_list (R := wants Q E) hl h fin)
theorem op_in_ {l : Addr} {x : Value} {J : Shared → Prop} {bs : List Bool} {Q : Value → Shared → Prop} (hl : Asks prog w A E l x J bs) {s : Shared} (h : J s) (fin : ∀ s', J s' → Q (.bool (bs.any id)) s') :
    wpAny (model prog w) A (compareOp .In x (.ref l)) Q E s := by
  obtain ⟨items, n, hg, _, _⟩ := hl.at_ _ h
  show wpAny _ _ (do return .bool (← contains (.ref l) x)) Q E s
  refine wpAny_bind (wpAny_contains_slot ⟨_, hg, rfl⟩ F.slot_list_contains ?_)
  exact call_in hl h fun s' j => wpAny_truthy_bool (wpAny_pure (fin s' j))
theorem op_notIn_ {l : Addr} {x : Value} {J : Shared → Prop} {bs : List Bool} {Q : Value → Shared → Prop} (hl : Asks prog w A E l x J bs) {s : Shared} (h : J s) (fin : ∀ s', J s' → Q (.bool (!bs.any id)) s') :
    wpAny (model prog w) A (compareOp .NotIn x (.ref l)) Q E s := by
  obtain ⟨items, n, hg, _, _⟩ := hl.at_ _ h
  show wpAny _ _ (do return .bool (!(← contains (.ref l) x))) Q E s
  refine wpAny_bind (wpAny_contains_slot ⟨_, hg, rfl⟩ F.slot_list_contains ?_)
  exact call_in hl h fun s' j => wpAny_truthy_bool (wpAny_pure (fin s' j))
end
end Hr

namespace Hr
open PySem PySem.Spec PyProof.Rows L2
/-! ### t[::-1] of a tuple -/
section
variable {prog : Program} {w : World} {A : Around} {E : Value → Shared → Prop} {s : Shared}
theorem rev_adj (n : Nat) : Builtin.Slice.sliceAdjust none none (-1) (n : Int) = ((n : Int) - 1, -1) := rfl
theorem rev_places (n : Nat) : Builtin.Slice.slicePlaces ((n : Int) - 1) (-1) (-1) = n := by
  unfold Builtin.Slice.slicePlaces
  rw [if_neg (by decide)]
  by_cases h : (n : Int) - 1 > -1
  · rw [if_pos h, show (-(-1) : Int) = 1 by decide, Int.ediv_one]; omega
  · rw [if_neg h]; omega
theorem rev_pick (xs : Array Value) : ((List.range xs.size).filterMap fun (m : Nat) => xs[((xs.size : Int) - 1 + (m : Int) * -1).toNat]?).toArray = xs.toList.reverse.toArray := by
  congr 1
  have key : ∀ m, m < xs.size → xs[((xs.size : Int) - 1 + (m : Int) * -1).toNat]? = xs.toList.reverse[m]? := fun m hm => by
    rw [List.getElem?_reverse (by simpa using hm), Array.length_toList, ← Array.getElem?_toList]
    congr 1
    omega
  have aux : ∀ (l : List Value), (List.range l.length).filterMap (fun m => l[m]?) = l := fun l => by
    induction l with
    | nil => rfl
    | cons x r ih =>
      rw [List.length_cons, List.range_succ_eq_map, List.filterMap_cons]
      show x :: _ = _
      rw [List.filterMap_map]
      exact congrArg (x :: ·) ih
  have e := aux xs.toList.reverse
  rw [List.length_reverse, Array.length_toList] at e
  have cong : ∀ (f g : Nat → Option Value) (l : List Nat), (∀ m ∈ l, f m = g m) → l.filterMap f = l.filterMap g := fun f g l => by
    induction l with
    | nil => exact fun _ => rfl
    | cons x r ih =>
      intro h
      rw [List.filterMap_cons, List.filterMap_cons, h x List.mem_cons_self, ih fun m hm => h m (List.mem_cons_of_mem _ hm)]
  exact (cong _ _ _ fun m hm => key m (List.mem_range.mp hm)).trans e
theorem getItem_tuple_rev {t sl : Addr} {items : Array Value} {vs : Value} {Q : Value → Shared → Prop} (ht : IsTup s.heap t items) (hs : s.heap.IsSliceOf sl .none .none vs) (ps : IsPart vs (some (-1)))
    (h : Q (.ref s.heap.objs.size) { s with heap := s.heap.push { cls := .type "tuple", data := .seq items.toList.reverse.toArray } }) (hz : items.size ≤ sizeLine) : wpAny (model prog w) A (getItem (.ref t) (.ref sl)) Q E s := by
  have hok : sizeOk (.seq items.toList.reverse.toArray) := by
    show items.toList.reverse.toArray.size ≤ sizeLine
    rw [List.size_toArray, List.length_reverse, Array.length_toList]; exact hz
  obtain ⟨os, hos, hcs, hds⟩ := id hs
  have hT : s.TypeIs (.ref sl) "slice" := ⟨os, hos, hcs⟩
  unfold getItem
  try with_reducible refine wpAny_holding ?_
  first | refine wpAny_bind (wpAny_pure ?_) | skip
  refine wpAny_bind (wpAny_sequenceKey ht.typeIs (by decide) ?_)
  refine wpAny_bind (wpAny_callSpecial?_slot (name := Str.ofString "__getitem__") ht.typeIs PyProof.Rows.slot_tuple_getitem
    (wpAny_call_entry PyProof.Rows.slot_tuple_getitem ht.typeIs entry_tuple_getitem ?_ (args_tuple_getitem _ _)))
  show wpAny _ _ (Builtin.Tuple.tupleItemsOf (.ref t) >>= _) _ _ s
  refine wpAny_bind (tupleItemsOf_ ht ?_)
  refine wpAny_bind (wpAny_typeOf hT ?_)
  rw [if_pos (by decide)]
  have happ : ∀ {Q' : Int × Int × Nat → Shared → Prop} {E' : Value → Shared → Prop} {A' : Around}, Q' ((items.size : Int) - 1, -1, items.size) s → wpAny (model prog w) A' (Builtin.Slice.sliceApplied (.ref sl) (pure (items.size : Int))) Q' E' s := fun {Q' E' A'} q => by
    unfold Builtin.Slice.sliceApplied Builtin.Slice.sliceFields
    refine wpAny_bind (wpAny_bind (wpAny_field hos hds (x := .none) rfl (wpAny_bind (wpAny_field hos hds (x := .none) rfl (wpAny_bind (wpAny_field hos hds (x := vs) rfl (wpAny_pure ?_)))))))
    cases ps with
    | int i u =>
      refine wpAny_bind (slicePart_int ?_)
      show wpAny _ _ (if ((-1 : Int) == 0) = true then _ else _) _ _ s
      rw [if_neg (by decide)]
      refine wpAny_bind (slicePart_none (wpAny_bind (slicePart_none (wpAny_bind (wpAny_pure ?_)))))
      show wpAny _ _ (match Builtin.Slice.sliceAdjust none none (-1) (items.size : Int) with | (lo, hi) => pure (lo, (-1 : Int), Builtin.Slice.slicePlaces lo hi (-1))) _ _ s
      rw [rev_adj]
      show wpAny _ _ (pure ((items.size : Int) - 1, (-1 : Int), Builtin.Slice.slicePlaces ((items.size : Int) - 1) (-1) (-1))) _ _ s
      rw [rev_places]
      exact wpAny_pure q
  refine wpAny_bind (happ ?_)
  show wpAny _ _ (if (((items.size : Int) - 1) == 0 && (-1 : Int) == 1 && items.size == items.size) = true then _ else _) _ _ s
  rw [if_neg (by simp), rev_pick]
  first
    | exact wpAny_bind (m := Builtin.Tuple.tupleExact _) (wpAny_newObj_type (wpAny_pure ⟨_, rfl, wpAny_pure h⟩) hok)
    | exact wpAny_bind (m := Builtin.Tuple.tupleExact _) (wpAny_newObj_type (wpAny_bind (wpAny_pure (wpAny_pure ⟨_, rfl, wpAny_pure h⟩))) hok)
    | exact wpAny_bind (wpAny_bind (m := Builtin.Tuple.tupleExact _) (wpAny_newObj_type (wpAny_pure (wpAny_pure ⟨_, rfl, wpAny_pure h⟩)) hok))
    | exact wpAny_bind (wpAny_bind (m := Builtin.Tuple.tupleExact _) (wpAny_newObj_type (wpAny_pure ⟨_, rfl, wpAny_pure h⟩) hok))
end
def tRevT (K : PySem.W.Frag) (te : TE) : TE := fun σ H Q => te σ H fun x H1 => ∃ a xs, x = .ref a ∧ SqT K H1 a xs ∧ ∀ p, H1 p = none → Q (.ref p) (upd H1 p (.tup xs.reverse))
theorem pe_revT {X : Cx} {e : Expr} {te : TE} {k : Nat} {p1 p2 p3 pos : Pos} (he : PE X e te) : PE X (.Subscript e (.Slice none none (some (.UnaryOp .USub (.Constant (.int 1) k p1) p2)) p3) pos) (tRevT X.K te) := by
  refine ⟨fun pins s σ H Q I h => ?_⟩
  refine Subscript_ (thn (he.run pins s σ H _ I h) fun v s1 ⟨x, H1, I1, r1, a, xs, ex, hx, q⟩ => ?_)
  subst ex
  cases r1
  have part : PO X (some (.UnaryOp .USub (.Constant (.int 1) k p1) p2)) (tPart (tUn (rU fun i => .int (-i)) (tC (.int 1)))) := po_some (pe_un un_neg pe_int)
  refine wpAny_Slice (thn (po_none.run pins s1 σ H1 (fun o H2 => o = none ∧ H2 = H1) I1 ⟨rfl, rfl⟩) fun vl s2 ⟨l, H2, I2, pl, el, e2⟩ => ?_)
  subst el e2
  refine thn (po_none.run pins s2 σ H2 (fun o H3 => o = none ∧ H3 = H2) I2 ⟨rfl, rfl⟩) fun vu s3 ⟨u, H3, I3, pu, eu, e3⟩ => ?_
  subst eu e3
  refine thn (part.run pins s3 σ H3 (fun o H4 => o = some (-1) ∧ H4 = H3) I3 ⟨1, rfl, -1, rfl, rfl, rfl⟩) fun vs s4 ⟨o, H4, I4, ps, eo, e4⟩ => ?_
  subst eo e4
  have I5 : Inv X pins σ H4 { s4 with heap := s4.heap.push { cls := .type "slice", data := .fields #[vl, vu, vs] } } := I4.kept (t' := s4.toks) fun b ob z => Heap.get?_push_of_some _ z
  obtain ⟨its, r, ht, hz⟩ := I5.tuple hx
  have hlen := r.length
  show wpAny (model X.prog X.w) X.A (subscriptTail e (.Slice none none (some (.UnaryOp .USub (.Constant (.int 1) k p1) p2)) p3) (.ref a) (.ref s4.heap.objs.size)) (EP X pins σ Q) X.xe { s4 with heap := s4.heap.push { cls := .type "slice", data := .fields #[vl, vu, vs] } }
  cases pl
  cases pu
  refine tail_any (ops := [.ref a, .ref s4.heap.objs.size]) ht.typeIs PyProof.Rows.slot_tuple_getitem.lookup ?_ (by with_unfolding_all rfl)
  refine getItem_tuple_rev ht (Heap.IsSliceOf.new _ .none .none vs) ps ?_ (by rw [List.size_toArray]; omega)
  refine ⟨.ref _, _, I5.laid (t' := s4.toks) (o := .tup xs.reverse) (fun b ob z => Heap.get?_push_of_some _ z) (Nat.le_refl _) ?_, rfl, q _ (I5.hok.fresh (Nat.le_refl _))⟩
  exact ⟨by rw [List.length_reverse]; exact hz, its.toArray.toList.reverse, by simpa using r.reverse, IsTup.new _ _⟩
end Hr

namespace Hr
open PySem PySem.Spec PyProof.Rows
/-! ### max(xs, default=d) -/
section
variable {prog : Program} {w : World} {A : Around} {R : Result → Shared → Prop} {I : Addr} {fp wr : List Addr} {n : Nat} {P : Nat → Value → Prop} {St : Nat → Heap → Prop} {kw : List (Str × Value)}
theorem max_loopK (W : Walks prog w A.in1 I fp wr n P St) (bt : Nat → Nat → Bool) (hcmp : CmpOf prog w A.in1 .Gt P bt) (S : Addr) (hSf : S ∉ fp) :
    ∀ (k j : Nat) (s : Shared) (vb : Value) (c : Nat), n - (j + 1) = k → j + 1 ≤ n → St (j + 1) s.heap → P (argBest bt j) vb →
    s.heap.get? S = some { cls := .type "list", dict := none, data := .seq #[vb, vb] c, slots := #[] } →
    (∀ v h' tk, P (argBest bt (n - 1)) v → (∀ b o, b ∉ wr → b ≠ S → s.heap.get? b = some o → h'.get? b = some o) → R (.ok (.ret v)) { s with heap := h', toks := tk }) →
    codeAny (model prog w) A (.builtin "max.loop" ⟨[.ref I, .none, .ref S], kw⟩) R s := by
  have hSw : S ∉ wr := fun h => hSf (W.sub _ h)
  have nm : (toString "max" ++ toString ".loop" : String) = "max.loop" := by decide
  intro k
  induction k with
  | zero =>
    intro j s vb c hk hj hst hPb hS hR
    have hin : j + 1 = n := by omega
    refine codeAny_builtin F.entry_max_loop ?_
    rw [Around.under_plainId F.plain_max_loop _]
    show wpAny _ A.in1 (seqItems? (.ref S) >>= _) _ _ s
    refine wpAny_bind (wpAny_seqItems hS rfl ?_)
    show wpAny _ A.in1 (tryCatch (pyNext (.ref I)) _ >>= _) _ _ s
    refine wpAny_bind (wpAny_tryCatch (W.done s _ _ (hin ▸ hst) fun h' tk hk' => ?_))
    have hS' := hk' S _ hSw hS
    show wpAny _ A.in1 (updateSeq S (fun _ => #[]) >>= _) _ _ _
    refine wpAny_bind ?_
    refine wpAny_updateSeq hS' rfl (wpAny_bind (wpAny_letGo (wpAny_pure ?_)))
    exact hR vb _ tk (by rw [← hin]; exact hPb) fun b o hbw hbS e => (Heap.get?_update_other _ _ (Ne.symm hbS)).trans (hk' b o hbw e)
  | succ k ih =>
    intro j s vb c hk hj hst hPb hS hR
    have hlt : j + 1 < n := by omega
    refine codeAny_builtin F.entry_max_loop ?_
    rw [Around.under_plainId F.plain_max_loop _]
    show wpAny _ A.in1 (seqItems? (.ref S) >>= _) _ _ s
    refine wpAny_bind (wpAny_seqItems hS rfl ?_)
    show wpAny _ A.in1 (tryCatch (pyNext (.ref I)) _ >>= _) _ _ s
    refine wpAny_bind (wpAny_tryCatch (W.item (j + 1) s _ _ hlt hst fun v h' tk hP hst' hk' => ?_))
    have hS' := hk' S _ hSw hS
    show wpAny _ A.in1 (tryCatch (holding [v, v] (richCompare .Gt v vb >>= _)) _ >>= _) _ _ _
    refine wpAny_bind (wpAny_tryCatch (wpAny_holding (wpAny_bind (hcmp (j + 1) (argBest bt j) v vb _ _ _ hP hPb ?_))))
    refine wpAny_bind (wpAny_holding (wpAny_truthy_bool ?_))
    refine wpAny_bind (wpAny_letGo (wpAny_pure ?_))
    cases hb : bt (j + 1) (argBest bt j) with
    | true =>
      simp only [if_true]
      refine wpAny_bind ?_
      refine wpAny_updateSeq hS' rfl (wpAny_bind (wpAny_letGo ?_))
      rw [nm]
      refine wpAny_pure ⟨plainId_quiet F.plain_max_loop _, ih (j + 1) _ v _ (by omega) hlt (W.frame _ _ _ hst' fun b hbf o e => ?_) (by simp only [argBest, hb, if_true]; exact hP) (Heap.get?_update_self _ hS' rfl)
        fun v' h'' tk'' hP' hk'' => ?_⟩
      · exact (Heap.get?_update_other _ _ (fun h : S = b => hSf (by rw [h]; exact hbf))).trans e
      · exact hR v' h'' tk'' hP' fun b o hbw hbS e => hk'' b o hbw hbS ((Heap.get?_update_other _ _ (Ne.symm hbS)).trans (hk' b o hbw e))
    | false =>
      simp only [Bool.false_eq_true, if_false]
      refine wpAny_bind (wpAny_letGo ?_)
      rw [nm]
      refine wpAny_pure ⟨plainId_quiet F.plain_max_loop _, ih (j + 1) _ vb c (by omega) hlt hst' (by simp only [argBest, hb, Bool.false_eq_true, if_false]; exact hPb) hS' fun v' h'' tk'' hP' hk'' => ?_⟩
      exact hR v' h'' tk'' hP' fun b o hbw hbS e => hk'' b o hbw hbS (hk' b o hbw e)
theorem max_firstK (W : Walks prog w A.in1 I fp wr n P St) (bt : Nat → Nat → Bool) (hcmp : CmpOf prog w A.in1 .Gt P bt) (S : Addr) (hSf : S ∉ fp) (hn : 0 < n) {s : Shared} {c : Nat} (hst : St 0 s.heap)
    (hS : s.heap.get? S = some { cls := .type "list", dict := none, data := .seq #[] c, slots := #[] })
    (hR : ∀ v h' tk, P (argBest bt (n - 1)) v → (∀ b o, b ∉ wr → b ≠ S → s.heap.get? b = some o → h'.get? b = some o) → R (.ok (.ret v)) { s with heap := h', toks := tk }) :
    codeAny (model prog w) A (.builtin "max.loop" ⟨[.ref I, .none, .ref S], kw⟩) R s := by
  have hSw : S ∉ wr := fun h => hSf (W.sub _ h)
  have nm : (toString "max" ++ toString ".loop" : String) = "max.loop" := by decide
  refine codeAny_builtin F.entry_max_loop ?_
  rw [Around.under_plainId F.plain_max_loop _]
  show wpAny _ A.in1 (seqItems? (.ref S) >>= _) _ _ s
  refine wpAny_bind (wpAny_seqItems hS rfl ?_)
  show wpAny _ A.in1 (tryCatch (pyNext (.ref I)) _ >>= _) _ _ s
  refine wpAny_bind (wpAny_tryCatch (W.item 0 s _ _ hn hst fun v h' tk hP hst' hk' => ?_))
  have hS' := hk' S _ hSw hS
  show wpAny _ A.in1 (updateSeq S (fun _ => #[v, v]) >>= _) _ _ _
  refine wpAny_bind ?_
  refine wpAny_updateSeq hS' rfl ?_
  rw [nm]
  refine wpAny_pure ⟨plainId_quiet F.plain_max_loop _, max_loopK W bt hcmp S hSf _ 0 _ v _ rfl hn (W.frame _ _ _ hst' fun b hbf o e => ?_) hP (Heap.get?_update_self _ hS' rfl) fun v' h'' tk'' hP' hk'' => ?_⟩
  · exact (Heap.get?_update_other _ _ (fun h : S = b => hSf (by rw [h]; exact hbf))).trans e
  · exact hR v' h'' tk'' hP' fun b o hbw hbS e => hk'' b o hbw hbS ((Heap.get?_update_other _ _ (Ne.symm hbS)).trans (hk' b o hbw e))
/-- nothing there: the default -/
theorem max_noneK {d : Value} (W : Walks prog w A.in1 I fp wr 0 P St) (S : Addr) (hSf : S ∉ fp) {s : Shared} {c : Nat} (hst : St 0 s.heap)
    (hS : s.heap.get? S = some { cls := .type "list", dict := none, data := .seq #[] c, slots := #[] })
    (hR : ∀ h' tk, (∀ b o, b ∉ wr → b ≠ S → s.heap.get? b = some o → h'.get? b = some o) → R (.ok (.ret d)) { s with heap := h', toks := tk }) :
    codeAny (model prog w) A (.builtin "max.loop" ⟨[.ref I, .none, .ref S], [(Str.ofString "default", d)]⟩) R s := by
  refine codeAny_builtin F.entry_max_loop ?_
  rw [Around.under_plainId F.plain_max_loop _]
  show wpAny _ A.in1 (seqItems? (.ref S) >>= _) _ _ s
  refine wpAny_bind (wpAny_seqItems hS rfl ?_)
  show wpAny _ A.in1 (tryCatch (pyNext (.ref I)) _ >>= _) _ _ s
  refine wpAny_bind (wpAny_tryCatch (W.done s _ _ hst fun h' tk hk' => ?_))
  exact wpAny_bind (wpAny_rule (wpAny_pure (hR h' tk fun b o hbw _ e => hk' b o hbw e)))
end
theorem max_default_args (a v : Value) : argsOk "max" ⟨[a], [(Str.ofString "default", v)]⟩ := by unfold argsOk; kernel_rfl
section
variable {prog : Program} {w : World} {A : Around} {E : Value → Shared → Prop} {s : Shared}
theorem call_maxD {l : Addr} {xs : Array (Int × Tok)} {d : Value} {Q : Value → Shared → Prop} (hh : A.handled = none) (hl : s.heap.IsList l (intItems xs))
    (h : ∀ v h' tk, (xs.size = 0 ∧ v = d ∨ 0 < xs.size ∧ (intItems xs)[argBest (fun i j => decide (numAt xs i > numAt xs j)) (xs.size - 1)]? = some v) → (∀ b o, s.heap.get? b = some o → h'.get? b = some o) → Q v { s with heap := h', toks := tk }) :
    wpAny (model prog w) A (call (.builtin "max") [.ref l] [(Str.ofString "default", d)]) Q E s := by
  have nm : (toString "max" ++ toString ".loop" : String) = "max.loop" := by decide
  refine PyProof.Rows.kmk_tree F.kind_max F.plain_max F.entry_max (max_default_args _ _) ?_
  show wpAny _ A.in1 (Builtin.Builtins.bindParams "max" ["key", "default"] 0 ⟨[], [(Str.ofString "default", d)]⟩ >>= _) _ _ s
  refine wpAny_bind (wpAny_of_eq (show Builtin.Builtins.bindParams "max" ["key", "default"] 0 ⟨[], [(Str.ofString "default", d)]⟩ = pure [none, some d] from rfl) ?_)
  refine wpAny_bind (wpAny_pure ?_)
  refine wpAny_bind (iter_intList hl fun s₂ e st hfp hlI => ?_)
  subst e
  refine wpAny_bind (wpAny_newObj_type ?_)
  have W := Walks.list (prog := prog) (w := w) (A := A.in1) hh s.heap.objs.size l hlI (intItems xs)
  have hSf : (s.heap.push { cls := .type "list_iterator", data := .fields #[.ref l, .int 0 0] }).objs.size ∉ [s.heap.objs.size, l] := fun hm => Nat.lt_irrefl _ (hfp _ hm)
  have hz : (intItems xs).size = xs.size := by simp [intItems]
  rw [nm]
  refine wpAny_pure ⟨plainId_quiet F.plain_max_loop _, ?_⟩
  have fin : ∀ v h' tk, (xs.size = 0 ∧ v = d ∨ 0 < xs.size ∧ (intItems xs)[argBest (fun i j => decide (numAt xs i > numAt xs j)) (xs.size - 1)]? = some v) →
      (∀ b o, b ∉ [s.heap.objs.size] → b ≠ (s.heap.push { cls := .type "list_iterator", data := .fields #[.ref l, .int 0 0] }).objs.size →
        ((s.heap.push { cls := .type "list_iterator", data := .fields #[.ref l, .int 0 0] }).push { cls := .type "list", data := .seq #[] }).get? b = some o → h'.get? b = some o) →
      wants Q E (.ok (.ret v)) { s with heap := h', toks := tk } := fun v h' tk hv hk => by
    refine h v h' tk hv (old_kept (l := l) fun b o hb e => ?_)
    exact hk b o hb (Nat.ne_of_lt (Heap.lt_size e)) (Heap.get?_push_of_some _ e)
  by_cases hn : 0 < xs.size
  · refine max_firstK W _ (CmpOf.ints_gt (numAt xs) (fun _ _ => intItems_at)) _ hSf (by rw [hz]; exact hn) (W.frame _ _ _ st fun b _ o e => Heap.get?_push_of_some _ e) (Heap.get?_push_size _ rfl) fun v h' tk hP hk => ?_
    exact fin v h' tk (.inr ⟨hn, by rw [hz] at hP; exact hP⟩) hk
  · have hn0 : xs.size = 0 := by omega
    have W0 : Walks prog w A.in1 s.heap.objs.size [s.heap.objs.size, l] [s.heap.objs.size] 0 (fun i v => (intItems xs)[i]? = some v) (fun i h => h.IsListIter s.heap.objs.size l i ∧ h.IsList l (intItems xs)) := by
      have W' := W
      rw [hz, hn0] at W'
      exact W'
    refine max_noneK W0 _ hSf (W.frame _ _ _ st fun b _ o e => Heap.get?_push_of_some _ e) (Heap.get?_push_size _ rfl) fun h' tk hk => ?_
    exact fin d h' tk (.inl ⟨hn0, rfl⟩) hk
end
end Hr

namespace Hr
open PySem PySem.Spec PyProof.Rows L2
def rMaxD (K : PySem.W.Frag) : List V → List V → Hp → VK → Prop := fun vs zs H Q => ∃ (a : Addr) (ns : List Int) (d : Int), vs = [.ref a] ∧ zs = [.int d] ∧ SqL K H a (ns.map V.int) ∧
  ∀ m, (ns = [] → m = d) → (ns ≠ [] → m ∈ ns ∧ ∀ k ∈ ns, k ≤ m) → Q (.int m) H
theorem call_maxDK {X : Cx} (hc : X.calm = true) : CallRK X (.builtin "max") [Str.ofString "default"] (rMaxD X.K) := by
  intro pins s σ H xs zs us ws Q I r1 r2 h
  obtain ⟨a, ns, d, rfl, rfl, hs, q⟩ := h
  obtain ⟨its, rv, pl, hz⟩ := I.list hs
  rw [Vals.ref1 r1]
  obtain ⟨wd, rfl, rd⟩ := vals1 r2
  obtain ⟨td, rfl⟩ := rd
  have hi : IntsAre its ns := intsAre_of rv
  obtain ⟨ps, e⟩ := hi.allInts.items
  have hns : ns = ps.toList.map (·.1) := by rw [← hi.numsOf, ← nums_intItems, ← e]
  have hl := pl.isList
  rw [e] at hl
  show wpAny (model X.prog X.w) X.A (call (.builtin "max") [.ref a] [(Str.ofString "default", .int d td)]) (EP X pins σ Q) X.xe s
  refine call_maxD (I.ok.hd hc) hl fun v h' tk hv hk => ?_
  have I2 : Inv X pins σ H { s with heap := h', toks := tk } := I.kept fun b o z => hk b o z
  rcases hv with ⟨h0, rfl⟩ | ⟨hp, hv⟩
  · have hn0 : ns = [] := by
      rw [hns, List.map_eq_nil_iff]
      exact List.eq_nil_of_length_eq_zero (by rw [Array.length_toList]; exact h0)
    exact ⟨.int d, H, I2, ⟨_, rfl⟩, q d (fun _ => rfl) (fun z => absurd hn0 z)⟩
  · obtain ⟨t, rfl⟩ := intItems_at hv
    obtain ⟨h1, h2⟩ := argBest_gt (numAt ps) (ps.size - 1)
    refine ⟨.int _, H, I2, ⟨_, rfl⟩, q _ (fun z => ?_) fun _ => ⟨?_, fun k hk' => ?_⟩⟩
    · rw [hns, List.map_eq_nil_iff] at z
      have z2 : ps.size = 0 := by rw [← Array.length_toList, z]; rfl
      omega
    · rw [hns, numAt_eq]; exact getD_mem (by rw [List.length_map, Array.length_toList]; omega)
    · rw [hns] at hk'
      obtain ⟨j, hj, rfl⟩ := mem_getD hk'
      rw [List.length_map, Array.length_toList] at hj
      rw [← numAt_eq]; exact h2 j (by omega)
/-! ### plain data with atoms -/
inductive D where
  | non | bl (b : Bool) | int (i : Int) | str (s : Str) | tup (ds : List D) | lst (ds : List D) | dct | atom (k : Str) (ds : List D)
mutual
def rank : D → Nat
  | .tup ds => rankL ds
  | .atom k ds => if k = "seal" ∨ k = "page" then 1 else rankL ds + 1
  | _ => 0
def rankL : List D → Nat
  | [] => 0
  | d :: ds => max (rank d) (rankL ds)
end
mutual
/-- how many parts there are, those in atoms too -/
def sz : D → Nat
  | .tup ds => szL ds + 1
  | .lst ds => szL ds + 1
  | .atom _ ds => szL ds + 1
  | _ => 1
def szL : List D → Nat
  | [] => 0
  | d :: ds => sz d + szL ds
end
/-- the fields of an atom -/
def atF (k : Str) (t : Addr) (r : Nat) : List (Str × V) := [("kind", .str k), ("term", .ref t), ("rank", .int (r : Int)), ("_stripped", .non)]
mutual
inductive Is (C : Addr) (H : Hp) : V → D → Prop
  | non : Is C H .non .non
  | bl (b : Bool) : Is C H (.bl b) (.bl b)
  | int (i : Int) : Is C H (.int i) (.int i)
  | str (s : Str) : Is C H (.str s) (.str s)
  | tup {a : Addr} {xs : List V} {ds : List D} (h : H a = some (.tup xs)) (t : IsA C H xs ds) : Is C H (.ref a) (.tup ds)
  | lst {a : Addr} {xs : List V} {ds : List D} (h : H a = some (.lst xs)) (t : IsA C H xs ds) : Is C H (.ref a) (.lst ds)
  | dct {a : Addr} {kvs : List (Key × V)} (h : H a = some (.dK kvs)) : Is C H (.ref a) .dct
  | atom {a dx t : Addr} {k : Str} {xs : List V} {ds : List D} (h : H a = some (.ins C dx (atF k t (rank (.atom k ds))))) (h2 : H t = some (.tup xs)) (t : IsA C H xs ds) : Is C H (.ref a) (.atom k ds)
inductive IsA (C : Addr) (H : Hp) : List V → List D → Prop
  | nil : IsA C H [] []
  | cons {x : V} {xs : List V} {d : D} {ds : List D} (h : Is C H x d) (t : IsA C H xs ds) : IsA C H (x :: xs) (d :: ds)
end
mutual
theorem Is.same {C : Addr} {H H' : Hp} (e : Same H H') : ∀ {x : V} {d : D}, Is C H x d → Is C H' x d
  | _, _, .non => .non
  | _, _, .bl b => .bl b
  | _, _, .int i => .int i
  | _, _, .str s => .str s
  | _, _, .tup h t => .tup (e _ _ h) (IsA.same e t)
  | _, _, .lst h t => .lst (e _ _ h) (IsA.same e t)
  | _, _, .dct h => .dct (e _ _ h)
  | _, _, .atom h h2 t => .atom (e _ _ h) (e _ _ h2) (IsA.same e t)
theorem IsA.same {C : Addr} {H H' : Hp} (e : Same H H') : ∀ {xs : List V} {ds : List D}, IsA C H xs ds → IsA C H' xs ds
  | _, _, .nil => .nil
  | _, _, .cons h t => .cons (Is.same e h) (IsA.same e t)
end
theorem IsA.len {C : Addr} {H : Hp} : ∀ {xs : List V} {ds : List D}, IsA C H xs ds → xs.length = ds.length
  | _, _, .nil => rfl
  | _, _, .cons _ t => congrArg (· + 1) t.len
theorem IsA.at {C : Addr} {H : Hp} : ∀ {xs : List V} {ds : List D} {i : Nat} {x : V}, IsA C H xs ds → xs[i]? = some x → ∃ d, ds[i]? = some d ∧ Is C H x d
  | _, _, _, _, .nil, h => by simp at h
  | _, _, 0, _, .cons h _, e => by simp at e; subst e; exact ⟨_, rfl, h⟩
  | _, _, i + 1, _, .cons _ t, e => by
    obtain ⟨d, h1, h2⟩ := IsA.at (i := i) t (by simpa using e)
    exact ⟨d, by simpa using h1, h2⟩
theorem IsA.get {C : Addr} {H : Hp} : ∀ {xs : List V} {ds : List D} {i : Nat} {d : D}, IsA C H xs ds → ds[i]? = some d → ∃ x, xs[i]? = some x ∧ Is C H x d
  | _, _, _, _, .nil, h => by simp at h
  | _, _, 0, _, .cons h _, e => by simp at e; subst e; exact ⟨_, rfl, h⟩
  | _, _, i + 1, _, .cons _ t, e => by
    obtain ⟨d, h1, h2⟩ := IsA.get (i := i) t (by simpa using e)
    exact ⟨d, by simpa using h1, h2⟩
theorem IsA.app {C : Addr} {H : Hp} : ∀ {xs ys : List V} {ds es : List D}, IsA C H xs ds → IsA C H ys es → IsA C H (xs ++ ys) (ds ++ es)
  | _, _, _, _, .nil, t => t
  | _, _, _, _, .cons h u, t => .cons h (u.app t)
theorem IsA.rev {C : Addr} {H : Hp} : ∀ {xs : List V} {ds : List D}, IsA C H xs ds → IsA C H xs.reverse ds.reverse
  | _, _, .nil => .nil
  | _, _, .cons h t => by
    rw [List.reverse_cons, List.reverse_cons]
    exact t.rev.app (.cons h .nil)
theorem IsA.concat {C : Addr} {H : Hp} : ∀ {xs : List V} {ds : List D} {e : D}, IsA C H xs (ds.concat e) → ∃ ys y, xs = ys ++ [y] ∧ IsA C H ys ds ∧ Is C H y e
  | _, [], _, .cons h .nil => ⟨[], _, rfl, .nil, h⟩
  | _, d :: ds, e, .cons h t => by
    obtain ⟨ys, y, e1, h1, h2⟩ := IsA.concat (ds := ds) (e := e) t
    exact ⟨_ :: ys, y, by rw [e1]; rfl, .cons h h1, h2⟩
theorem rankL_app : ∀ (a b : List D), rankL (a ++ b) = max (rankL a) (rankL b)
  | [], b => by simp [rankL]
  | x :: a, b => by rw [List.cons_append]; simp only [rankL]; rw [rankL_app a b]; omega
theorem szL_app : ∀ (a b : List D), szL (a ++ b) = szL a + szL b
  | [], b => by simp [szL]
  | x :: a, b => by rw [List.cons_append]; simp only [szL]; rw [szL_app a b]; omega
theorem szL_rev : ∀ (a : List D), szL a.reverse = szL a
  | [] => rfl
  | x :: a => by rw [List.reverse_cons, szL_app, szL_rev a]; simp only [szL]; omega
theorem sz_pos (d : D) : 1 ≤ sz d := by cases d <;> simp [sz]
theorem len_szL : ∀ (a : List D), a.length ≤ szL a
  | [] => Nat.le_refl _
  | x :: a => by
    have := len_szL a
    have := sz_pos x
    simp only [szL, List.length_cons]; omega
/-! ### kinds of values -/
def kyV (C : Addr) : D → V
  | .non => .ty "NoneType" | .bl _ => .ty "bool" | .int _ => .ty "int" | .str _ => .ty "str" | .tup _ => .ty "tuple" | .lst _ => .ty "list" | .dct => .ty "dict" | .atom _ _ => .ref C
def kyU (C : Addr) : D → Value
  | .non => .type "NoneType" | .bl _ => .type "bool" | .int _ => .type "int" | .str _ => .type "str" | .tup _ => .type "tuple" | .lst _ => .type "list" | .dct => .type "dict" | .atom _ _ => .ref C
def rTyA (C : Addr) : List V → Hp → VK → Prop := fun xs H Q => ∃ x d, xs = [x] ∧ Is C H x d ∧ Q (kyV C d) H
/-- what is known of the class at C -/
structure Cl (K : PySem.W.Frag) (C : Addr) : Prop where
  cl : Cls K C
  ha : PySem.W.findIn K (.ref C) "__class__" = some (some (.builtin "object.__class__"))
  hn : PySem.W.specialIn K (.builtin "object.__class__") "__get__" = some (some (.builtin "getset_descriptor.__get__"))
  htk : PySem.W.takesIn K (.builtin "object.__class__") = some true
  hm : PySem.W.mroIn K C (.type "object") = some true
  me : PySem.W.kitOne K (.ref C) (.ref C) = some true
  mi : PySem.W.makesIn K C = true
  nK : NoAttr K C "kind"
  nT : NoAttr K C "term"
  nR : NoAttr K C "rank"
  nS : NoAttr K C "_stripped"
section
variable {X : Cx} {C : Addr}
theorem Is.tyX {K : PySem.W.Frag} {H : Hp} (T : Cl K C) {x : V} {d : D} (h : Is C H x d) : TyX K H x (kyU C d) := by
  cases h with
  | non => exact .base .non
  | bl b => exact .base (.bl b)
  | int i => exact .base (.int i)
  | str s => exact .base (.str s)
  | tup h _ => exact .base (.tup h)
  | lst h _ => exact .base (.lst h)
  | dct h => exact .base (.dK h)
  | atom h _ _ => exact .base (.ins h T.cl T.ha T.hn T.htk T.hm)
theorem call_typeA : CallR X (.type "type") (rTyA C) := fun pins s σ H xs us Q I r h => by
  obtain ⟨x, d, e, t, q⟩ := h
  cases t with
  | non => exact call_type1 pins s σ H xs us Q I r ⟨_, _, e, .non, q⟩
  | bl b => exact call_type1 pins s σ H xs us Q I r ⟨_, _, e, .bl b, q⟩
  | int i => exact call_type1 pins s σ H xs us Q I r ⟨_, _, e, .int i, q⟩
  | str z => exact call_type1 pins s σ H xs us Q I r ⟨_, _, e, .str z, q⟩
  | tup h _ => exact call_type1 pins s σ H xs us Q I r ⟨_, _, e, .tup (SqT.of h), q⟩
  | lst h _ => exact call_type1 pins s σ H xs us Q I r ⟨_, _, e, .lst (SqL.of h), q⟩
  | dct h => exact call_type1 pins s σ H xs us Q I r ⟨_, _, e, .dK h, q⟩
  | atom h _ _ => exact cr_type pins s σ H xs us Q I r ⟨_, _, _, _, e, h, q⟩
/-- a type is a type: of built-in ones, and of the class at C -/
def TyOk (C : Addr) (x : V) : Prop := (∃ n, x = .ty n) ∨ x = .ref C
def rIsTyA (C : Addr) : R2 := fun x y H Q => TyOk C x ∧ TyOk C y ∧ Q (.bl (decide (x = y))) H
def rIsNotTyA (C : Addr) : R2 := fun x y H Q => TyOk C x ∧ TyOk C y ∧ Q (.bl (!decide (x = y))) H
theorem kyV_ok (d : D) : TyOk C (kyV C d) := by cases d <;> first | exact .inl ⟨_, rfl⟩ | exact .inr rfl
theorem op_isTyA : OpR X (compareOp .Is) (rIsTyA C) := by
  intro pins s σ H x y v u Q I rx ry h
  obtain ⟨hx, hy, q⟩ := h
  rcases hx with ⟨m, rfl⟩ | rfl <;> rcases hy with ⟨n, rfl⟩ | rfl
  · exact op_isTy pins s σ H _ _ v u Q I rx ry ⟨m, n, rfl, rfl, by simpa using q⟩
  · cases (show v = Value.type m from rx)
    cases (show u = Value.ref _ from ry)
    exact wpAny_is_other rfl (fun z => nomatch z) ⟨.bl false, H, I, rfl, by simpa using q⟩
  · cases (show v = Value.ref _ from rx)
    cases (show u = Value.type n from ry)
    exact wpAny_is_other rfl (fun z => nomatch z) ⟨.bl false, H, I, rfl, by simpa using q⟩
  · exact op_is_cls pins s σ H _ _ v u Q I rx ry ⟨C, C, rfl, rfl, .inl rfl, by simpa using q⟩
theorem op_isNotTyA : OpR X (compareOp .IsNot) (rIsNotTyA C) := by
  intro pins s σ H x y v u Q I rx ry h
  obtain ⟨hx, hy, q⟩ := h
  rcases hx with ⟨m, rfl⟩ | rfl <;> rcases hy with ⟨n, rfl⟩ | rfl
  · exact op_isNotTy pins s σ H _ _ v u Q I rx ry ⟨m, n, rfl, rfl, by simpa using q⟩
  · cases (show v = Value.type m from rx)
    cases (show u = Value.ref _ from ry)
    exact wpAny_isNot_other rfl (fun z => nomatch z) ⟨.bl true, H, I, rfl, by simpa using q⟩
  · cases (show v = Value.ref _ from rx)
    cases (show u = Value.type n from ry)
    exact wpAny_isNot_other rfl (fun z => nomatch z) ⟨.bl true, H, I, rfl, by simpa using q⟩
  · exact op_isnot_cls pins s σ H _ _ v u Q I rx ry ⟨C, C, rfl, rfl, .inl rfl, by simpa using q⟩
/-- isinstance(x, c): c a built-in type or the class at C -/
def rIsiA (K : PySem.W.Frag) (C : Addr) : List V → Hp → VK → Prop := fun xs H Q => ∃ x d c u b, xs = [x, c] ∧ Is C H x d ∧ ClsV c u ∧ PySem.W.kitOne K (kyU C d) u = some b ∧ Q (.bl b) H
theorem call_isiA (T : Cl X.K C) : CallR X (.builtin "isinstance") (rIsiA X.K C) := fun pins s σ H xs us Q I r h => by
  obtain ⟨x, d, c, u, b, e, t, k, kt, q⟩ := h
  exact call_isi pins s σ H xs us Q I r ⟨x, c, _, _, b, e, k, t.tyX T, kt, q⟩
end
mutual
theorem Is.uniq {C : Addr} {H : Hp} : ∀ {x : V} {d e : D}, Is C H x d → Is C H x e → d = e
  | _, _, _, .non, .non => rfl
  | _, _, _, .bl _, .bl _ => rfl
  | _, _, _, .int _, .int _ => rfl
  | _, _, _, .str _, .str _ => rfl
  | _, _, _, .tup h t, g => by
    cases g with
    | tup h' t' =>
      rw [h] at h'
      cases h'
      rw [IsA.uniq t t']
    | lst h' _ => rw [h] at h'; cases h'
    | dct h' => rw [h] at h'; cases h'
    | atom h' _ _ => rw [h] at h'; cases h'
  | _, _, _, .lst h t, g => by
    cases g with
    | lst h' t' =>
      rw [h] at h'
      cases h'
      rw [IsA.uniq t t']
    | tup h' _ => rw [h] at h'; cases h'
    | dct h' => rw [h] at h'; cases h'
    | atom h' _ _ => rw [h] at h'; cases h'
  | _, _, _, .dct h, g => by
    cases g with
    | dct h' => rfl
    | tup h' _ => rw [h] at h'; cases h'
    | lst h' _ => rw [h] at h'; cases h'
    | atom h' _ _ => rw [h] at h'; cases h'
  | _, _, _, .atom h h2 t, g => by
    cases g with
    | tup h' _ => rw [h] at h'; cases h'
    | lst h' _ => rw [h] at h'; cases h'
    | dct h' => rw [h] at h'; cases h'
    | atom h' h2' t' =>
      have e := Option.some.inj (h.symm.trans h')
      unfold atF at e
      injection e with e1 e2 e3
      injection e3 with e4 e5
      injection e5 with e6 e7
      have ek := V.str.inj (congrArg Prod.snd e4)
      have et := V.ref.inj (congrArg Prod.snd e6)
      subst ek
      subst et
      rw [h2] at h2'
      cases h2'
      rw [IsA.uniq t t']
theorem IsA.uniq {C : Addr} {H : Hp} : ∀ {xs : List V} {ds es : List D}, IsA C H xs ds → IsA C H xs es → ds = es
  | _, _, _, .nil, .nil => rfl
  | _, _, _, .cons h t, .cons h' t' => by rw [Is.uniq h h', IsA.uniq t t']
end
end Hr

namespace Hr
open PySem PySem.SeqAt PyProof.Rows
open AutoSeq1 (wpAny_loadPart')
open MeetsSeq MeetsSeq2 MeetsSeq3 SeqRoads2
theorem ext_tup (l : Addr) (items : Array Value) (n : Nat) (b : Addr) (items2 : Array Value) (n2 : Nat) (dd : Option Addr) (sl : Array (Option Value)) (hs0 : ¬(!items.isEmpty && Builtin.List.listTooLong (items.size + items2.size)) = true) (hs1 : items.size ≤ sizeLine) (hs2 : items.size + items2.size ≤ sizeLine + 1) :
    Meets (Builtin.«list.extend» ⟨[.ref l, .ref b], []⟩) (fun _ R s => s.heap.get? l = some { cls := .type "list", dict := none, data := .seq items n, slots := #[] } ∧ s.heap.get? b = some { cls := .type "tuple", dict := dd, data := .seq items2 n2, slots := sl } ∧
      R (.ok (.ret Value.none)) { s with heap := s.heap.update l (Obj.mapSeq fun x => x ++ items2), toks := s.toks }) :=
  .of_wp fun prog w A R s h => by
    obtain ⟨hp, g, d, tk, os⟩ := s
    obtain ⟨hl, hb, h⟩ := h
    have g1 := AutoSeq1.sub_tuple_tuple
    have g2 := AutoSeq1.sub_list_list
    have g3 := AutoSeq1.sub_tuple_list
    have g4 := AutoSeq1.sub_list_tuple
    have hz' : (items ++ items2).size ≤ sizeLine + 1 := by rw [Array.size_append]; exact hs2
    wp_walk using (wpAny_updateSeq hl rfl (hz := hs1) (_hz' := hz')), wpAny_loadPart' hl, wpAny_loadPart' hb
    exact ⟨_, rfl, h⟩
end Hr
namespace Hr
open PySem PySem.Spec PyProof.Rows L2
/-- xs.extend(t), t a tuple -/
def rExtT : V → List V → Hp → VK → Prop := fun x vs H Q => ∃ l b xs zs, x = .ref l ∧ vs = [.ref b] ∧ H l = some (.lst xs) ∧ H b = some (.tup zs) ∧ xs.length + zs.length ≤ sizeLine ∧ Q .non (upd H l (.lst (xs ++ zs)))
theorem mt_extendT {X : Cx} : MtM X "list.extend" rExtT := by
  intro pins s σ H x vs v us Q I rx rv h
  obtain ⟨l, b, xs, zs, rfl, rfl, hH, hB, hz, q⟩ := h
  cases rx
  obtain ⟨u, rfl, ru⟩ := rv.one
  cases ru
  obtain ⟨z, its, n, r, hl, e⟩ := I.lstM hH
  obtain ⟨its2, r2, ⟨⟨oc, od, dt, sl⟩, e2, hc2, n2, hd2⟩, hz2⟩ := I.tuple (SqT.of hB)
  simp only at hc2 hd2
  subst hc2 hd2
  have hl2 := r2.length
  have hsz : its.toArray.size + its2.toArray.size ≤ sizeLine := by rw [List.size_toArray, List.size_toArray]; omega
  have hlong : ¬ (!its.toArray.isEmpty && Builtin.List.listTooLong (its.toArray.size + its2.toArray.size)) = true := by
    rw [notLongL hsz, Bool.and_false]
    exact Bool.false_ne_true
  refine call_meets F.slot_list_extend ⟨_, e, rfl⟩ F.entry_list_extend (F.args_list_extend_2 _ _)
    (ext_tup l its.toArray n b its2.toArray n2 od sl hlong (by rw [List.size_toArray]; omega) (by omega)) ⟨e, e2, ?_⟩
  refine ⟨.non, _, I.lset (its' := its ++ its2) hH e (by simp) (r.append r2) ?_, rfl, q⟩
  rw [List.length_append]
  omega
end Hr

namespace Hc
open PySem PySem.Spec PyProof.Rows L2 Hr
def top (i : Nat) : Stmt := PySem.Challenge.pw_hermitcell_k22_maps_and_faults_of_tables.main.body.getD i (.Pass ⟨0, 0, 0, 0⟩)
theorem bt_type : bootBuiltins "type" = some (.type "type") := by decide +kernel
theorem bt_int : bootBuiltins "int" = some (.type "int") := by decide +kernel
theorem bt_str : bootBuiltins "str" = some (.type "str") := by decide +kernel
theorem bt_bool : bootBuiltins "bool" = some (.type "bool") := by decide +kernel
theorem bt_tuple : bootBuiltins "tuple" = some (.type "tuple") := by decide +kernel
theorem bt_list : bootBuiltins "list" = some (.type "list") := by decide +kernel
theorem bt_dict : bootBuiltins "dict" = some (.type "dict") := by decide +kernel
theorem bt_range : bootBuiltins "range" = some (.type "range") := by decide +kernel
theorem bt_zip : bootBuiltins "zip" = some (.type "zip") := by decide +kernel
theorem bt_len : bootBuiltins "len" = some (.builtin "len") := by decide +kernel
theorem bt_all : bootBuiltins "all" = some (.builtin "all") := by decide +kernel
theorem bt_max : bootBuiltins "max" = some (.builtin "max") := by decide +kernel
theorem bt_isinstance : bootBuiltins "isinstance" = some (.builtin "isinstance") := by decide +kernel
theorem bt_abs : bootBuiltins "abs" = some (.builtin "abs") := by decide +kernel
theorem bt_sorted : bootBuiltins "sorted" = some (.builtin "sorted") := by decide +kernel
theorem bt_enumerate : bootBuiltins "enumerate" = some (.type "enumerate") := by decide +kernel
/-- a tuple of texts in the written part -/
def KTup (K : PySem.W.Frag) (a : Addr) (ts : List Str) : Prop := ∀ H : Hp, SqT K H a (ts.map V.str)
def statesL : List Str := ["host", "free", "desc", "table", "cpu", "running", "data"]
/-- what the top has -/
structure Txt (K : PySem.W.Frag) (mg : Str → Option Value) (w : World) (C : Addr) : Prop where
  cl : Cl K C
  g_Atom : mg "Atom" = some (.ref C)
  z_type : mg "type" = none
  z_int : mg "int" = none
  z_str : mg "str" = none
  z_bool : mg "bool" = none
  z_tuple : mg "tuple" = none
  z_list : mg "list" = none
  z_dict : mg "dict" = none
  z_range : mg "range" = none
  z_zip : mg "zip" = none
  z_len : mg "len" = none
  z_all : mg "all" = none
  z_max : mg "max" = none
  z_isinstance : mg "isinstance" = none
  z_abs : mg "abs" = none
  z_sorted : mg "sorted" = none
  z_enumerate : mg "enumerate" = none
  c_LEAST : ∃ u, mg "LEAST" = some u ∧ RelV (.int (-2147483648)) u
  c_GREATEST : ∃ u, mg "GREATEST" = some u ∧ RelV (.int (2147483647)) u
  c_MOST_CHARACTERS : ∃ u, mg "MOST_CHARACTERS" = some u ∧ RelV (.int (24)) u
  c_MOST_DEEP : ∃ u, mg "MOST_DEEP" = some u ∧ RelV (.int (40)) u
  c_MOST_RANK : ∃ u, mg "MOST_RANK" = some u ∧ RelV (.int (40)) u
  c_MOST_RANK_HOST : ∃ u, mg "MOST_RANK_HOST" = some u ∧ RelV (.int (36)) u
  c_GRANULES : ∃ u, mg "GRANULES" = some u ∧ RelV (.int (24)) u
  c_WORDS : ∃ u, mg "WORDS" = some u ∧ RelV (.int (4)) u
  c_PROCESSORS : ∃ u, mg "PROCESSORS" = some u ∧ RelV (.int (3)) u
  c_PAGES : ∃ u, mg "PAGES" = some u ∧ RelV (.int (16)) u
  c_FIRST_SHARED : ∃ u, mg "FIRST_SHARED" = some u ∧ RelV (.int (8)) u
  states : ∃ t, (∃ u, mg "STATES" = some u ∧ RelV (.ref t) u) ∧ KTup K t statesL
  forms : ∃ Fo t1 t2 t3 t4 t5, (∃ u, mg "_FORMS" = some u ∧ RelV (.ref Fo) u) ∧ (∃ es n, KDict K w Fo es n) ∧
    KDct K w Fo "token" (.ref t1) ∧ KDct K w Fo "challenge" (.ref t2) ∧ KDct K w Fo "seal" (.ref t3) ∧ KDct K w Fo "page" (.ref t4) ∧ KDct K w Fo "ticket" (.ref t5) ∧ PySem.W.nsIn K Fo "key" = some none ∧
    KTup K t1 ["text", "tuple", "word"] ∧ KTup K t2 ["text", "number"] ∧ KTup K t3 ["text", "number", "number", "hidden"] ∧ KTup K t4 ["text", "number", "number", "hidden"] ∧ KTup K t5 ["text", "number", "text", "tuple", "pages", "tuple"]
  kit : ∀ (d : D) (n : String), n ∈ ["int", "str", "tuple", "bool", "list", "dict"] → PySem.W.kitOne K (kyU C d) (.type n) = some (match d with | .int _ => n == "int" | .bl _ => n == "int" || n == "bool" | .str _ => n == "str" | .tup _ => n == "tuple" | .lst _ => n == "list" | .dct => n == "dict" | _ => false)
  kitC : ∀ d : D, PySem.W.kitOne K (kyU C d) (.ref C) = some (match d with | .atom _ _ => true | _ => false)
end Hc

namespace Hc
open PySem PySem.Spec PyProof.Rows L2 Hr
theorem ifT {p A B : Prop} [Decidable p] (hp : p) (h : A) : if decide p = true then A else B := by
  rw [decide_eq_true hp]; exact iteT h
theorem ifF {p A B : Prop} [Decidable p] (hp : ¬ p) (h : B) : if decide p = true then A else B := by
  rw [decide_eq_false hp]; exact iteF h
theorem bT {b : Bool} {A B : Prop} (hb : b = true) (h : A) : if b = true then A else B := by
  rw [hb]; exact iteT h
theorem bF {b : Bool} {A B : Prop} (hb : b = false) (h : B) : if b = true then A else B := by
  rw [hb]; exact iteF h
theorem bcase {b : Bool} {A B : Prop} (h1 : b = true → A) (h2 : b = false → B) : if b = true then A else B := by
  cases b with
  | true => exact iteT (h1 rfl)
  | false => exact iteF (h2 rfl)
/-- a comprehension without a test -/
theorem yes {σ : L2.St} {H : Hp} {A B : Hp → Prop} (h : A H) : tYes σ H fun b H3 => if b = true then A H3 else B H3 := by
  show (if true = true then A H else B H)
  exact iteT h
theorem same_new {q : Addr} {H : Hp} {o : HO} (h : H q = none) : Same H (L2.upd H q o) := fun c x e => by rw [upd_ne (ne_of_none e h)]; exact e
theorem sfree {H H' : Hp} (e : Same H H') {p : Addr} (h : H' p = none) : H p = none := e.free h
/-! ### what the defs tell -/
def numOk (i : Int) : Bool := decide (-2147483648 ≤ i) && decide (i ≤ 2147483647)
def isNum : D → Bool | .int i => numOk i | _ => false
def sgn (c : Nat) : Bool := decide (32 ≤ c) && decide (c ≤ 126)
def txtOk (s : Str) : Bool := decide (s.length ≤ 24) && s.cps.toList.all sgn
def isTxt : D → Bool | .str s => txtOk s | _ => false
/-- one value is asked; new objects may be made -/
def spB (C : Addr) (ok : D → Prop) (f : D → Bool) : Sp := fun vs H Q _ => ∃ x d, vs = [x] ∧ Is C H x d ∧ ok d ∧ ∀ H', Same H H' → Q (.bl (f d)) H'
theorem kyV_int {C : Addr} {d : D} : (kyV C d = .ty "int") ↔ ∃ i, d = .int i := by cases d <;> simp [kyV]
theorem kyV_str {C : Addr} {d : D} : (kyV C d = .ty "str") ↔ ∃ i, d = .str i := by cases d <;> simp [kyV]
theorem kyV_tup {C : Addr} {d : D} : (kyV C d = .ty "tuple") ↔ ∃ i, d = .tup i := by cases d <;> simp [kyV]
theorem kyV_atom {C : Addr} {d : D} : (kyV C d = .ref C) ↔ ∃ k i, d = .atom k i := by cases d <;> simp [kyV]
section
variable {P : Program} {w : World} {K : PySem.W.Frag} {mg : Str → Option Value} {base : Heap} {f : Addr} {fd : FuncData} {C : Addr}
abbrev s_is_number : Stmt := top 12
theorem sc_is_number : FnScope ["value"] ["value"] (C8.fnScope s_is_number) := C8.fnScope_by (by decide +kernel)
theorem ok_is_number (F : C8.Def K mg "is_number" s_is_number f fd) (b : Binds K fd ["value"] []) (T : Txt K mg w C) : C8.Cal P w K mg base 1 "is_number" (spB C (fun _ => True) isNum) [] := by
  refine C8.cal0 F b .nil sc_is_number (fun vs H Q E h => ?_) (fun cdv A outer s H vs Q E hr h => ?_)
  · obtain ⟨x, d, rfl, _⟩ := h; rfl
  obtain ⟨x, d, rfl, hx, _, q⟩ := h
  refine ⟨_, (pss_one (ps_ret (pe_and (pe_cmpR (op_isTyA (C := C)) (pe_callTy (call_typeA (C := C)) rfl T.z_type bt_type (pa_cons (pv 0) pa_nil)) (pe_bltn (v := .ty "int") rfl T.z_int bt_int rfl) (nomark _)) (pe_one (pe_chain op_le op_le (C8.pe_gc rfl T.c_LEAST) (pv 0) (C8.pe_gc rfl T.c_GREATEST)))))), ?_⟩
  have q := q H (Same.refl H)
  refine ⟨x, rfl, x, d, rfl, hx, kyV_ok d, .inl ⟨_, rfl⟩, _, rfl, ?_⟩
  by_cases c : kyV C d = .ty "int"
  · refine ifT c ?_
    obtain ⟨i, rfl⟩ := kyV_int.mp c
    cases hx
    refine ⟨_, rfl, _, _, rfl, rfl, _, rfl, ite2 (fun c => ?_) (fun c => ?_)⟩
    · refine ⟨_, _, rfl, rfl, ?_⟩
      have e : isNum (.int i) = decide (i ≤ 2147483647) := by simp [isNum, numOk, of_decide_eq_true c]
      rw [e] at q; exact q
    · have e : isNum (.int i) = false := by simp [isNum, numOk] at c ⊢; omega
      rw [e] at q; exact q
  · have e : isNum d = false := by cases d <;> first | rfl | exact absurd rfl c
    rw [e] at q
    exact ifF c q
/-- signs between the space and the tilde -/
theorem lt_one (a b : Nat) : decide (([a] : List Nat) < [b]) = decide (a < b) := by
  by_cases h : a < b
  · rw [decide_eq_true h]; exact decide_eq_true (List.cons_lt_cons_iff.mpr (.inl h))
  · rw [decide_eq_false h]
    refine decide_eq_false fun z => ?_
    rcases List.cons_lt_cons_iff.mp z with z | ⟨_, z⟩
    · exact h z
    · cases z
abbrev s_is_text : Stmt := top 13
theorem sc_is_text : FnScope ["value", "character"] ["value"] (C8.fnScope s_is_text) := C8.fnScope_by (by decide +kernel)
theorem ok_is_text (F : C8.Def K mg "is_text" s_is_text f fd) (b : Binds K fd ["value"] []) (T : Txt K mg w C) : C8.Cal P w K mg base 1 "is_text" (spB C (fun d => ∀ s, d = .str s → s.length ≤ sizeLine) isTxt) [] := by
  refine C8.cal0 F b .nil sc_is_text (fun vs H Q E h => ?_) (fun cdv A outer s H vs Q E hr h => ?_)
  · obtain ⟨x, d, rfl, _⟩ := h; rfl
  obtain ⟨x, d, rfl, hx, hz, q⟩ := h
  refine ⟨_, (pss_cons (ps_if (PW.pt (pw_or (pt_cmpR (op_isNotTyA (C := C)) (pe_callTy (call_typeA (C := C)) rfl T.z_type bt_type (pa_cons (pv 0) pa_nil)) (pe_bltn (v := .ty "str") rfl T.z_str bt_str rfl) (nomark _)) (pw_or1 (pt_cmpR op_gt (pe_callB call_len_str rfl T.z_len bt_len (pa_cons (pv 0) pa_nil)) (C8.pe_gc rfl T.c_MOST_CHARACTERS) (nomark _))))) (pss_one (ps_ret pe_bl)) pss_nil)
      (pss_one (ps_ret (pe_callB (cr_all rfl) rfl T.z_all bt_all (pa_cons (pe_lc (own := [("character", 1)]) (g := gName 1) rfl sc_is_text.nd (pi_str (pv 0)) (blkOk_by (own := [("character", 1)]) (N := ["value", "character"]) (sc := C8.fnScope s_is_text) (by decide +kernel)) (fun _ _ _ _ _ => (pg_name (i := 1) sc_is_text.nd rfl (Or.inl rfl))) (fun _ _ _ _ _ => pts_nil) (fun _ _ _ _ _ => (pe_chain op_le_str op_le_str pe_str (pv 1) pe_str))) pa_nil))))), ?_⟩
  refine ⟨x, rfl, x, d, rfl, hx, kyV_ok d, .inl ⟨_, rfl⟩, _, rfl, ?_⟩
  by_cases c : kyV C d = .ty "str"
  · rw [decide_eq_true c]
    obtain ⟨z, rfl⟩ := kyV_str.mp c
    cases hx
    refine iteF ⟨_, rfl, z, rfl, hz z rfl, _, _, rfl, rfl, _, rfl, ite2 (fun c => ?_) (fun c => ?_)⟩
    · have e : isTxt (.str z) = false := by
        simp only [isTxt, txtOk]
        rw [decide_eq_false (by simp at c; omega)]; rfl
      have q := q H (Same.refl H)
      rw [e] at q; exact q
    · have hlen : z.length ≤ 24 := by simp at c; omega
      have e : isTxt (.str z) = z.cps.toList.all sgn := by
        simp only [isTxt, txtOk]
        rw [decide_eq_true hlen]; rfl
      rw [e] at q
      refine ⟨_, rfl, z, rfl, fun Dl hD => ?_⟩
      refine lc_it (walk_str (z := z)) (fun i H' => Same H H' ∧ H' Dl = some (.lst ((z.cps.toList.take i).map fun c => V.bl (sgn c)))) ⟨same_new hD, upd_same⟩ (fun _ _ _ _ => trivial) ?_ ?_
      · rintro i y H0 H1 hi ⟨s1, hl⟩ ⟨rfl, c, hc, rfl⟩
        have hc' : z.cps.toList[i]? = some c := by rw [Array.getElem?_toList]; exact hc
        have go : ∀ H3, H3 = upd H1 Dl (.lst ((z.cps.toList.take i).map (fun c => V.bl (sgn c)) ++ [.bl (sgn c)])) → Same H H3 ∧ H3 Dl = some (.lst ((z.cps.toList.take (i + 1)).map fun c => V.bl (sgn c))) := fun H3 e3 => by
          subst e3
          refine ⟨fun p o hp => by rw [upd_ne (ne_of_none hp hD)]; exact s1 p o hp, ?_⟩
          rw [upd_same, List.take_add_one, hc', List.map_append]; rfl
        have hn : ((z.cps.toList.take i).map fun c => V.bl (sgn c)).length < sizeLine := by
          have h1 : z.cps.size = z.length := rfl
          rw [List.length_map, List.length_take, Array.length_toList]
          exact small1000 (by omega)
        refine ⟨rfl, yes ?_⟩
        refine ⟨_, rfl, _, _, rfl, rfl, _, rfl, ?_⟩
        have e1 : (!decide (([c] : List Nat) < [32])) = decide (32 ≤ c) := by
          rw [lt_one]; by_cases h : c < 32
          · rw [decide_eq_true h, decide_eq_false (by omega)]; rfl
          · rw [decide_eq_false h, decide_eq_true (by omega)]; rfl
        have e2 : (!decide (([126] : List Nat) < [c])) = decide (c ≤ 126) := by
          rw [lt_one]; by_cases h : 126 < c
          · rw [decide_eq_true h, decide_eq_false (by omega)]; rfl
          · rw [decide_eq_false h, decide_eq_true (by omega)]; rfl
        refine bcase (b := !decide (([c] : List Nat) < [32])) (fun hb => ?_) (fun hb => ?_)
        · refine ⟨_, _, rfl, rfl, _, hl, hn, go _ ?_⟩
          have : (!decide (([126] : List Nat) < [c])) = sgn c := by rw [e2]; rw [e1] at hb; simp only [sgn]; rw [hb, Bool.true_and]
          exact congrArg (fun k => upd H1 Dl (.lst ((z.cps.toList.take i).map (fun c => V.bl (sgn c)) ++ [.bl k]))) this
        · refine ⟨_, hl, hn, go _ ?_⟩
          have : false = sgn c := by rw [e1] at hb; simp only [sgn]; rw [hb, Bool.false_and]
          exact congrArg (fun k => upd H1 Dl (.lst ((z.cps.toList.take i).map (fun c => V.bl (sgn c)) ++ [.bl k]))) this
      · rintro H1 ⟨s1, hl⟩
        have ea : z.cps.toList.take z.cps.size = z.cps.toList := List.take_of_length_le (by rw [Array.length_toList]; exact Nat.le_refl _)
        rw [ea] at hl
        refine ⟨Dl, z.cps.toList.map sgn, rfl, SqL.of (by rw [List.map_map]; exact hl), ?_⟩
        have e9 : (z.cps.toList.map sgn).all id = z.cps.toList.all sgn := by rw [List.all_map]; rfl
        rw [e9]
        exact q H1 s1
  · have e : isTxt d = false := by cases d <;> first | rfl | exact absurd rfl c
    have q := q H (Same.refl H)
    rw [e] at q
    rw [decide_eq_false c]
    exact iteT q
end
end Hc

namespace Hc
open PySem PySem.Spec PyProof.Rows L2 Hr
mutual
/-- a word, nested so deep at most -/
def okW (md mr : Nat) : Nat → D → Bool
  | n, .tup ds => decide (n ≠ md) && okA md mr (n + 1) ds
  | _, .atom k ds => decide (rank (.atom k ds) ≤ mr)
  | _, .non => true
  | _, .int i => numOk i
  | _, .str s => txtOk s
  | _, _ => false
def okA (md mr : Nat) : Nat → List D → Bool
  | _, [] => true
  | n, d :: ds => okW md mr n d && okA md mr n ds
end
mutual
/-- no text is too long for the model's len -/
def txl : D → Prop
  | .str s => s.length ≤ sizeLine
  | .tup ds => txlL ds
  | .lst ds => txlL ds
  | .atom _ ds => txlL ds
  | _ => True
def txlL : List D → Prop
  | [] => True
  | d :: ds => txl d ∧ txlL ds
end
/-- data of a size that the lists bear -/
def Fit (d : D) : Prop := sz d ≤ 1000000 ∧ txl d
theorem okA_app (md mr n : Nat) : ∀ a b : List D, okA md mr n (a ++ b) = (okA md mr n a && okA md mr n b)
  | [], b => by simp [okA]
  | x :: a, b => by rw [List.cons_append]; simp only [okA]; rw [okA_app md mr n a b, Bool.and_assoc]
theorem okA_rev (md mr n : Nat) : ∀ a : List D, okA md mr n a.reverse = okA md mr n a
  | [] => rfl
  | x :: a => by rw [List.reverse_cons, okA_app, okA_rev md mr n a]; simp only [okA]; rw [Bool.and_true, Bool.and_comm]
theorem txlL_mem : ∀ {ds : List D} {d : D}, txlL ds → d ∈ ds → txl d
  | x :: ds, d, h, hd => by
    simp only [txlL] at h
    rcases List.mem_cons.mp hd with rfl | hd
    · exact h.1
    · exact txlL_mem h.2 hd
/-- the stack: pairs of a part and how deep it lies; the parts stood ahead of the call -/
inductive Stk (C : Addr) (H0 H : Hp) : List V → List (D × Nat) → Prop
  | nil : Stk C H0 H [] []
  | cons {q : Addr} {x : V} {d : D} {n : Nat} {xs : List V} {ps : List (D × Nat)} (h : H q = some (.tup [x, .int (n : Int)])) (hx : Is C H0 x d) (t : Stk C H0 H xs ps) : Stk C H0 H (.ref q :: xs) ((d, n) :: ps)
/-- the tuples stand -/
def Tups (H H' : Hp) : Prop := ∀ b xs, H b = some (.tup xs) → H' b = some (.tup xs)
theorem Tups.put {H : Hp} {l : Addr} {xs ys : List V} (h : H l = some (.lst xs)) : Tups H (L2.upd H l (.lst ys)) := fun b zs e => by
  rw [upd_ne (fun z => by rw [z, h] at e; cases e)]; exact e
theorem Tups.trans {H H1 H2 : Hp} (a : Tups H H1) (b : Tups H1 H2) : Tups H H2 := fun c xs h => b c xs (a c xs h)
theorem Tups.of {H H1 : Hp} (a : Same H H1) : Tups H H1 := fun c xs h => a c _ h
theorem Stk.keep {C : Addr} {H0 H H' : Hp} (e : Tups H H') : ∀ {xs : List V} {ps : List (D × Nat)}, Stk C H0 H xs ps → Stk C H0 H' xs ps
  | _, _, .nil => .nil
  | _, _, .cons h hx t => .cons (e _ _ h) hx (t.keep e)
theorem Stk.len {C : Addr} {H0 H : Hp} : ∀ {xs : List V} {ps : List (D × Nat)}, Stk C H0 H xs ps → xs.length = ps.length
  | _, _, .nil => rfl
  | _, _, .cons _ _ t => congrArg (· + 1) t.len
theorem Stk.app {C : Addr} {H0 H : Hp} : ∀ {xs ys : List V} {ps qs : List (D × Nat)}, Stk C H0 H xs ps → Stk C H0 H ys qs → Stk C H0 H (xs ++ ys) (ps ++ qs)
  | _, _, _, _, .nil, t => t
  | _, _, _, _, .cons h hx u, t => .cons h hx (u.app t)
theorem Stk.last {C : Addr} {H0 H : Hp} : ∀ {xs : List V} {ps : List (D × Nat)}, Stk C H0 H xs ps → ps ≠ [] → ∃ (q : Addr) (x : V) (d : D) (n : Nat) (ys : List V) (qs : List (D × Nat)), xs = ys ++ [.ref q] ∧ ps = qs ++ [(d, n)] ∧ H q = some (.tup [x, .int (n : Int)]) ∧ Is C H0 x d ∧ Stk C H0 H ys qs
  | _, _, .nil, h => absurd rfl h
  | _, _, .cons (ps := []) h hx .nil, _ => ⟨_, _, _, _, [], [], rfl, rfl, h, hx, .nil⟩
  | _, _, .cons (ps := p :: ps) h hx t, _ => by
    obtain ⟨q, x, d, n, ys, qs, e1, e2, h1, h2, h3⟩ := t.last (List.cons_ne_nil _ _)
    rw [e1, e2]
    exact ⟨q, x, d, n, _ :: ys, _ :: qs, rfl, rfl, h1, h2, .cons h hx h3⟩
/-- a list that is no argument of ours changes: what stood stays -/
theorem same_put {H H' : Hp} {l : Addr} {o : HO} (s : Same H H') (h : H l = none) : Same H (L2.upd H' l o) := fun b u e => by
  rw [upd_ne (ne_of_none e h)]; exact s b u e
def okS (md mr : Nat) : List (D × Nat) → Bool
  | [] => true
  | p :: ps => okW md mr p.2 p.1 && okS md mr ps
def szS : List (D × Nat) → Nat
  | [] => 0
  | p :: ps => sz p.1 + szS ps
theorem okS_app (md mr : Nat) : ∀ a b, okS md mr (a ++ b) = (okS md mr a && okS md mr b)
  | [], b => by simp [okS]
  | x :: a, b => by rw [List.cons_append]; simp only [okS]; rw [okS_app md mr a b, Bool.and_assoc]
theorem szS_app : ∀ a b, szS (a ++ b) = szS a + szS b
  | [], b => by simp [szS]
  | x :: a, b => by rw [List.cons_append]; simp only [szS]; rw [szS_app a b]; omega
theorem len_szS : ∀ a : List (D × Nat), a.length ≤ szS a
  | [] => Nat.le_refl _
  | x :: a => by
    have := len_szS a
    have := sz_pos x.1
    simp only [szS, List.length_cons]; omega
theorem okS_map (md mr n : Nat) : ∀ ds : List D, okS md mr (ds.map fun d => (d, n)) = okA md mr n ds
  | [] => by simp [okS, okA]
  | d :: ds => by simp only [List.map_cons, okS, okA]; rw [okS_map md mr n ds]
theorem szS_map (n : Nat) : ∀ ds : List D, szS (ds.map fun d => (d, n)) = szL ds
  | [] => by simp [szS, szL]
  | d :: ds => by simp only [List.map_cons, szS, szL]; rw [szS_map n ds]
def spWithin (C : Addr) : Sp := fun vs H Q _ => ∃ x d, ∃ md mr : Nat, vs = [x, .int (md : Int), .int (mr : Int)] ∧ Is C H x d ∧ Fit d ∧ ∀ H', Same H H' → Q (.bl (okW md mr 0 d)) H'
section
variable {P : Program} {w : World} {K : PySem.W.Frag} {mg : Str → Option Value} {base : Heap} {f : Addr} {fd : FuncData} {C : Addr}
abbrev s__is_within : Stmt := top 18
theorem sc__is_within : FnScope ["value", "most_deep", "most_rank", "todo", "part", "deep", "each"] ["value", "most_deep", "most_rank"] (C8.fnScope s__is_within) := C8.fnScope_by (by decide +kernel)
theorem ok__is_within (F : C8.Def K mg "_is_within" s__is_within f fd) (b : Binds K fd ["value", "most_deep", "most_rank"] []) (T : Txt K mg w C) (c_is_number : C8.Cal P w K mg base 1 "is_number" (spB C (fun _ => True) isNum) [])
    (c_is_text : C8.Cal P w K mg base 1 "is_text" (spB C (fun d => ∀ s, d = .str s → s.length ≤ sizeLine) isTxt) []) : C8.Cal P w K mg base 2 "_is_within" (spWithin C) [] := by
  refine C8.cal0 F b .nil sc__is_within (fun vs H Q E h => ?_) (fun cdv A outer s H vs Q E hr h => ?_)
  · obtain ⟨x, d, md, mr, rfl, _⟩ := h; rfl
  obtain ⟨x, d, md, mr, rfl, hx, hz, q⟩ := h
  refine ⟨_, (pss_cons (ps_set (i := 3) sc__is_within.nd rfl (Or.inl rfl) (pe_lst (pa_cons (pe_tup (pa_cons (pv 0) (pa_cons pe_int pa_nil))) pa_nil)))
      (pss_cons (ps_while PassesOwn.never (pt_truth (pv 3) (fun _ => rfl))
      (pss_cons (ps_asg (pe_bm0 PySem.F.plainAttrs_list PySem.F.slot_list_pop PySem.F.type_list_pop mt_pop (pv 3)) (pg_tup rfl (pgs_cons (pg_name (i := 4) sc__is_within.nd rfl (Or.inl rfl)) (pgs_cons (pg_name (i := 5) sc__is_within.nd rfl (Or.inr rfl)) pgs_nil))))
      (pss_one (ps_if (pt_cmpR (op_isTyA (C := C)) (pe_callTy (call_typeA (C := C)) rfl T.z_type bt_type (pa_cons (pv 4) pa_nil)) (pe_bltn (v := .ty "tuple") rfl T.z_tuple bt_tuple rfl) (nomark _)) (pss_cons (ps_if (pt_cmpR op_eq (pv 5) (pv 1) (nomark _)) (pss_one (ps_ret pe_bl)) pss_nil)
      (pss_one (ps_expr (pe_bm PySem.F.plainAttrs_list PySem.F.slot_list_extend PySem.F.type_list_extend mt_extend (pv 3) (pa_cons (pe_lc (own := [("each", 6)]) (g := gName 6) rfl sc__is_within.nd (pi_tup (pv 4)) (blkOk_by (own := [("each", 6)]) (N := ["value", "most_deep", "most_rank", "todo", "part", "deep", "each"]) (sc := C8.fnScope s__is_within) (by decide +kernel)) (fun _ _ _ _ _ => (pg_name (i := 6) sc__is_within.nd rfl (Or.inl rfl))) (fun _ _ _ _ _ => pts_nil) (fun _ _ _ _ _ => (pe_tup (pa_cons (pv 6) (pa_cons (pe_op op_add (pv 5) pe_int) pa_nil))))) pa_nil))))) (pss_one (ps_if (pt_cmpR (op_isTyA (C := C)) (pe_callTy (call_typeA (C := C)) rfl T.z_type bt_type (pa_cons (pv 4) pa_nil)) (pe_glob (v := .ref C) rfl T.g_Atom rfl) (nomark _)) (pss_one (ps_if (pt_cmpR op_gt (pe_fld (pv 4) rfl) (pv 2) (nomark _)) (pss_one (ps_ret pe_bl)) pss_nil)) (pss_one (ps_if (PW.pt (pw_and (pt_cmpR op_notN (pv 4) pe_non (nomark _)) (pw_and (pt_not (pt_val (C8.pe_c c_is_number hr (by first | decide | omega) rfl (pa_cons (pv 4) pa_nil)))) (pw_and1 (pt_not (pt_val (C8.pe_c c_is_text hr (by first | decide | omega) rfl (pa_cons (pv 4) pa_nil)))))))) (pss_one (ps_ret pe_bl)) pss_nil))))))))
      (pss_one (ps_ret pe_bl)))), ?_⟩
  refine ⟨_, rfl, (by show 2 ≤ sizeLine; decide), fun q0 hq0 => ⟨(by show 1 ≤ sizeLine; decide), fun l hl => ?_⟩⟩
  have s1 := same_new (o := .tup [x, .int 0]) hq0
  have s2 := same_new (o := .lst [.ref q0]) hl
  have hl0 : H l = none := s1.free hl
  refine ⟨fun m σ' H' => ∃ v4 v5 xs ps, σ' = [some x, some (.int (md : Int)), some (.int (mr : Int)), some (.ref l), v4, v5, none] ∧ Same H H' ∧ H' l = some (.lst xs) ∧ Stk C H H' xs ps ∧ okS md mr ps = okW md mr 0 d ∧ m = szS ps ∧ szS ps ≤ 1000000 ∧ ∀ p ∈ ps, txl p.1,
    ⟨_, none, none, [.ref q0], [(d, 0)], rfl, s1.trans s2, upd_same, .cons (s2 _ _ upd_same) hx .nil, by simp [okS], rfl, by simp [szS]; exact hz.1, fun p hp => by rw [List.mem_singleton.mp hp]; exact hz.2⟩, ?_⟩
  rintro m σ' H' ⟨v4, v5, xs, ps, rfl, sm, hl', st, ok, rfl, hm, hs⟩
  refine ⟨_, rfl, _, .inl ⟨xs, SqL.of hl', rfl⟩, ?_⟩
  by_cases hps : ps = []
  · subst hps
    cases st
    refine iteF ?_
    have q := q H' sm
    rw [← ok] at q
    exact q
  obtain ⟨qa, y, e, n, ys, qs, rfl, rfl, hq, hy, st'⟩ := st.last hps
  refine bT (by simp) ⟨fun σ2 H2 => ∃ m', m' < szS (qs ++ [(e, n)]) ∧ ∃ v4 v5 xs ps, σ2 = [some x, some (.int (md : Int)), some (.int (mr : Int)), some (.ref l), v4, v5, none] ∧ Same H H2 ∧ H2 l = some (.lst xs) ∧ Stk C H H2 xs ps ∧ okS md mr ps = okW md mr 0 d ∧ m' = szS ps ∧ szS ps ≤ 1000000 ∧ ∀ p ∈ ps, txl p.1, fun σ2 H2 h => h, ?_⟩
  -- part, deep = todo.pop()
  refine ⟨_, rfl, .inl ⟨rfl, _, SqL.of hl'⟩, l, _, .ref qa, rfl, rfl, hl', by simp, ?_⟩
  rw [List.dropLast_concat]
  have tp := Tups.put (ys := ys) hl'
  refine ⟨qa, [y, .int (n : Int)], rfl, SqT.of (tp _ _ hq), rfl, y, [.int (n : Int)], rfl, .int (n : Int), [], rfl, rfl, ?_⟩
  have sm2 : Same H (upd H' l (.lst ys)) := same_put sm hl0
  have hys : (upd H' l (.lst ys)) l = some (.lst ys) := upd_same
  have st2 := st'.keep tp
  rw [okS_app] at ok
  have hsz : szS (qs ++ [(e, n)]) = szS qs + sz e := by rw [szS_app]; simp [szS]
  have hse := sz_pos e
  have hqs : ∀ p ∈ qs, txl p.1 := fun p hp => hs p (List.mem_append_left _ hp)
  have hse2 : txl e := hs (e, n) (List.mem_append_right _ (List.mem_singleton.mpr rfl))
  have ok2 : okS md mr [(e, n)] = okW md mr n e := by simp [okS]
  rw [ok2] at ok
  generalize upd H' l (.lst ys) = H2 at sm2 hys st2
  have hy2 := hy.same sm2
  -- a part that is right, and leads no further
  have good : okW md mr n e = true → ∀ H3, Same H2 H3 → H3 l = some (.lst ys) → ∃ m', m' < szS (qs ++ [(e, n)]) ∧ ∃ v4 v5 xs ps, ([some x, some (.int (md : Int)), some (.int (mr : Int)), some (.ref l), some y, some (.int (n : Int)), none] : L2.St) = [some x, some (.int (md : Int)), some (.int (mr : Int)), some (.ref l), v4, v5, none] ∧ Same H H3 ∧ H3 l = some (.lst xs) ∧ Stk C H H3 xs ps ∧ okS md mr ps = okW md mr 0 d ∧ m' = szS ps ∧ szS ps ≤ 1000000 ∧ ∀ p ∈ ps, txl p.1 := fun hok H3 s3 hl3 =>
    ⟨szS qs, by omega, _, _, ys, qs, rfl, sm2.trans s3, hl3, st2.keep (Tups.of s3), by rw [← ok, hok, Bool.and_true], rfl, by omega, hqs⟩
  -- a part that is wrong
  have bad : okW md mr n e = false → ∀ H3, Same H2 H3 → Q (.bl false) H3 := fun hok H3 s3 => by
    have q := q H3 (sm2.trans s3)
    rw [← ok, hok, Bool.and_false] at q
    exact q
  refine ⟨_, rfl, y, e, rfl, hy2, kyV_ok e, .inl ⟨_, rfl⟩, _, rfl, ?_⟩
  by_cases ct : kyV C e = .ty "tuple"
  · refine ifT ct ?_
    obtain ⟨es, rfl⟩ := kyV_tup.mp ct
    refine ⟨_, rfl, _, rfl, rfl, _, rfl, ?_⟩
    by_cases cn : n = md
    · refine ifT (by rw [cn]) ?_
      exact bad (by simp [okW, cn]) H2 (Same.refl _)
    · refine ifF (fun z => cn (by have := V.int.inj z; omega)) ?_
      have hyt := hy
      cases hyt with
      | @tup ta txs _ hta tis =>
        refine ⟨_, rfl, .inl ⟨rfl, _, SqL.of hys⟩, _, rfl, ta, rfl, ⟨_, SqT.of (sm2 _ _ hta)⟩, fun Dl hD => ?_⟩
        have nDl : l ≠ Dl := fun z => by rw [z] at hys; rw [hys] at hD; cases hD
        refine lc_tup (K := K) (a := ta) (xs := txs) (fun i H3 => Same H2 H3 ∧ ∃ zs, H3 Dl = some (.lst zs) ∧ Stk C H H3 zs ((es.take i).map fun d => (d, n + 1)) ∧ zs.length = i)
          ⟨same_new hD, [], upd_same, by simpa using Stk.nil, rfl⟩ (fun i H3 _ h => SqT.of (h.1 _ _ (sm2 _ _ hta))) ?_ ?_
        · rintro i z H3 hi ⟨s3, zs, hz3, stz, hzl⟩
          obtain ⟨ed, hed, hiz⟩ := tis.at hi
          refine ⟨rfl, yes ?_⟩
          refine ⟨_, rfl, _, rfl, _, _, rfl, rfl, (by show 2 ≤ sizeLine; decide), fun t ht => ?_⟩
          have s4 := same_new (o := .tup [z, .int ((n : Int) + 1)]) ht
          have hz4 := s4 _ _ hz3
          have hlt := (List.getElem?_eq_some_iff.mp hed).1
          refine ⟨zs, hz4, Nat.lt_of_lt_of_le (show zs.length < 1000001 by simp only [sz] at hsz; have := len_szL es; omega) (by decide), same_put (s3.trans s4) hD, zs ++ [.ref t], upd_same, ?_, by simp [hzl]⟩
          have e6 : (es.take (i + 1)).map (fun d => (d, n + 1)) = (es.take i).map (fun d => (d, n + 1)) ++ [(ed, n + 1)] := by rw [List.take_add_one, hed, List.map_append]; rfl
          rw [e6]
          exact (stz.keep ((Tups.of s4).trans (Tups.put hz4))).app (.cons (Tups.put hz4 _ _ upd_same) hiz .nil)
        · rintro H3 ⟨s3, zs, hz3, stz, hzl⟩
          have htl := tis.len
          have hzl2 : zs.length + 1 ≤ sz (.tup es) := by simp only [sz]; have := len_szL es; omega
          have hyl := st2.len
          have hql := len_szS qs
          have hl3 := s3 _ _ hys
          refine ⟨l, Dl, ys, zs, rfl, rfl, hl3, hz3, Nat.le_trans (show ys.length + zs.length ≤ 1000000 by omega) (by decide), ?_⟩
          rw [List.take_of_length_le (by omega)] at stz
          refine ⟨szS (qs ++ es.map fun d => (d, n + 1)), ?_, _, _, ys ++ zs, qs ++ es.map (fun d => (d, n + 1)), rfl, same_put (sm2.trans s3) hl0, upd_same, ((st2.keep (Tups.of s3)).app stz).keep (Tups.put hl3), ?_, rfl, ?_, fun p hp => ?_⟩
          · rw [szS_app, szS_map, hsz]; simp only [sz]; omega
          · rw [okS_app, okS_map, ← ok]; simp [okW, cn]
          · rw [szS_app, szS_map]; simp only [sz] at hsz; omega
          · rcases List.mem_append.mp hp with hp | hp
            · exact hqs p hp
            · obtain ⟨d', hd', rfl⟩ := List.mem_map.mp hp
              exact txlL_mem (by simpa [txl] using hse2) hd'
  · refine ifF ct ⟨_, rfl, y, e, rfl, hy2, kyV_ok e, .inr rfl, _, rfl, ?_⟩
    by_cases ca : kyV C e = .ref C
    · refine ifT ca ?_
      obtain ⟨k, es, rfl⟩ := kyV_atom.mp ca
      cases hy2 with
      | @atom aa dx at_ _ axs _ h1 h2 h3 =>
        refine ⟨_, rfl, aa, C, dx, _, _, rfl, h1, T.cl.cl, T.cl.nR, rfl, _, rfl, _, _, rfl, rfl, _, rfl, ite2 (fun c => ?_) (fun c => ?_)⟩
        · exact bad (by simp only [okW]; refine decide_eq_false fun z => ?_; simp at c; omega) H2 (Same.refl _)
        · exact good (by simp only [okW]; refine decide_eq_true ?_; simp at c; omega) H2 (Same.refl _) hys
    · refine ifF ca ⟨_, rfl, rfl, _, rfl, ?_⟩
      by_cases cN : y = .non
      · rw [decide_eq_true cN]
        subst cN
        cases hy
        exact iteF (iteF (good rfl H2 (Same.refl _) hys))
      · rw [decide_eq_false cN]
        refine iteT ⟨_, rfl, y, e, rfl, hy2, trivial, fun H3 s3 => ⟨_, rfl, ?_⟩⟩
        cases hn : isNum e with
        | true =>
          refine iteF (iteF (good ?_ H3 s3 (s3 _ _ hys)))
          cases e <;> first | exact hn | cases hn
        | false =>
          refine iteT ⟨_, rfl, y, e, rfl, hy2.same s3, fun z hz' => by subst hz'; simpa [txl] using hse2, fun H4 s4 => ⟨_, rfl, ?_⟩⟩
          have s34 := s3.trans s4
          cases ht : isTxt e with
          | true =>
            refine iteF (good ?_ H4 s34 (s34 _ _ hys))
            cases e <;> first | exact ht | cases ht
          | false =>
            refine iteT (bad ?_ H4 s34)
            cases e with
            | non => cases hy; exact absurd rfl cN
            | int i => exact hn
            | str z => exact ht
            | tup es => exact absurd rfl ct
            | atom k es => exact absurd rfl ca
            | _ => rfl
end
end Hc

namespace Hc
open PySem PySem.Spec PyProof.Rows L2 Hr
mutual
/-- the atoms, each where it stands -/
def places : D → List D
  | .tup ds => placesL ds
  | .atom k ds => [.atom k ds]
  | _ => []
def placesL : List D → List D
  | [] => []
  | d :: ds => places d ++ placesL ds
end
theorem placesL_app : ∀ a b : List D, placesL (a ++ b) = placesL a ++ placesL b
  | [], b => rfl
  | x :: a, b => by rw [List.cons_append]; simp only [placesL]; rw [placesL_app a b, List.append_assoc]
mutual
theorem places_len : ∀ d : D, (places d).length ≤ sz d
  | .tup ds => by simp only [places, sz]; have := placesL_len ds; omega
  | .atom k ds => by simp [places, sz]
  | .non | .bl _ | .int _ | .str _ | .lst _ | .dct => by simp [places, sz]
theorem placesL_len : ∀ ds : List D, (placesL ds).length ≤ szL ds
  | [] => Nat.le_refl _
  | d :: ds => by simp only [placesL, szL, List.length_append]; have := places_len d; have := placesL_len ds; omega
end
mutual
theorem places_rank : ∀ d : D, (∀ e ∈ places d, rank e ≤ rank d) ∧ (0 < rank d → ∃ e ∈ places d, rank e = rank d)
  | .tup ds => by simp only [places, rank]; exact placesL_rank ds
  | .atom k ds => by simp [places]
  | .non | .bl _ | .int _ | .str _ | .lst _ | .dct => by simp [places, rank]
theorem placesL_rank : ∀ ds : List D, (∀ e ∈ placesL ds, rank e ≤ rankL ds) ∧ (0 < rankL ds → ∃ e ∈ placesL ds, rank e = rankL ds)
  | [] => by simp [placesL, rankL]
  | d :: ds => by
    obtain ⟨h1, h2⟩ := places_rank d
    obtain ⟨h3, h4⟩ := placesL_rank ds
    simp only [placesL, rankL]
    refine ⟨fun e he => ?_, fun hp => ?_⟩
    · rcases List.mem_append.mp he with he | he
      · have := h1 e he; omega
      · have := h3 e he; omega
    · by_cases c : rankL ds ≤ rank d
      · obtain ⟨e, he, hr⟩ := h2 (by omega)
        exact ⟨e, List.mem_append_left _ he, by omega⟩
      · obtain ⟨e, he, hr⟩ := h4 (by omega)
        exact ⟨e, List.mem_append_right _ he, by omega⟩
end
mutual
theorem places_atom : ∀ (d : D), ∀ e ∈ places d, ∃ k ds, e = .atom k ds
  | .tup ds, e, h => placesL_atom ds e (by simpa [places] using h)
  | .atom k ds, e, h => by simp [places] at h; exact ⟨k, ds, h⟩
  | .non, _, h | .bl _, _, h | .int _, _, h | .str _, _, h | .lst _, _, h | .dct, _, h => by simp [places] at h
theorem placesL_atom : ∀ (ds : List D), ∀ e ∈ placesL ds, ∃ k ds, e = .atom k ds
  | [], _, h => by simp [placesL] at h
  | d :: ds, e, h => by
    simp only [placesL] at h
    rcases List.mem_append.mp h with h | h
    · exact places_atom d e h
    · exact placesL_atom ds e h
end
def spPlaces (C : Addr) : Sp := fun vs H Q _ => ∃ x d, vs = [x] ∧ Is C H x d ∧ Fit d ∧ ∀ H' p xs, Same H H' → H p = none → H' p = some (.lst xs) → IsA C H' xs (places d) → Q (.ref p) H'
/-- a natural number is told -/
def spN (C : Addr) (ok : D → Prop) (f : D → Nat) : Sp := fun vs H Q _ => ∃ x d, vs = [x] ∧ Is C H x d ∧ ok d ∧ ∀ H', Same H H' → Q (.int (f d : Int)) H'
section
variable {P : Program} {w : World} {K : PySem.W.Frag} {mg : Str → Option Value} {base : Heap} {f : Addr} {fd : FuncData} {C : Addr}
abbrev s_is_word : Stmt := top 14
theorem sc_is_word : FnScope ["value"] ["value"] (C8.fnScope s_is_word) := C8.fnScope_by (by decide +kernel)
theorem ok_is_word (F : C8.Def K mg "is_word" s_is_word f fd) (b : Binds K fd ["value"] []) (T : Txt K mg w C) (c__is_within : C8.Cal P w K mg base 2 "_is_within" (spWithin C) []) : C8.Cal P w K mg base 3 "is_word" (spB C Fit (okW 40 40 0)) [] := by
  refine C8.cal0 F b .nil sc_is_word (fun vs H Q E h => ?_) (fun cdv A outer s H vs Q E hr h => ?_)
  · obtain ⟨x, d, rfl, _⟩ := h; rfl
  obtain ⟨x, d, rfl, hx, hz, q⟩ := h
  refine ⟨_, (pss_one (ps_ret (C8.pe_c c__is_within hr (by first | decide | omega) rfl (pa_cons (pv 0) (pa_cons (C8.pe_gc rfl T.c_MOST_DEEP) (pa_cons (C8.pe_gc rfl T.c_MOST_RANK) pa_nil)))))), ?_⟩
  exact ⟨x, rfl, x, d, 40, 40, rfl, hx, hz, q⟩
abbrev s__places_of_atoms : Stmt := top 19
theorem sc__places_of_atoms : FnScope ["value", "found", "todo", "part"] ["value"] (C8.fnScope s__places_of_atoms) := C8.fnScope_by (by decide +kernel)
theorem ok__places_of_atoms (F : C8.Def K mg "_places_of_atoms" s__places_of_atoms f fd) (b : Binds K fd ["value"] []) (T : Txt K mg w C) : C8.Cal P w K mg base 1 "_places_of_atoms" (spPlaces C) [] := by
  refine C8.cal0 F b .nil sc__places_of_atoms (fun vs H Q E h => ?_) (fun cdv A outer s H vs Q E hr h => ?_)
  · obtain ⟨x, d, rfl, _⟩ := h; rfl
  obtain ⟨x, d, rfl, hx, hz, q⟩ := h
  refine ⟨_, (pss_cons (ps_set (i := 1) sc__places_of_atoms.nd rfl (Or.inl rfl) (pe_lst pa_nil))
      (pss_cons (ps_set (i := 2) sc__places_of_atoms.nd rfl (Or.inl rfl) (pe_lst (pa_cons (pv 0) pa_nil)))
      (pss_cons (ps_while PassesOwn.never (pt_truth (pv 2) (fun _ => rfl))
      (pss_cons (ps_set (i := 3) sc__places_of_atoms.nd rfl (Or.inl rfl) (pe_bm0 PySem.F.plainAttrs_list PySem.F.slot_list_pop PySem.F.type_list_pop mt_pop (pv 2)))
      (pss_one (ps_if (pt_cmpR (op_isTyA (C := C)) (pe_callTy (call_typeA (C := C)) rfl T.z_type bt_type (pa_cons (pv 3) pa_nil)) (pe_bltn (v := .ty "tuple") rfl T.z_tuple bt_tuple rfl) (nomark _)) (pss_one (ps_expr (pe_bm PySem.F.plainAttrs_list PySem.F.slot_list_extend PySem.F.type_list_extend mt_extendT (pv 2) (pa_cons (pe_revT (pv 3)) pa_nil)))) (pss_one (ps_if (pt_cmpR (op_isTyA (C := C)) (pe_callTy (call_typeA (C := C)) rfl T.z_type bt_type (pa_cons (pv 3) pa_nil)) (pe_glob (v := .ref C) rfl T.g_Atom rfl) (nomark _)) (pss_one (ps_expr (pe_bm PySem.F.plainAttrs_list PySem.F.slot_list_append PySem.F.type_list_append mt_append (pv 1) (pa_cons (pv 3) pa_nil)))) pss_nil))))))
      (pss_one (ps_ret (pv 1)))))), ?_⟩
  refine ⟨(by show 0 ≤ sizeLine; decide), fun fo hfo => ⟨x, rfl, (by show 1 ≤ sizeLine; decide), fun l hl => ?_⟩⟩
  have s1 := same_new (o := .lst []) hfo
  have s2 := same_new (o := .lst [x]) hl
  have hl0 : H l = none := s1.free hl
  have nfl : fo ≠ l := fun z => by rw [← z, upd_same] at hl; cases hl
  refine ⟨fun m σ' H' => ∃ v3 fs xs es ds, σ' = [some x, some (.ref fo), some (.ref l), v3] ∧ Same H H' ∧ H' fo = some (.lst fs) ∧ H' l = some (.lst xs) ∧ IsA C H fs es ∧ IsA C H xs ds ∧ es ++ placesL ds.reverse = places d ∧ m = szL ds ∧ szL ds ≤ 1000000,
    ⟨_, none, [], [x], [], [d], rfl, s1.trans s2, s2 _ _ upd_same, upd_same, .nil, .cons hx .nil, by simp [placesL], rfl, by simp [szL]; exact hz.1⟩, ?_⟩
  rintro m σ' H' ⟨v3, fs, xs, es, ds, rfl, sm, hf', hl', hfs, hxs, e0, rfl, hm⟩
  refine ⟨_, rfl, _, .inl ⟨xs, SqL.of hl', rfl⟩, ?_⟩
  rcases List.eq_nil_or_concat ds with rfl | ⟨ds', e, rfl⟩
  · cases hxs
    refine iteF ⟨_, rfl, ?_⟩
    simp only [List.reverse_nil, placesL, List.append_nil] at e0
    rw [e0] at hfs
    exact q H' fo fs sm hfo hf' (hfs.same sm)
  obtain ⟨ys, y, rfl, hys, hy⟩ := hxs.concat
  simp only [List.concat_eq_append] at e0 hm ⊢
  refine bT (by simp) ⟨fun σ2 H2 => ∃ m', m' < szL (ds' ++ [e]) ∧ ∃ v3 fs xs es ds, σ2 = [some x, some (.ref fo), some (.ref l), v3] ∧ Same H H2 ∧ H2 fo = some (.lst fs) ∧ H2 l = some (.lst xs) ∧ IsA C H fs es ∧ IsA C H xs ds ∧ es ++ placesL ds.reverse = places d ∧ m' = szL ds ∧ szL ds ≤ 1000000, fun σ2 H2 h => h, ?_⟩
  refine ⟨_, rfl, .inl ⟨rfl, _, SqL.of hl'⟩, l, _, y, rfl, rfl, hl', by simp, ?_⟩
  rw [List.dropLast_concat]
  have sm2 : Same H (upd H' l (.lst ys)) := same_put sm hl0
  have hl2 : (upd H' l (.lst ys)) l = some (.lst ys) := upd_same
  have hf2 : (upd H' l (.lst ys)) fo = some (.lst fs) := by rw [upd_ne nfl]; exact hf'
  generalize upd H' l (.lst ys) = H2 at sm2 hl2 hf2
  rw [List.reverse_append, List.reverse_singleton, List.singleton_append] at e0
  simp only [placesL] at e0
  have hse := sz_pos e
  have hsz : szL (ds' ++ [e]) = szL ds' + sz e := by rw [szL_app]; simp [szL]
  have hdl := len_szL ds'
  have hyl := hys.len
  refine ⟨_, rfl, y, e, rfl, hy.same sm2, kyV_ok e, .inl ⟨_, rfl⟩, _, rfl, ?_⟩
  by_cases ct : kyV C e = .ty "tuple"
  · refine ifT ct ?_
    obtain ⟨gs, rfl⟩ := kyV_tup.mp ct
    cases hy with
    | @tup ta txs _ hta tis =>
      refine ⟨_, rfl, .inl ⟨rfl, _, SqL.of hl2⟩, _, rfl, ta, _, rfl, SqT.of (sm2 _ _ hta), fun r hr' => ?_⟩
      have s3 := same_new (o := .tup txs.reverse) hr'
      have htl := tis.len
      have hgl := len_szL gs
      refine ⟨l, r, ys, _, rfl, rfl, s3 _ _ hl2, upd_same, Nat.le_trans (show ys.length + txs.reverse.length ≤ 1000000 by simp only [sz] at hsz; rw [List.length_reverse]; omega) (by decide), ?_⟩
      refine ⟨szL (ds' ++ gs.reverse), ?_, _, fs, ys ++ txs.reverse, es, ds' ++ gs.reverse, rfl, same_put (sm2.trans s3) hl0, by rw [upd_ne nfl]; exact s3 _ _ hf2, upd_same, hfs, hys.app tis.rev, ?_, rfl, ?_⟩
      · rw [szL_app, szL_rev, hsz]; simp only [sz]; omega
      · rw [List.reverse_append, List.reverse_reverse, placesL_app]; simp only [places] at e0; exact e0
      · rw [szL_app, szL_rev]; simp only [sz] at hsz; omega
  · refine ifF ct ⟨_, rfl, y, e, rfl, hy.same sm2, kyV_ok e, .inr rfl, _, rfl, ?_⟩
    by_cases ca : kyV C e = .ref C
    · refine ifT ca ?_
      obtain ⟨k, gs, rfl⟩ := kyV_atom.mp ca
      have hel : es.length + 1 ≤ 1000000 := by
        have h1 := congrArg List.length e0
        have h2 := places_len d
        have h3 := hz.1
        simp only [List.length_append, places, List.length_singleton] at h1
        omega
      have hfl := hfs.len
      refine ⟨_, rfl, .inl ⟨rfl, _, SqL.of hf2⟩, _, rfl, fo, fs, y, rfl, rfl, hf2, Nat.lt_of_lt_of_le (show fs.length < 1000001 by omega) (by decide), ?_⟩
      refine ⟨szL ds', by omega, _, fs ++ [y], ys, es ++ [.atom k gs], ds', rfl, same_put sm2 hfo, upd_same, by rw [upd_ne nfl.symm]; exact hl2, hfs.app (.cons hy .nil), hys, ?_, rfl, by omega⟩
      simp only [places] at e0
      rw [List.append_assoc]; exact e0
    · refine ifF ca ⟨szL ds', by omega, _, fs, ys, es, ds', rfl, sm2, hf2, hl2, hfs, hys, ?_, rfl, by omega⟩
      have hp : places e = [] := by cases e <;> first | rfl | exact absurd rfl ct | exact absurd rfl ca
      rw [hp] at e0; exact e0
end
end Hc

namespace Hc
open PySem PySem.Spec PyProof.Rows L2 Hr
theorem call_lenS {X : Cx} : CallR X (.builtin "len") (fun xs H Q => ∃ p ys, xs = [.ref p] ∧ (SqL X.K H p ys ∨ SqT X.K H p ys) ∧ Q (.int ys.length) H) := call_len_seq
def spRk (C : Addr) : Sp := fun vs H Q _ => ∃ k t ds, vs = [.str k, .ref t] ∧ Is C H (.ref t) (.tup ds) ∧ Fit (.tup ds) ∧ ∀ H', Same H H' → Q (.int ((rank (.atom k ds) : Nat) : Int)) H'
def mostR (k : Str) : Nat := if k = "token" then 36 else 40
def spMost : Sp := fun vs H Q _ => ∃ k, vs = [.str k] ∧ Q (.int ((mostR k : Nat) : Int)) H
def isS : D → Bool | .str _ => true | _ => false
def isI : D → Bool | .int _ => true | _ => false
def isT : D → Bool | .tup _ => true | _ => false
def hasF (d : D) (z : Str) : Bool :=
  if z = "text" then isS d
  else if z = "number" then isI d
  else if z = "tuple" then isT d
  else if z = "hidden" then (match d with | .non => true | .tup ds => decide (ds.length = 4) | _ => false)
  else if z = "pages" then (match d with | .tup ds => decide (ds.length = 8) | _ => false)
  else true
def spHasF (C : Addr) : Sp := fun vs H Q _ => ∃ x d z, vs = [x, .str z] ∧ Is C H x d ∧ Q (.bl (hasF d z)) H
theorem inV2 (k : Str) : inV (.str k) [.str "seal", .str "page"] = (decide (k = "seal") || decide (k = "page")) := by
  have e : ∀ a b : Str, eqV (.str a) (.str b) = decide (b = a) := fun a b => by
    simp only [eqV]
    by_cases h : a = b
    · subst h; simp
    · simp [h, Ne.symm h, fun z : b = a => h z.symm]
  show ([V.str "seal", .str "page"].any fun y => eqV y (.str k)) = _
  rw [List.any_cons, List.any_cons, e, e]
  simp
section
variable {P : Program} {w : World} {K : PySem.W.Frag} {mg : Str → Option Value} {base : Heap} {f : Addr} {fd : FuncData} {C : Addr}
abbrev s_rank_of : Stmt := top 16
theorem sc_rank_of : FnScope ["word", "atom"] ["word"] (C8.fnScope s_rank_of) := C8.fnScope_by (by decide +kernel)
theorem ok_rank_of (F : C8.Def K mg "rank_of" s_rank_of f fd) (b : Binds K fd ["word"] []) (T : Txt K mg w C) (c__places_of_atoms : C8.Cal P w K mg base 1 "_places_of_atoms" (spPlaces C) []) : C8.Cal P w K mg base 2 "rank_of" (spN C Fit rank) [] := by
  refine C8.cal0 F b .nil sc_rank_of (fun vs H Q E h => ?_) (fun cdv A outer s H vs Q E hr h => ?_)
  · obtain ⟨x, d, rfl, _⟩ := h; rfl
  obtain ⟨x, d, rfl, hx, hz, q⟩ := h
  refine ⟨_, (pss_one (ps_ret (pe_callBK (call_maxDK rfl) rfl T.z_max bt_max (pa_cons (pe_lc (own := [("atom", 1)]) (te := tFld K (tVar 1) "rank") (g := gName 1) rfl sc_rank_of.nd (pi_list (C8.pe_c c__places_of_atoms hr (by first | decide | omega) rfl (pa_cons (pv 0) pa_nil))) (blkOk_by (own := [("atom", 1)]) (N := ["word", "atom"]) (sc := C8.fnScope s_rank_of) (by decide +kernel)) (fun _ _ _ _ _ => (pg_name (i := 1) sc_rank_of.nd rfl (Or.inl rfl))) (fun _ _ _ _ _ => pts_nil) (fun _ _ _ _ _ => (pe_fld (pv 1) rfl))) pa_nil) (pk_cons pe_int pk_nil)))), ?_⟩
  refine ⟨x, rfl, x, d, rfl, hx, hz, fun H1 p xs sm hp hl is => ⟨p, rfl, ⟨xs, SqL.of hl⟩, fun Dl hD => ?_⟩⟩
  have npD : p ≠ Dl := fun z => by rw [z] at hl; rw [hl] at hD; cases hD
  refine lc_list (K := K) (a := p) (xs := xs) (fun i H3 => Same H1 H3 ∧ H3 Dl = some (.lst (((places d).take i).map fun e => V.int ((rank e : Nat) : Int)))) ⟨same_new hD, upd_same⟩ (fun i H3 _ h => SqL.of (h.1 _ _ hl)) ?_ ?_
  · rintro i z H3 hi ⟨s3, hz3⟩
    obtain ⟨e, he, hie⟩ := is.at hi
    obtain ⟨k, gs, rfl⟩ := places_atom d e (List.mem_of_getElem? he)
    refine ⟨rfl, yes ?_⟩
    have hie3 := hie.same s3
    cases hie3 with
    | @atom aa dx at_ _ axs _ h1 h2 h3 =>
      have hlt := (List.getElem?_eq_some_iff.mp he).1
      have hpl := places_len d
      have hzz := hz.1
      refine ⟨_, rfl, aa, C, dx, _, _, rfl, h1, T.cl.cl, T.cl.nR, rfl, _, hz3, Nat.lt_of_lt_of_le (show _ < 1000001 by rw [List.length_map, List.length_take]; omega) (by decide), same_put s3 hD, ?_⟩
      rw [upd_same, List.take_add_one, he, List.map_append]; rfl
  · rintro H3 ⟨s3, hz3⟩
    rw [is.len, List.take_of_length_le (Nat.le_refl _)] at hz3
    refine ⟨Dl, (places d).map fun e => ((rank e : Nat) : Int), 0, rfl, rfl, SqL.of (by rw [List.map_map]; exact hz3), fun m h0 h1 => ?_⟩
    have em : m = ((rank d : Nat) : Int) := by
      obtain ⟨r1, r2⟩ := places_rank d
      by_cases hp0 : places d = []
      · have hr0 : ¬ 0 < rank d := fun z => by
          obtain ⟨e, he, _⟩ := r2 z
          rw [hp0] at he; cases he
        rw [h0 (by rw [hp0]; rfl)]; omega
      · obtain ⟨hm, hall⟩ := h1 (by simpa using hp0)
        obtain ⟨e, he, rfl⟩ := List.mem_map.mp hm
        have h5 := r1 e he
        have hpos : 0 < rank d := by
          obtain ⟨k, gs, rfl⟩ := places_atom d e he
          have : 0 < rank (.atom k gs) := by simp only [rank]; split <;> omega
          omega
        obtain ⟨e2, he2, hr2⟩ := r2 hpos
        have := hall _ (List.mem_map.mpr ⟨e2, he2, rfl⟩)
        omega
    rw [em]
    exact q H3 (sm.trans s3)
abbrev s__rank_of_atom : Stmt := top 23
theorem sc__rank_of_atom : FnScope ["kind", "term"] ["kind", "term"] (C8.fnScope s__rank_of_atom) := C8.fnScope_by (by decide +kernel)
theorem ok__rank_of_atom (F : C8.Def K mg "_rank_of_atom" s__rank_of_atom f fd) (b : Binds K fd ["kind", "term"] []) (T : Txt K mg w C) (c_rank_of : C8.Cal P w K mg base 2 "rank_of" (spN C Fit rank) []) : C8.Cal P w K mg base 3 "_rank_of_atom" (spRk C) [] := by
  refine C8.cal0 F b .nil sc__rank_of_atom (fun vs H Q E h => ?_) (fun cdv A outer s H vs Q E hr h => ?_)
  · obtain ⟨k, t, ds, rfl, _⟩ := h; rfl
  obtain ⟨k, t, ds, rfl, hx, hz, q⟩ := h
  refine ⟨_, (pss_cons (ps_if (pt_cmpR op_in_seq (pv 0) (pe_tup (pa_cons pe_str (pa_cons pe_str pa_nil))) (by with_unfolding_all rfl)) (pss_one (ps_ret pe_int)) pss_nil)
      (pss_one (ps_ret (pe_op op_add (C8.pe_c c_rank_of hr (by first | decide | omega) rfl (pa_cons (pv 1) pa_nil)) pe_int)))), ?_⟩
  refine ⟨_, rfl, (by show 2 ≤ sizeLine; decide), fun u hu => ?_⟩
  have s1 := same_new (o := .tup [.str "seal", .str "page"]) hu
  refine ⟨u, _, rfl, .inr (SqT.of upd_same), rfl, rfl, _, rfl, ?_⟩
  show (if (inV (.str k) [.str "seal", .str "page"]) = true then _ else _)
  rw [inV2]
  by_cases c : k = "seal" ∨ k = "page"
  · have e : rank (.atom k ds) = 1 := by simp only [rank]; rw [if_pos c]
    rw [e] at q
    refine bT (by simpa using c) (q _ s1)
  · have e : rank (.atom k ds) = rankL ds + 1 := by simp only [rank]; rw [if_neg c]
    rw [e] at q
    refine bF (by simpa using c) ⟨_, rfl, _, .tup ds, rfl, hx.same s1, hz, fun H2 s2 => ⟨_, _, rfl, rfl, ?_⟩⟩
    have q2 := q H2 (s1.trans s2)
    have e2 : (((rankL ds + 1 : Nat)) : Int) = ((rank (.tup ds) : Nat) : Int) + 1 := by simp only [rank]; omega
    rw [e2] at q2
    exact q2
abbrev s__most_rank : Stmt := top 24
theorem sc__most_rank : FnScope ["kind"] ["kind"] (C8.fnScope s__most_rank) := C8.fnScope_by (by decide +kernel)
theorem ok__most_rank (F : C8.Def K mg "_most_rank" s__most_rank f fd) (b : Binds K fd ["kind"] []) (T : Txt K mg w C) : C8.Cal P w K mg base 1 "_most_rank" spMost [] := by
  refine C8.cal0 F b .nil sc__most_rank (fun vs H Q E h => ?_) (fun cdv A outer s H vs Q E hr h => ?_)
  · obtain ⟨k, rfl, _⟩ := h; rfl
  obtain ⟨k, rfl, q⟩ := h
  refine ⟨_, (pss_one (ps_ret (pe_ifExp (pt_cmpR op_eq (pv 0) pe_str (nomark _)) (C8.pe_gc rfl T.c_MOST_RANK_HOST) (C8.pe_gc rfl T.c_MOST_RANK)))), ?_⟩
  refine ⟨_, rfl, rfl, _, rfl, ?_⟩
  unfold mostR at q
  by_cases c : k = "token"
  · rw [if_pos c] at q
    exact ifT (congrArg V.str c) q
  · rw [if_neg c] at q
    exact ifF (fun z => c (V.str.inj z)) q
abbrev s__has_form : Stmt := top 22
theorem sc__has_form : FnScope ["part", "form"] ["part", "form"] (C8.fnScope s__has_form) := C8.fnScope_by (by decide +kernel)
theorem ok__has_form (F : C8.Def K mg "_has_form" s__has_form f fd) (b : Binds K fd ["part", "form"] []) (T : Txt K mg w C) : C8.Cal P w K mg base 1 "_has_form" (spHasF C) [] := by
  refine C8.cal0 F b .nil sc__has_form (fun vs H Q E h => ?_) (fun cdv A outer s H vs Q E hr h => ?_)
  · obtain ⟨x, d, z, rfl, _⟩ := h; rfl
  obtain ⟨x, d, z, rfl, hx, q⟩ := h
  refine ⟨_, (pss_cons (ps_if (pt_cmpR op_eq (pv 1) pe_str (nomark _)) (pss_one (ps_ret (pe_cmpR (op_isTyA (C := C)) (pe_callTy (call_typeA (C := C)) rfl T.z_type bt_type (pa_cons (pv 0) pa_nil)) (pe_bltn (v := .ty "str") rfl T.z_str bt_str rfl) (nomark _)))) pss_nil)
      (pss_cons (ps_if (pt_cmpR op_eq (pv 1) pe_str (nomark _)) (pss_one (ps_ret (pe_cmpR (op_isTyA (C := C)) (pe_callTy (call_typeA (C := C)) rfl T.z_type bt_type (pa_cons (pv 0) pa_nil)) (pe_bltn (v := .ty "int") rfl T.z_int bt_int rfl) (nomark _)))) pss_nil)
      (pss_cons (ps_if (pt_cmpR op_eq (pv 1) pe_str (nomark _)) (pss_one (ps_ret (pe_cmpR (op_isTyA (C := C)) (pe_callTy (call_typeA (C := C)) rfl T.z_type bt_type (pa_cons (pv 0) pa_nil)) (pe_bltn (v := .ty "tuple") rfl T.z_tuple bt_tuple rfl) (nomark _)))) pss_nil)
      (pss_cons (ps_if (pt_cmpR op_eq (pv 1) pe_str (nomark _)) (pss_one (ps_ret (pe_or (pe_cmpR op_isN (pv 0) pe_non (nomark _)) (pe_one (pe_and (pe_cmpR (op_isTyA (C := C)) (pe_callTy (call_typeA (C := C)) rfl T.z_type bt_type (pa_cons (pv 0) pa_nil)) (pe_bltn (v := .ty "tuple") rfl T.z_tuple bt_tuple rfl) (nomark _)) (pe_one (pe_cmpR op_eq (pe_callB call_lenS rfl T.z_len bt_len (pa_cons (pv 0) pa_nil)) pe_int (nomark _)))))))) pss_nil)
      (pss_cons (ps_if (pt_cmpR op_eq (pv 1) pe_str (nomark _)) (pss_one (ps_ret (pe_and (pe_cmpR (op_isTyA (C := C)) (pe_callTy (call_typeA (C := C)) rfl T.z_type bt_type (pa_cons (pv 0) pa_nil)) (pe_bltn (v := .ty "tuple") rfl T.z_tuple bt_tuple rfl) (nomark _)) (pe_one (pe_cmpR op_eq (pe_callB call_lenS rfl T.z_len bt_len (pa_cons (pv 0) pa_nil)) pe_int (nomark _)))))) pss_nil)
      (pss_one (ps_ret pe_bl))))))), ?_⟩
  have q := q
  unfold hasF at q
  have kS : decide (kyV C d = .ty "str") = isS d := by cases d <;> simp [kyV, isS]
  have kI : decide (kyV C d = .ty "int") = isI d := by cases d <;> simp [kyV, isI]
  have kT : decide (kyV C d = .ty "tuple") = isT d := by cases d <;> simp [kyV, isT]
  refine ⟨_, rfl, rfl, _, rfl, ?_⟩
  by_cases c1 : z = "text"
  · rw [if_pos c1] at q
    refine ifT (congrArg V.str c1) ⟨x, rfl, x, d, rfl, hx, kyV_ok d, .inl ⟨_, rfl⟩, ?_⟩
    rw [kS]; exact q
  rw [if_neg c1] at q
  refine ifF (fun y => c1 (V.str.inj y)) ⟨_, rfl, rfl, _, rfl, ?_⟩
  by_cases c2 : z = "number"
  · rw [if_pos c2] at q
    refine ifT (congrArg V.str c2) ⟨x, rfl, x, d, rfl, hx, kyV_ok d, .inl ⟨_, rfl⟩, ?_⟩
    rw [kI]; exact q
  rw [if_neg c2] at q
  refine ifF (fun y => c2 (V.str.inj y)) ⟨_, rfl, rfl, _, rfl, ?_⟩
  by_cases c3 : z = "tuple"
  · rw [if_pos c3] at q
    refine ifT (congrArg V.str c3) ⟨x, rfl, x, d, rfl, hx, kyV_ok d, .inl ⟨_, rfl⟩, ?_⟩
    rw [kT]; exact q
  rw [if_neg c3] at q
  refine ifF (fun y => c3 (V.str.inj y)) ⟨_, rfl, rfl, _, rfl, ?_⟩
  by_cases c4 : z = "hidden"
  · rw [if_pos c4] at q
    refine ifT (congrArg V.str c4) ⟨x, rfl, rfl, _, rfl, ?_⟩
    cases hx with
    | non => exact iteT q
    | @tup a xs ds ht ha =>
      have hl := ha.len
      refine iteF ⟨_, rfl, _, .tup ds, rfl, .tup ht ha, kyV_ok _, .inl ⟨_, rfl⟩, _, rfl, ?_⟩
      refine ifT rfl ⟨_, rfl, a, xs, rfl, .inr (SqT.of ht), rfl, ?_⟩
      have e : decide (V.int (xs.length : Int) = V.int 4) = decide (ds.length = 4) := by
        rw [hl]; by_cases c : ds.length = 4
        · rw [c]; rfl
        · rw [decide_eq_false c, decide_eq_false fun y => c (by have := V.int.inj y; omega)]
      rw [e]; exact q
    | bl y => exact iteF ⟨_, rfl, _, .bl y, rfl, .bl y, kyV_ok _, .inl ⟨_, rfl⟩, _, rfl, ifF (by simp [kyV]) q⟩
    | int y => exact iteF ⟨_, rfl, _, .int y, rfl, .int y, kyV_ok _, .inl ⟨_, rfl⟩, _, rfl, ifF (by simp [kyV]) q⟩
    | str y => exact iteF ⟨_, rfl, _, .str y, rfl, .str y, kyV_ok _, .inl ⟨_, rfl⟩, _, rfl, ifF (by simp [kyV]) q⟩
    | lst h1 h2 => exact iteF ⟨_, rfl, _, .lst _, rfl, .lst h1 h2, kyV_ok _, .inl ⟨_, rfl⟩, _, rfl, ifF (by simp [kyV]) q⟩
    | dct h1 => exact iteF ⟨_, rfl, _, .dct, rfl, .dct h1, kyV_ok _, .inl ⟨_, rfl⟩, _, rfl, ifF (by simp [kyV]) q⟩
    | atom h1 h2 h3 => exact iteF ⟨_, rfl, _, .atom _ _, rfl, .atom h1 h2 h3, kyV_ok _, .inl ⟨_, rfl⟩, _, rfl, ifF (by simp [kyV]) q⟩
  rw [if_neg c4] at q
  refine ifF (fun y => c4 (V.str.inj y)) ⟨_, rfl, rfl, _, rfl, ?_⟩
  by_cases c5 : z = "pages"
  · rw [if_pos c5] at q
    refine ifT (congrArg V.str c5) ⟨x, rfl, x, d, rfl, hx, kyV_ok d, .inl ⟨_, rfl⟩, _, rfl, ?_⟩
    by_cases ct : kyV C d = .ty "tuple"
    · obtain ⟨ds, rfl⟩ := kyV_tup.mp ct
      cases hx with
      | @tup a xs _ ht ha =>
        have hl := ha.len
        refine ifT ct ⟨_, rfl, a, xs, rfl, .inr (SqT.of ht), rfl, ?_⟩
        have e : decide (V.int (xs.length : Int) = V.int 8) = decide (ds.length = 8) := by
          rw [hl]; by_cases c : ds.length = 8
          · rw [c]; rfl
          · rw [decide_eq_false c, decide_eq_false fun y => c (by have := V.int.inj y; omega)]
        rw [e]; exact q
    · refine ifF ct ?_
      cases d <;> first | exact q | exact absurd rfl ct
  rw [if_neg c5] at q
  exact ifF (fun y => c5 (V.str.inj y)) q
end
end Hc

namespace Hc
open PySem PySem.Spec PyProof.Rows L2 Hr
theorem walk_zipT {K : PySem.W.Frag} {a b : Addr} {xs ys : List V} {n : Nat} (hn : n = min xs.length ys.length) : Walk (RZ.ItzT K a b) n (fun H => SqT K H a xs ∧ SqT K H b ys) (YPair (fun i => xs[i]?) (fun i => ys[i]?)) := by
  subst hn
  refine ⟨fun i _ hi q => ?_, fun _ q => ⟨xs, ys, q.1, q.2, by omega⟩, fun i H v H' _ q y => ?_⟩
  · have h1 : i < xs.length := by omega
    have h2 : i < ys.length := by omega
    exact ⟨xs, ys, xs[i], ys[i], q.1, q.2, by simp [h1], by simp [h2]⟩
  · obtain ⟨t, x, z, e1, e2, e3, e4, e5⟩ := y
    exact ⟨t, x, z, e1, e2, e3, e4 xs q.1, e5 ys q.2⟩
def formsOf (k : Str) : Option (List Str) :=
  if k = "token" then some ["text", "tuple", "word"]
  else if k = "challenge" then some ["text", "number"]
  else if k = "seal" then some ["text", "number", "number", "hidden"]
  else if k = "page" then some ["text", "number", "number", "hidden"]
  else if k = "ticket" then some ["text", "number", "text", "tuple", "pages", "tuple"]
  else none
def partOk (d : D) (z : Str) : Bool := okW 40 40 0 d && hasF d z
def isTermK (k : Str) (ds : List D) : Bool := match formsOf k with
  | some fs => decide (ds.length = fs.length) && (ds.zip fs).all fun p => partOk p.1 p.2
  | none => false
def isTermD : D → D → Bool
  | .str k, .tup ds => isTermK k ds
  | _, _ => false
def KindOk : D → Prop
  | .str k => k = "token" ∨ k = "challenge" ∨ k = "seal" ∨ k = "page" ∨ k = "ticket" ∨ k = "key"
  | _ => True
theorem forms_at {K : PySem.W.Frag} {mg : Str → Option Value} {w : World} {C : Addr} (T : Txt K mg w C) : ∃ Fo, (∃ u, mg "_FORMS" = some u ∧ RelV (.ref Fo) u) ∧ (∃ es n, KDict K w Fo es n) ∧
    ∀ k : Str, KindOk (.str k) → (∃ t fs, formsOf k = some fs ∧ KDct K w Fo k (.ref t) ∧ KTup K t fs) ∨ (formsOf k = none ∧ PySem.W.nsIn K Fo k = some none) := by
  obtain ⟨Fo, t1, t2, t3, t4, t5, gF, KD, d1, d2, d3, d4, d5, d6, k1, k2, k3, k4, k5⟩ := T.forms
  refine ⟨Fo, gF, KD, fun k hk => ?_⟩
  rcases hk with rfl | rfl | rfl | rfl | rfl | rfl
  · exact .inl ⟨t1, _, by decide +kernel, d1, k1⟩
  · exact .inl ⟨t2, _, by decide +kernel, d2, k2⟩
  · exact .inl ⟨t3, _, by decide +kernel, d3, k3⟩
  · exact .inl ⟨t4, _, by decide +kernel, d4, k4⟩
  · exact .inl ⟨t5, _, by decide +kernel, d5, k5⟩
  · exact .inr ⟨by decide +kernel, d6⟩
def spTerm (C : Addr) : Sp := fun vs H Q _ => ∃ xk xt dk dt, vs = [xk, xt] ∧ Is C H xk dk ∧ Is C H xt dt ∧ KindOk dk ∧ Fit dt ∧ ∀ H', Same H H' → Q (.bl (isTermD dk dt)) H'
theorem Fit.part {ds : List D} {d : D} (h : Fit (.tup ds)) (hd : d ∈ ds) : Fit d := by
  refine ⟨?_, txlL_mem (by simpa [txl] using h.2) hd⟩
  have h1 := h.1
  simp only [sz] at h1
  have : sz d ≤ szL ds := by
    clear h h1
    induction ds with
    | nil => cases hd
    | cons x r ih =>
      simp only [szL]
      rcases List.mem_cons.mp hd with rfl | hd
      · omega
      · have := ih hd; omega
  omega
def spInit (C : Addr) : Sp := fun vs H Q _ => ∃ p dx k t ds, vs = [.ref p, .str k, .ref t] ∧ H p = some (.ins C dx []) ∧ Is C H (.ref t) (.tup ds) ∧ isTermK k ds = true ∧ rank (.atom k ds) ≤ mostR k ∧ Fit (.tup ds) ∧
  ∀ H', H' p = some (.ins C dx (atF k t (rank (.atom k ds)))) → (∀ b o, H b = some o → b ≠ p → H' b = some o) → Q .non H'
theorem put_at (k : Str) (t : Addr) (r : Nat) : putF "_stripped" .non (putF "rank" (.int (r : Int)) (putF "term" (.ref t) (putF "kind" (.str k) []))) = atF k t r := by
  have n1 : ¬ (("kind" : Str) = "term") := by decide +kernel
  have n2 : ¬ (("kind" : Str) = "rank") := by decide +kernel
  have n3 : ¬ (("term" : Str) = "rank") := by decide +kernel
  have n4 : ¬ (("kind" : Str) = "_stripped") := by decide +kernel
  have n5 : ¬ (("term" : Str) = "_stripped") := by decide +kernel
  have n6 : ¬ (("rank" : Str) = "_stripped") := by decide +kernel
  simp [putF, atF, n1, n2, n3, n4, n5, n6]
theorem term_kind {k : Str} {ds : List D} (h : isTermK k ds = true) : KindOk (.str k) := by
  unfold isTermK formsOf at h
  unfold KindOk
  by_cases c1 : k = "token"
  · exact .inl c1
  by_cases c2 : k = "challenge"
  · exact .inr (.inl c2)
  by_cases c3 : k = "seal"
  · exact .inr (.inr (.inl c3))
  by_cases c4 : k = "page"
  · exact .inr (.inr (.inr (.inl c4)))
  by_cases c5 : k = "ticket"
  · exact .inr (.inr (.inr (.inr (.inl c5))))
  rw [if_neg c1, if_neg c2, if_neg c3, if_neg c4, if_neg c5] at h
  cases h
section
variable {P : Program} {w : World} {K : PySem.W.Frag} {mg : Str → Option Value} {base : Heap} {f : Addr} {fd : FuncData} {C : Addr}
abbrev s__is_term : Stmt := top 21
theorem sc__is_term : FnScope ["kind", "term", "forms", "part", "form"] ["kind", "term"] (C8.fnScope s__is_term) := C8.fnScope_by (by decide +kernel)
theorem ok__is_term (F : C8.Def K mg "_is_term" s__is_term f fd) (b : Binds K fd ["kind", "term"] []) (T : Txt K mg w C) (c_is_word : C8.Cal P w K mg base 3 "is_word" (spB C Fit (okW 40 40 0)) []) (c__has_form : C8.Cal P w K mg base 1 "_has_form" (spHasF C) []) : C8.Cal P w K mg base 4 "_is_term" (spTerm C) [] := by
  refine C8.cal0 F b .nil sc__is_term (fun vs H Q E h => ?_) (fun cdv A outer s H vs Q E hr h => ?_)
  · obtain ⟨xk, xt, dk, dt, rfl, _⟩ := h; rfl
  obtain ⟨xk, xt, dk, dt, rfl, hk, ht, hok, hz, q⟩ := h
  obtain ⟨Fo, gF, ⟨es, n, KD⟩, hf⟩ := forms_at T
  refine ⟨_, (pss_cons (ps_if (PW.pt (pw_or (pt_cmpR (op_isNotTyA (C := C)) (pe_callTy (call_typeA (C := C)) rfl T.z_type bt_type (pa_cons (pv 0) pa_nil)) (pe_bltn (v := .ty "str") rfl T.z_str bt_str rfl) (nomark _)) (pw_or (pt_cmpR (op_notIn_kd KD) (pv 0) (C8.pe_gc rfl gF) (by with_unfolding_all rfl)) (pw_or1 (pt_cmpR (op_isNotTyA (C := C)) (pe_callTy (call_typeA (C := C)) rfl T.z_type bt_type (pa_cons (pv 1) pa_nil)) (pe_bltn (v := .ty "tuple") rfl T.z_tuple bt_tuple rfl) (nomark _)))))) (pss_one (ps_ret pe_bl)) pss_nil)
      (pss_cons (ps_set (i := 2) sc__is_term.nd rfl (Or.inl rfl) (pe_ix ix_kdict (C8.pe_gc rfl gF) (pv 0) (fun _ _ => rfl)))
      (pss_cons (ps_if (pt_cmpR op_ne (pe_callB call_lenS rfl T.z_len bt_len (pa_cons (pv 1) pa_nil)) (pe_callB call_lenS rfl T.z_len bt_len (pa_cons (pv 2) pa_nil)) (nomark _)) (pss_one (ps_ret pe_bl)) pss_nil)
      (pss_one (ps_ret (pe_callB (cr_all rfl) rfl T.z_all bt_all (pa_cons (pe_lc (own := [("part", 3), ("form", 4)]) (g := gTup K 2 (gCons (gName 3) (gCons (gName 4) gNil))) rfl sc__is_term.nd (RZ.pi_zipA rfl T.z_zip (pa_cons (pv 1) (pa_cons (pv 2) pa_nil))) (blkOk_by (own := [("part", 3), ("form", 4)]) (N := ["kind", "term", "forms", "part", "form"]) (sc := C8.fnScope s__is_term) (by decide +kernel)) (fun _ _ _ _ _ => (pg_tup rfl (pgs_cons (pg_name (i := 3) sc__is_term.nd rfl (Or.inl rfl)) (pgs_cons (pg_name (i := 4) sc__is_term.nd rfl (Or.inl rfl)) pgs_nil)))) (fun _ _ _ _ _ => pts_nil) (fun _ _ _ _ _ => (pe_and (C8.pe_c c_is_word hr (by first | decide | omega) rfl (pa_cons (pv 3) pa_nil)) (pe_one (C8.pe_c c__has_form hr (by first | decide | omega) rfl (pa_cons (pv 3) (pa_cons (pv 4) pa_nil))))))) pa_nil))))))), ?_⟩
  refine ⟨_, rfl, xk, dk, rfl, hk, kyV_ok dk, .inl ⟨_, rfl⟩, _, rfl, ?_⟩
  by_cases c1 : kyV C dk = .ty "str"
  · obtain ⟨k, rfl⟩ := kyV_str.mp c1
    rw [decide_eq_true c1]
    cases hk
    rcases hf k hok with ⟨tf, fs, e1, kd, kt⟩ | ⟨e1, kn⟩
    · obtain ⟨es', n', u, kl, kk, kn, ru⟩ := id kd
      refine iteF ⟨_, rfl, k, some u, rfl, rfl, kn, _, rfl, iteF ?_⟩
      refine ⟨_, rfl, xt, dt, rfl, ht, kyV_ok dt, .inl ⟨_, rfl⟩, _, rfl, ?_⟩
      by_cases c2 : kyV C dt = .ty "tuple"
      · obtain ⟨ds, rfl⟩ := kyV_tup.mp c2
        rw [decide_eq_true c2]
        cases ht with
        | @tup ta xs _ hta hxs =>
          have hl := hxs.len
          refine iteF ⟨_, rfl, Fo, k, _, rfl, rfl, kd, ?_⟩
          refine ⟨_, rfl, ta, xs, rfl, .inr (SqT.of hta), _, rfl, tf, _, rfl, .inr (kt H), rfl, _, rfl, ?_⟩
          have eT : isTermD (.str k) (.tup ds) = (decide (ds.length = fs.length) && (ds.zip fs).all fun p => partOk p.1 p.2) := by
            simp only [isTermD, isTermK, e1]
          rw [eT] at q
          by_cases c3 : ds.length = fs.length
          · refine bF (by rw [hl, List.length_map, c3]; simp) ?_
            rw [decide_eq_true c3, Bool.true_and] at q
            refine ⟨_, rfl, _, rfl, ta, tf, xs, fs.map V.str, rfl, .inr ⟨SqT.of hta, kt H, fun Dl hD => ?_⟩⟩
            have hmin : ds.length = min xs.length (fs.map V.str).length := by rw [hl, List.length_map]; omega
            refine lc_it (walk_zipT (K := K) (a := ta) (b := tf) (xs := xs) (ys := fs.map V.str) hmin) (fun i H3 => Same H H3 ∧ H3 Dl = some (.lst (((ds.zip fs).take i).map fun p => V.bl (partOk p.1 p.2)))) ⟨same_new hD, upd_same⟩ (fun i H3 _ h => ⟨SqT.of (h.1 _ _ hta), kt H3⟩) ?_ ?_
            · rintro i v H3 H4 hi ⟨s3, hz3⟩ ⟨t, x, y, rfl, nt, rfl, ex, ey⟩
              have ex : xs[i]? = some x := ex
              obtain ⟨d, hd, hx⟩ := hxs.at ex
              obtain ⟨z, hz2, rfl⟩ : ∃ z, fs[i]? = some z ∧ y = V.str z := by
                have ey : (fs.map V.str)[i]? = some y := ey
                rw [List.getElem?_map] at ey
                cases h : fs[i]? with
                | none => rw [h] at ey; cases ey
                | some z => rw [h] at ey; exact ⟨z, rfl, (Option.some.inj ey).symm⟩
              have s4 := same_new (o := .tup [x, .str z]) nt
              refine ⟨t, [x, .str z], rfl, SqT.of upd_same, rfl, x, [.str z], rfl, .str z, [], rfl, rfl, rfl, yes ?_⟩
              refine ⟨_, rfl, x, d, rfl, hx.same (s3.trans s4), hz.part (List.mem_of_getElem? hd), fun H5 s5 => ⟨_, rfl, ?_⟩⟩
              have hpz : (ds.zip fs)[i]? = some (d, z) := by rw [List.getElem?_zip_eq_some]; exact ⟨hd, hz2⟩
              have s35 := (s3.trans s4).trans s5
              have hz5 := s5 _ _ (s4 _ _ hz3)
              have fin : ∀ r, r = partOk d z → ∃ acc, H5 Dl = some (.lst acc) ∧ acc.length < sizeLine ∧ Same H (upd H5 Dl (.lst (acc ++ [.bl r]))) ∧ (upd H5 Dl (.lst (acc ++ [.bl r]))) Dl = some (.lst (((ds.zip fs).take (i + 1)).map fun p => V.bl (partOk p.1 p.2))) := fun r er => by
                subst er
                refine ⟨_, hz5, Nat.lt_of_lt_of_le (show _ < 1000001 by rw [List.length_map, List.length_take]; have := hz.1; have := len_szL ds; simp only [sz] at *; omega) (by decide), same_put s35 hD, ?_⟩
                rw [upd_same, List.take_add_one, hpz, List.map_append]; rfl
              cases ho : okW 40 40 0 d with
              | true => exact iteT ⟨_, rfl, _, rfl, x, d, z, rfl, hx.same s35, fin _ (by simp [partOk, ho])⟩
              | false => exact iteF (fin _ (by simp [partOk, ho]))
            · rintro H3 ⟨s3, hz3⟩
              have hzl : (ds.zip fs).length = ds.length := by rw [List.length_zip]; omega
              rw [List.take_of_length_le (by omega)] at hz3
              refine ⟨Dl, (ds.zip fs).map fun p => partOk p.1 p.2, rfl, SqL.of (by rw [List.map_map]; exact hz3), ?_⟩
              have e9 : ((ds.zip fs).map fun p => partOk p.1 p.2).all id = (ds.zip fs).all fun p => partOk p.1 p.2 := by rw [List.all_map]; rfl
              rw [e9]
              exact q H3 s3
          · refine bT (by rw [hl, List.length_map, decide_eq_false (fun z => c3 (by have := V.int.inj z; omega))]; rfl) ?_
            rw [decide_eq_false c3, Bool.false_and] at q
            exact q H (Same.refl H)
      · rw [decide_eq_false c2]
        have e : isTermD (.str k) dt = false := by cases dt <;> first | rfl | exact absurd rfl c2
        rw [e] at q
        exact iteT (q H (Same.refl H))
    · refine iteF ⟨_, rfl, k, none, rfl, rfl, kn, _, rfl, iteT ?_⟩
      have e : isTermD (.str k) dt = false := by cases dt <;> simp [isTermD, isTermK, e1]
      rw [e] at q
      exact q H (Same.refl H)
  · rw [decide_eq_false c1]
    have e : isTermD dk dt = false := by cases dk <;> first | rfl | exact absurd rfl c1
    rw [e] at q
    exact iteT (q H (Same.refl H))
abbrev s_Atom___init__ : Stmt := L2.inClass (top 17) 0
theorem sc_Atom___init__ : FnScope ["self", "kind", "term", "rank"] ["self", "kind", "term"] (C8.fnScope s_Atom___init__) := C8.fnScope_by (by decide +kernel)
theorem ok_init {fI : Addr} {fdI : FuncData} (M : Mk K C fI) (hm : mg "Atom" = some (.ref C)) (F : C8.Fun K "__init__" "Atom.__init__" s_Atom___init__ fI fdI) (b : Binds K fdI ["self", "kind", "term"] []) (T : Txt K mg w C)
    (c__is_term : C8.Cal P w K mg base 4 "_is_term" (spTerm C) []) (c__rank_of_atom : C8.Cal P w K mg base 3 "_rank_of_atom" (spRk C) []) (c__most_rank : C8.Cal P w K mg base 1 "_most_rank" spMost []) : C8.Mak P w K mg base 5 "Atom" C (spInit C) [] := by
  refine C8.mak0 M hm F b .nil sc_Atom___init__ (fun vs H Q E h => ?_) (fun cdv A outer s H vs Q E hr h => ?_)
  · obtain ⟨p, dx, k, t, ds, rfl, _⟩ := h; rfl
  obtain ⟨p, dx, k, t, ds, rfl, hp, hx, ht, hrk, hz, q⟩ := h
  refine ⟨_, (pss_cons (ps_if (pt_not (pt_val (C8.pe_c c__is_term hr (by first | decide | omega) rfl (pa_cons (pv 1) (pa_cons (pv 2) pa_nil))))) (pss_one ps_never) pss_nil)
      (pss_cons (ps_set (i := 3) sc_Atom___init__.nd rfl (Or.inl rfl) (C8.pe_c c__rank_of_atom hr (by first | decide | omega) rfl (pa_cons (pv 1) (pa_cons (pv 2) pa_nil))))
      (pss_cons (ps_if (pt_cmpR op_gt (pv 3) (C8.pe_c c__most_rank hr (by first | decide | omega) rfl (pa_cons (pv 1) pa_nil)) (nomark _)) (pss_one ps_never) pss_nil)
      (pss_cons (ps_fld (pv 0) (pv 1) rfl)
      (pss_cons (ps_fld (pv 0) (pv 2) rfl)
      (pss_cons (ps_fld (pv 0) (pv 3) rfl)
      (pss_one (ps_fld (pv 0) pe_non rfl)))))))), ?_⟩
  refine ⟨_, rfl, _, rfl, _, _, .str k, .tup ds, rfl, .str k, hx, term_kind ht, hz, fun H1 s1 => ⟨_, rfl, ?_⟩⟩
  refine bF (by simp only [isTermD, ht]; rfl) ?_
  refine ⟨_, rfl, _, rfl, k, t, ds, rfl, hx.same s1, hz, fun H2 s2 => ?_⟩
  refine ⟨_, rfl, _, rfl, k, rfl, _, _, rfl, rfl, _, rfl, ?_⟩
  refine ifF (by omega) ?_
  have hp2 := s2 _ _ (s1 _ _ hp)
  refine ⟨_, rfl, _, rfl, p, C, dx, [], rfl, hp2, T.cl.cl, T.cl.nK, (by show 0 < 1000; decide), ?_⟩
  refine ⟨_, rfl, _, rfl, p, C, dx, _, rfl, upd_same, T.cl.cl, T.cl.nT, (by show 1 < 1000; decide), ?_⟩
  refine ⟨_, rfl, _, rfl, p, C, dx, _, rfl, upd_same, T.cl.cl, T.cl.nR, (by show 2 < 1000; decide), ?_⟩
  refine ⟨_, rfl, p, C, dx, _, rfl, upd_same, T.cl.cl, T.cl.nS, (by show 3 < 1000; decide), ?_⟩
  refine q _ (Eq.trans upd_same (congrArg (fun l => some (HO.ins C dx l)) (put_at k t _))) fun c o e n => ?_
  rw [upd_ne n, upd_ne n, upd_ne n, upd_ne n]
  exact s2 _ _ (s1 _ _ e)
end
end Hc

/-! .get of a written dict whose keys are tuples of texts -/
namespace Hr
open PySem PySem.Spec PyProof.Rows L2 Hc
def tH (w : World) (ks : List Str) : Int := PySem.W.hashW w.params (.tuple (ks.map PySem.W.WData.str))
theorem hashes_map (w : World) : ∀ ks : List Str, PySem.W.hashesW w.params (ks.map PySem.W.WData.str) = (ks.map (Sum.inr : Str → Key)).map (keyH w)
  | [] => rfl
  | k :: ks => by
    simp only [List.map_cons, PySem.W.hashesW, hashes_map w ks]
    rfl
theorem tH_eq (P : Program) (w : World) (ks : List Str) : tH w ks = (tupleKind (mixKind P w)).hash (ks.map (Sum.inr : Str → Key)) := by
  show PySem.W.hashW w.params (.tuple (ks.map PySem.W.WData.str)) = reduceHash (Builtin.Tuple.tupleHashOf ((ks.map (Sum.inr : Str → Key)).map (keyH w)))
  rw [PySem.W.hashW, hashes_map]
/-- a written dict from tuples of texts -/
structure KDT (K : PySem.W.Frag) (w : World) (g : Addr) (es : Array DictEntry) (n : Nat) (xs : List (List Str × Addr × Value)) : Prop where
  at_ : K.lookup g = some ⟨.type "dict", none, .dict es n, #[]⟩
  low : (g == sysModules) = false
  ent : es.toList = xs.map fun x => ⟨tH w x.1, .ref x.2.1, x.2.2⟩
  tup : ∀ x ∈ xs, KTup K x.2.1 x.1
  nd : (xs.map (·.1)).Nodup
def kxs (xs : List (List Str × Addr × Value)) : List (List Key × Addr × Value) := xs.map fun x => (x.1.map Sum.inr, x.2.1, x.2.2)
theorem txt_key {X : Cx} {pins : List (Addr × Obj)} {σ : L2.St} {H : Hp} {s : Shared} (I : Inv X pins σ H s) {b : Addr} {ks : List Str} (h : SqT X.K H b (ks.map V.str)) : (tupleKind (mixKind X.prog X.w)).is s.heap (ks.map (Sum.inr : Str → Key)) b := by
  obtain ⟨its, rv, ⟨o, h1, h2, n, h3⟩, hz⟩ := I.tuple h
  refine ⟨o, its.toArray, n, h1, h2, h3, ?_⟩
  have rv' : Vals ((ks.map (Sum.inr : Str → Key)).map kV) its := by
    rw [List.map_map]; exact rv
  simpa using items_are (P := X.prog) (w := X.w) rv'
theorem inr_nd : ∀ {l : List (List Str)}, l.Nodup → (l.map fun ks => ks.map (Sum.inr : Str → Key)).Nodup := fun {l} h => by
  refine List.pairwise_map.mpr (List.Pairwise.imp (fun {a b} n e => n ?_) h)
  have : ∀ {a b : List Str}, a.map (Sum.inr : Str → Key) = b.map Sum.inr → a = b := fun {a b} e => by
    induction a generalizing b with
    | nil => cases b with
      | nil => rfl
      | cons _ _ => simp at e
    | cons x a ih => cases b with
      | nil => simp at e
      | cons y b =>
        rw [List.map_cons, List.map_cons] at e
        injection e with e1 e2
        rw [Sum.inr.inj e1, ih e2]
  exact this e
theorem kdt_of {X : Cx} {g : Addr} {es : Array DictEntry} {n : Nat} {xs : List (List Str × Addr × Value)} (D : KDT X.K X.w g es n xs) {pins : List (Addr × Obj)} {σ : L2.St} {H : Hp} {s : Shared} (I : Inv X pins σ H s) : s.heap.DictOfH (tupleKind (mixKind X.prog X.w)) g (kxs xs) := by
  refine ⟨_, es, n, I.kIn _ _ D.at_, ⟨rfl, rfl, rfl⟩, rfl, ?_, fun x hx => ?_, ?_⟩
  · rw [D.ent]
    unfold kxs
    rw [List.map_map]
    refine List.map_congr_left fun x hx => ?_
    show (⟨tH X.w x.1, .ref x.2.1, x.2.2⟩ : DictEntry) = ⟨(tupleKind (mixKind X.prog X.w)).hash (x.1.map Sum.inr), .ref x.2.1, x.2.2⟩
    rw [tH_eq X.prog]
  · obtain ⟨y, hy, rfl⟩ := List.mem_map.mp hx
    exact txt_key I (D.tup y hy H)
  · unfold kxs
    rw [List.map_map]
    have := inr_nd D.nd
    rw [List.map_map] at this
    exact this
def txAt (xs : List (List Str × Addr × Value)) (ks : List Str) : Option Value := (xs.find? fun x => decide (x.1 = ks)).map (·.2.2)
theorem txAt_eq (xs : List (List Str × Addr × Value)) (ks : List Str) : (atKey (kxs xs) (ks.map (Sum.inr : Str → Key))).map (·.2) = txAt xs ks := by
  have inj : ∀ {a b : List Str}, a.map (Sum.inr : Str → Key) = b.map Sum.inr → a = b := fun {a b} e => by
    induction a generalizing b with
    | nil => cases b with
      | nil => rfl
      | cons _ _ => simp at e
    | cons x a ih => cases b with
      | nil => simp at e
      | cons y b =>
        rw [List.map_cons, List.map_cons] at e
        injection e with e1 e2
        rw [Sum.inr.inj e1, ih e2]
  induction xs with
  | nil => rfl
  | cons x xs ih =>
    unfold txAt atKey kxs at *
    rw [List.map_cons, List.find?_cons, List.find?_cons]
    by_cases h : x.1 = ks
    · rw [decide_eq_true h, decide_eq_true (show x.1.map (Sum.inr : Str → Key) = ks.map Sum.inr by rw [h])]; rfl
    · rw [decide_eq_false h, decide_eq_false (fun e => h (inj e))]; exact ih
def tGetWT (K : PySem.W.Frag) (g : Addr) (xs : List (List Str × Addr × Value)) (td ty : TE) : TE := fun σ H Q => td σ H fun x H1 => x = .ref g ∧ ty σ H1 fun y H2 => ∃ (b : Addr) (ks : List Str), y = .ref b ∧ SqT K H2 b (ks.map V.str) ∧ (txAt xs ks = none → Q .non H2) ∧ ∀ u, txAt xs ks = some u → ∃ v, RelV v u ∧ Q v H2
theorem pe_getWT {X : Cx} {g : Addr} {es : Array DictEntry} {n : Nat} {xs : List (List Str × Addr × Value)} {o e : Expr} {apos cpos : Pos} {td ty : TE} (D : KDT X.K X.w g es n xs) (hu : X.A.units + 1 < cLine) (ho : PE X o td) (he : PE X e ty) (m : M1 X o "get" apos e cpos := by constructor <;> rfl) : PE X (.Call (.Attribute o "get" apos) [e] [] cpos) (tGetWT X.K g xs td ty) := by
  have ty_ : ∀ {pins : List (Addr × Obj)} {σ : L2.St} {H : Hp} {s : Shared}, Inv X pins σ H s → s.TypeIs (.ref g) "dict" := fun I => (kdt_of D I).typeIs
  refine ⟨fun pins s σ H Q I h => wpAny_Call_method m.base m.few m.line PySem.F.plainAttrs_dict PySem.F.slot_dict_get PySem.F.type_dict_get (thn (ho.run pins s σ H _ I h) fun u s1 hh => ?_)⟩
  obtain ⟨x, H1, J, rx, ex, q1⟩ := hh
  subst ex
  cases rx
  refine ⟨ty_ J, fun b q => ?_, ?_⟩
  · cases q
    exact ⟨_, J.kIn _ _ D.at_, rfl⟩
  rw [m.trees]
  refine Calls.callWith_builtin rfl (Calls.evalArgs_plain (Calls.spliced_cons (thn (he.run pins s1 σ H1 _ J q1) fun iv s2 hk => Calls.spliced_nil ?_)))
  obtain ⟨y, H2, J2, ry, b, ks, ey, hb, hn, hs⟩ := hk
  subst ey
  cases ry
  refine call_meetsIn PySem.F.slot_dict_get (ty_ J2) PySem.F.entry_dict_get (PySem.F.args_dict_get_2 _ _) (meetsH_dict_get (tupleKind (mixKind X.prog X.w)) g b D.low) ⟨?_, _, _, txt_key J2 hb, kdt_of D J2, ?_⟩
  · show X.A.units + 1 < cLine
    exact hu
  rw [txAt_eq]
  cases h : txAt xs ks with
  | none => exact ⟨.non, H2, J2.tok _, rfl, hn h⟩
  | some v0 =>
    obtain ⟨v, rv, q⟩ := hs v0 h
    exact ⟨v, H2, J2.tok _, rv, q⟩
end Hr

namespace Hc
open PySem PySem.Spec PyProof.Rows L2 Hr
/-! ### slices and sums of tuples, whatever they are -/
theorem cut_to (xs : List V) (k : Nat) : cutV xs none (some (k : Int)) = xs.take k := by
  unfold cutV
  rw [HT.sIx_none, HT.sIx_nat, List.drop_zero, Nat.sub_zero]
  by_cases h : k ≤ xs.length
  · rw [Nat.min_eq_left h]
  · rw [Nat.min_eq_right (by omega), List.take_of_length_le (Nat.le_refl _), List.take_of_length_le (by omega)]
theorem cut_from (xs : List V) (k : Nat) : cutV xs (some (k : Int)) none = xs.drop k := by
  unfold cutV
  rw [HT.sIx_none, HT.sIx_nat]
  by_cases h : k ≤ xs.length
  · rw [Nat.min_eq_left h]
    exact List.take_of_length_le (by rw [List.length_drop]; exact Nat.le_refl _)
  · rw [Nat.min_eq_right (by omega), List.drop_of_length_le (Nat.le_refl _), List.drop_of_length_le (by omega), List.take_nil]
theorem sl_go {K : PySem.W.Frag} {H : Hp} {a : Addr} {xs : List V} {lo hi : Option Int} {Q : VK} (h : H a = some (.tup xs)) (q : ∀ H' p, Same H H' → H' p = some (.tup (cutV xs lo hi)) → Q (.ref p) H') : rSlA K (.ref a) lo hi H Q := by
  refine ⟨a, xs, rfl, SqT.of h, fun z => q H a (Same.refl H) ?_, fun _ p hp => q _ p (same_new hp) upd_same⟩
  have e : cutV xs lo hi = xs := by
    unfold cutV
    rw [z.1, z.2, List.drop_zero, Nat.sub_zero]
    exact List.take_of_length_le (Nat.le_refl _)
  rw [e]; exact h
theorem sl_goL {K : PySem.W.Frag} {σ : L2.St} {H : Hp} {a : Addr} {xs : List V} {lo : Int} {Q : VK} (h : H a = some (.tup xs)) (q : ∀ H' p, Same H H' → H' p = some (.tup (cutV xs (some lo) none)) → Q (.ref p) H') : tNoPart σ H (fun u H3 => rSlA K (.ref a) (some lo) u H3 Q) := sl_go h q
theorem cat_go {K : PySem.W.Frag} {H : Hp} {a b : Addr} {xs ys : List V} {Q : VK} (ha : H a = some (.tup xs)) (hb : H b = some (.tup ys)) (hl : xs.length + ys.length ≤ sizeLine) (q : ∀ H' p, Same H H' → H' p = some (.tup (xs ++ ys)) → Q (.ref p) H') : rCatA K (.ref a) (.ref b) H Q := by
  refine ⟨a, b, xs, ys, rfl, rfl, SqT.of ha, SqT.of hb, hl, fun z => q H b (Same.refl H) (by rw [z]; exact hb), fun _ z => q H a (Same.refl H) (by rw [z, List.append_nil]; exact ha), fun _ _ p hp => q _ p (same_new hp) upd_same⟩
theorem isA_take {C : Addr} {H : Hp} : ∀ {xs : List V} {ds : List D} (n : Nat), IsA C H xs ds → IsA C H (xs.take n) (ds.take n)
  | _, _, 0, _ => by simp only [List.take_zero]; exact .nil
  | _, _, n + 1, .nil => by simp only [List.take_nil]; exact .nil
  | _, _, n + 1, .cons h t => by simp only [List.take_succ_cons]; exact .cons h (isA_take n t)
theorem isA_drop {C : Addr} {H : Hp} : ∀ {xs : List V} {ds : List D} (n : Nat), IsA C H xs ds → IsA C H (xs.drop n) (ds.drop n)
  | _, _, 0, h => by simp only [List.drop_zero]; exact h
  | _, _, n + 1, .nil => by simp only [List.drop_nil]; exact .nil
  | _, _, n + 1, .cons h t => by simp only [List.drop_succ_cons]; exact isA_drop n t
theorem szLtk : ∀ (ds : List D) (n : Nat), szL (ds.take n) ≤ szL ds
  | _, 0 => by simp only [List.take_zero, szL]; omega
  | [], n + 1 => by simp only [List.take_nil, szL]; omega
  | d :: ds, n + 1 => by simp only [List.take_succ_cons, szL]; have := szLtk ds n; omega
theorem szLdr : ∀ (ds : List D) (n : Nat), szL (ds.drop n) ≤ szL ds
  | _, 0 => by simp only [List.drop_zero]; omega
  | [], n + 1 => by simp only [List.drop_nil, szL]; omega
  | d :: ds, n + 1 => by simp only [List.drop_succ_cons, szL]; have := szLdr ds n; omega
theorem txlL_app : ∀ (a b : List D), txlL (a ++ b) ↔ txlL a ∧ txlL b
  | [], b => by simp [txlL]
  | x :: a, b => by rw [List.cons_append]; simp only [txlL]; rw [txlL_app a b, and_assoc]
theorem txlLtk : ∀ (ds : List D) (n : Nat), txlL ds → txlL (ds.take n)
  | _, 0, _ => by simp only [List.take_zero, txlL]
  | [], n + 1, _ => by simp only [List.take_nil, txlL]
  | d :: ds, n + 1, h => by simp only [txlL] at h; simp only [List.take_succ_cons, txlL]; exact ⟨h.1, txlLtk ds n h.2⟩
theorem txlLdr : ∀ (ds : List D) (n : Nat), txlL ds → txlL (ds.drop n)
  | _, 0, h => by simp only [List.drop_zero]; exact h
  | [], n + 1, _ => by simp only [List.drop_nil, txlL]
  | d :: ds, n + 1, h => by simp only [txlL] at h; simp only [List.drop_succ_cons]; exact txlLdr ds n h.2
/-! ### terms that are none -/
theorem bad_len {k : Str} {fs : List Str} {ds : List D} (h : formsOf k = some fs) (hl : ds.length ≠ fs.length) : isTermK k ds = false := by
  unfold isTermK; rw [h]; simp [hl]
theorem bad_at {k : Str} {fs : List Str} {ds : List D} (h : formsOf k = some fs) {i : Nat} {d : D} {z : Str} (h1 : ds[i]? = some d) (h2 : fs[i]? = some z) (hb : partOk d z = false) : isTermK k ds = false := by
  unfold isTermK; rw [h]
  have h3 : (ds.zip fs)[i]? = some (d, z) := List.getElem?_zip_eq_some.mpr ⟨h1, h2⟩
  have h4 : ((ds.zip fs).all fun p => partOk p.1 p.2) = false := by
    rw [List.all_eq_false]
    exact ⟨(d, z), List.mem_of_getElem? h3, by simp [hb]⟩
  simp only [h4, Bool.and_false]
theorem set_at {ds : List D} {i : Nat} {e : D} {r : List D} (h : i ≤ ds.length) : (ds.take i ++ [e] ++ r)[i]? = some e := by
  have h1 : (ds.take i).length = i := by rw [List.length_take]; omega
  rw [List.append_assoc, List.getElem?_append_right (by omega), h1, Nat.sub_self]; rfl
/-- a pair of a kind and a term that is none -/
def BadP (dk dt : D) : Prop := KindOk dk ∧ Fit dt ∧ isTermD dk dt = false
def RowB (C : Addr) (H : Hp) (x : V) : Prop := ∃ a xk xt dk dt, x = .ref a ∧ H a = some (.tup [xk, xt]) ∧ Is C H xk dk ∧ Is C H xt dt ∧ BadP dk dt
theorem RowB.same {C : Addr} {H H' : Hp} {x : V} (s : Same H H') (h : RowB C H x) : RowB C H' x := by
  obtain ⟨a, xk, xt, dk, dt, rfl, h1, h2, h3, h4⟩ := h
  exact ⟨a, xk, xt, dk, dt, rfl, s _ _ h1, h2.same s, h3.same s, h4⟩
/-! ### a heap without some cells -/
def nx (ps : List Addr) (H : Hp) : Hp := fun b => if b ∈ ps then none else H b
theorem nx_le {ps : List Addr} {H : Hp} : Same (nx ps H) H := fun b o e => by
  unfold nx at e
  by_cases h : b ∈ ps
  · rw [if_pos h] at e; cases e
  · rwa [if_neg h] at e
theorem nx_off {ps : List Addr} {H : Hp} {b : Addr} (h : b ∉ ps) : nx ps H b = H b := if_neg h
theorem nx_in {ps : List Addr} {H : Hp} {b : Addr} {o : HO} (e : nx ps H b = some o) : b ∉ ps := fun h => by
  unfold nx at e; rw [if_pos h] at e; cases e
theorem nx_same {ps : List Addr} {H H' : Hp} (s : Same H H') : Same (nx ps H) (nx ps H') := fun x o e => by
  have h := nx_in e
  rw [nx_off h] at e ⊢
  exact s _ _ e
theorem nx_upd {ps : List Addr} {H : Hp} {l : Addr} {o : HO} (h : l ∈ ps) : Same (nx ps H) (nx ps (upd H l o)) := fun x u e => by
  have n := nx_in e
  rw [nx_off n] at e ⊢
  rw [upd_ne (fun z => n (by rw [z]; exact h))]; exact e
/-- a fresh cell is left out, too -/
theorem nx_add {ps : List Addr} {H : Hp} {l : Addr} {o : HO} (h : H l = none) : Same (nx ps H) (nx (ps ++ [l]) (upd H l o)) := fun x u e => by
  have n := nx_in e
  rw [nx_off n] at e
  have nl : x ≠ l := fun z => by rw [z, h] at e; cases e
  rw [nx_off (by simp [n, nl]), upd_ne nl]; exact e
end Hc

namespace Hc
open PySem PySem.Spec PyProof.Rows L2 Hr
def nameD : D → Bool | .tup (.str _ :: _) => true | _ => false
def spHN (C : Addr) : Sp := fun vs H Q _ => ∃ x d, vs = [x] ∧ Is C H x d ∧ Q (.bl (nameD d)) H
def belD (d : D) (m : Int) : Bool := match d with | .int i => decide (0 ≤ i) && decide (i < m) | _ => false
def formB (d : D) (nm : Str) (m : Int) : Bool := match d with | .tup (.str k :: ds) => decide (((ds.length + 1 : Nat) : Int) = m) && decide (k = nm) | _ => false
def spBel (C : Addr) : Sp := fun vs H Q _ => ∃ x d m, vs = [x, .int m] ∧ Is C H x d ∧ Q (.bl (belD d m)) H
def spBel1 (C : Addr) (m : Int) : Sp := fun vs H Q _ => ∃ x d, vs = [x] ∧ Is C H x d ∧ Q (.bl (belD d m)) H
def spForm (C : Addr) : Sp := fun vs H Q _ => ∃ x d nm m, vs = [x, .str nm, .int m] ∧ Is C H x d ∧ 0 < m ∧ Q (.bl (formB d nm m)) H
def optV : Option Int → V | some g => .int g | none => .non
def grO (nm : Str) (d : D) : Option Int := match d with | .tup [.str k, .int g] => if k = nm ∧ 0 ≤ g ∧ g < 24 then some g else none | _ => none
def fromOne (d : D) : Bool := match d with | .int i => numOk i && decide (0 < i) | _ => false
def isNon (d : D) : Bool := match d with | .non => true | _ => false
def lvD (d : D) : Bool := match d with | .tup [.str k, .int g, e] => decide (k = "leaving") && (decide (0 ≤ g) && decide (g < 24)) && (isNon e || fromOne e) | _ => false
def outD (d : D) : Bool := match d with | .tup [.str k, e] => decide (k = "out") && fromOne e | _ => false
def rootW (d : D) : Bool := isNon d || (grO "table" d).isSome || lvD d
def entryW (d : D) : Bool := match d with | .str s => decide (s = "destroyed") | d => (grO "data" d).isSome || (grO "shared" d).isSome || outD d || isNon d || lvD d
def spGr (C : Addr) : Sp := fun vs H Q _ => ∃ x d nm, vs = [x, .str nm] ∧ Is C H x d ∧ Q (optV (grO nm d)) H
def spGr1 (C : Addr) (nm : Str) : Sp := fun vs H Q _ => ∃ x d, vs = [x] ∧ Is C H x d ∧ Q (optV (grO nm d)) H
def spD1 (C : Addr) (g : D → Bool) : Sp := fun vs H Q _ => ∃ x d, vs = [x] ∧ Is C H x d ∧ Q (.bl (g d)) H
section
variable {P : Program} {w : World} {K : PySem.W.Frag} {mg : Str → Option Value} {base : Heap} {f : Addr} {fd : FuncData} {C : Addr}
abbrev s_has_name : Stmt := top 36
theorem sc_has_name : FnScope ["value"] ["value"] (C8.fnScope s_has_name) := C8.fnScope_by (by decide +kernel)
theorem ok_has_name (F : C8.Def K mg "has_name" s_has_name f fd) (b : Binds K fd ["value"] []) (T : Txt K mg w C) : C8.Cal P w K mg base 1 "has_name" (spHN C) [] := by
  refine C8.cal0 F b .nil sc_has_name (fun vs H Q E h => ?_) (fun cdv A outer s H vs Q E hr h => ?_)
  · obtain ⟨x, d, rfl, _⟩ := h; rfl
  obtain ⟨x, d, rfl, hx, q⟩ := h
  refine ⟨_, (pss_one (ps_ret (pe_and (pe_cmpR (op_isTyA (C := C)) (pe_callTy (call_typeA (C := C)) rfl T.z_type bt_type (pa_cons (pv 0) pa_nil)) (pe_bltn (v := .ty "tuple") rfl T.z_tuple bt_tuple rfl) (nomark _)) (pe_and (pe_cmpR op_gt (pe_callB call_lenS rfl T.z_len bt_len (pa_cons (pv 0) pa_nil)) pe_int (nomark _)) (pe_one (pe_cmpR (op_isTyA (C := C)) (pe_callTy (call_typeA (C := C)) rfl T.z_type bt_type (pa_cons (pe_ix ix_tup (pv 0) pe_int (fun _ _ => rfl)) pa_nil)) (pe_bltn (v := .ty "str") rfl T.z_str bt_str rfl) (nomark _))))))), ?_⟩
  refine ⟨_, rfl, x, d, rfl, hx, kyV_ok d, .inl ⟨_, rfl⟩, _, rfl, ?_⟩
  by_cases ct : kyV C d = .ty "tuple"
  · refine ifT ct ?_
    obtain ⟨ds, rfl⟩ := kyV_tup.mp ct
    cases hx with
    | @tup a xs _ ha hxs =>
    refine ⟨_, rfl, a, xs, rfl, .inr (SqT.of ha), _, _, rfl, rfl, _, rfl, ?_⟩
    cases hxs with
    | nil => exact ifF (by simp) q
    | @cons y ys e es hy hys =>
      refine ifT (by simp) ⟨_, rfl, a, _, 0, y, rfl, rfl, SqT.of ha, atI_nat (j := 0) rfl, y, e, rfl, hy, kyV_ok e, .inl ⟨_, rfl⟩, ?_⟩
      have h : nameD (.tup (e :: es)) = decide (kyV C e = .ty "str") := by cases e <;> simp [nameD, kyV]
      rw [h] at q; exact q
  · have h : nameD d = false := by cases d <;> first | rfl | exact absurd rfl ct
    rw [h] at q
    exact ifF ct q
abbrev s_is_form : Stmt := top 15
theorem sc_is_form : FnScope ["value", "name", "many"] ["value", "name", "many"] (C8.fnScope s_is_form) := C8.fnScope_by (by decide +kernel)
theorem ok_is_form (F : C8.Def K mg "is_form" s_is_form f fd) (b : Binds K fd ["value", "name", "many"] []) (T : Txt K mg w C) : C8.Cal P w K mg base 1 "is_form" (spForm C) [] := by
  refine C8.cal0 F b .nil sc_is_form (fun vs H Q E h => ?_) (fun cdv A outer s H vs Q E hr h => ?_)
  · obtain ⟨x, d, nm, m, rfl, _⟩ := h; rfl
  obtain ⟨x, d, nm, m, rfl, hx, hm, q⟩ := h
  refine ⟨_, (pss_one (ps_ret (pe_and (pe_cmpR (op_isTyA (C := C)) (pe_callTy (call_typeA (C := C)) rfl T.z_type bt_type (pa_cons (pv 0) pa_nil)) (pe_bltn (v := .ty "tuple") rfl T.z_tuple bt_tuple rfl) (nomark _)) (pe_and (pe_cmpR op_eq (pe_callB call_lenS rfl T.z_len bt_len (pa_cons (pv 0) pa_nil)) (pv 2) (nomark _)) (pe_and (pe_cmpR (op_isTyA (C := C)) (pe_callTy (call_typeA (C := C)) rfl T.z_type bt_type (pa_cons (pe_ix ix_tup (pv 0) pe_int (fun _ _ => rfl)) pa_nil)) (pe_bltn (v := .ty "str") rfl T.z_str bt_str rfl) (nomark _)) (pe_one (pe_cmpR op_eq (pe_ix ix_tup (pv 0) pe_int (fun _ _ => rfl)) (pv 1) (nomark _)))))))), ?_⟩
  refine ⟨_, rfl, x, d, rfl, hx, kyV_ok d, .inl ⟨_, rfl⟩, _, rfl, ?_⟩
  by_cases ct : kyV C d = .ty "tuple"
  · refine ifT ct ?_
    obtain ⟨ds, rfl⟩ := kyV_tup.mp ct
    cases hx with
    | @tup a xs _ ha hxs =>
    have hl := hxs.len
    refine ⟨_, rfl, a, xs, rfl, .inr (SqT.of ha), _, rfl, rfl, _, rfl, ?_⟩
    by_cases cm : (xs.length : Int) = m
    · refine ifT (by rw [cm]) ?_
      cases hxs with
      | nil => simp at cm; omega
      | @cons y ys e es hy hys =>
        refine ⟨_, rfl, a, _, 0, y, rfl, rfl, SqT.of ha, atI_nat (j := 0) rfl, y, e, rfl, hy, kyV_ok e, .inl ⟨_, rfl⟩, _, rfl, ?_⟩
        by_cases cs : kyV C e = .ty "str"
        · obtain ⟨k, rfl⟩ := kyV_str.mp cs
          cases hy
          refine ifT cs ⟨_, rfl, a, _, 0, _, rfl, rfl, SqT.of ha, atI_nat (j := 0) rfl, _, rfl, rfl, ?_⟩
          have e1 : formB (.tup (.str k :: es)) nm m = decide (V.str k = V.str nm) := by
            have e2 : (((es.length + 1 : Nat) : Int) = m) := by rw [← cm]; simp at hl; simp [hl]
            simp only [formB]
            rw [decide_eq_true e2, Bool.true_and]
            by_cases h : k = nm
            · subst h; simp
            · rw [decide_eq_false h, decide_eq_false (fun z => h (V.str.inj z))]
          rw [e1] at q; exact q
        · have e1 : formB (.tup (e :: es)) nm m = false := by cases e <;> first | rfl | exact absurd rfl cs
          rw [e1] at q
          exact ifF cs q
    · have e1 : formB (.tup ds) nm m = false := by
        unfold formB
        split
        · rename_i k ds' q'
          cases q'
          rw [decide_eq_false (fun z => cm (by rw [hl]; exact z))]; rfl
        · rfl
      rw [e1] at q
      exact ifF (fun z => cm (V.int.inj z)) q
  · have h : formB d nm m = false := by cases d <;> first | rfl | exact absurd rfl ct
    rw [h] at q
    exact ifF ct q
abbrev s__is_below : Stmt := top 40
theorem sc__is_below : FnScope ["value", "many"] ["value", "many"] (C8.fnScope s__is_below) := C8.fnScope_by (by decide +kernel)
theorem ok__is_below (F : C8.Def K mg "_is_below" s__is_below f fd) (b : Binds K fd ["value", "many"] []) (T : Txt K mg w C) : C8.Cal P w K mg base 1 "_is_below" (spBel C) [] := by
  refine C8.cal0 F b .nil sc__is_below (fun vs H Q E h => ?_) (fun cdv A outer s H vs Q E hr h => ?_)
  · obtain ⟨x, d, m, rfl, _⟩ := h; rfl
  obtain ⟨x, d, m, rfl, hx, q⟩ := h
  refine ⟨_, (pss_one (ps_ret (pe_and (pe_cmpR (op_isTyA (C := C)) (pe_callTy (call_typeA (C := C)) rfl T.z_type bt_type (pa_cons (pv 0) pa_nil)) (pe_bltn (v := .ty "int") rfl T.z_int bt_int rfl) (nomark _)) (pe_one (pe_chain op_le op_lt pe_int (pv 0) (pv 1)))))), ?_⟩
  refine ⟨_, rfl, x, d, rfl, hx, kyV_ok d, .inl ⟨_, rfl⟩, _, rfl, ?_⟩
  by_cases c : kyV C d = .ty "int"
  · refine ifT c ?_
    obtain ⟨i, rfl⟩ := kyV_int.mp c
    cases hx
    refine ⟨_, rfl, _, _, rfl, rfl, _, rfl, ite2 (fun c => ?_) (fun c => ?_)⟩
    · refine ⟨_, rfl, _, _, rfl, rfl, ?_⟩
      have e : belD (.int i) m = decide (i < m) := by simp [belD, of_decide_eq_true c]
      rw [e] at q; exact q
    · have e : belD (.int i) m = false := by simp [belD] at c ⊢; omega
      rw [e] at q; exact q
  · have e : belD d m = false := by cases d <;> first | rfl | exact absurd rfl c
    rw [e] at q
    exact ifF c q
abbrev s_is_page : Stmt := top 34
theorem sc_is_page : FnScope ["value"] ["value"] (C8.fnScope s_is_page) := C8.fnScope_by (by decide +kernel)
theorem ok_is_page (F : C8.Def K mg "is_page" s_is_page f fd) (b : Binds K fd ["value"] []) (T : Txt K mg w C) (c__is_below : C8.Cal P w K mg base 1 "_is_below" (spBel C) []) : C8.Cal P w K mg base 2 "is_page" (spBel1 C 16) [] := by
  refine C8.cal0 F b .nil sc_is_page (fun vs H Q E h => ?_) (fun cdv A outer s H vs Q E hr h => ?_)
  · obtain ⟨x, d, rfl, _⟩ := h; rfl
  obtain ⟨x, d, rfl, hx, q⟩ := h
  refine ⟨_, (pss_one (ps_ret (C8.pe_c c__is_below hr (by first | decide | omega) rfl (pa_cons (pv 0) (pa_cons (C8.pe_gc rfl T.c_PAGES) pa_nil))))), ?_⟩
  exact ⟨_, rfl, x, d, 16, rfl, hx, q⟩
abbrev s_is_granule : Stmt := top 32
theorem sc_is_granule : FnScope ["value"] ["value"] (C8.fnScope s_is_granule) := C8.fnScope_by (by decide +kernel)
theorem ok_is_granule (F : C8.Def K mg "is_granule" s_is_granule f fd) (b : Binds K fd ["value"] []) (T : Txt K mg w C) (c__is_below : C8.Cal P w K mg base 1 "_is_below" (spBel C) []) : C8.Cal P w K mg base 2 "is_granule" (spBel1 C 24) [] := by
  refine C8.cal0 F b .nil sc_is_granule (fun vs H Q E h => ?_) (fun cdv A outer s H vs Q E hr h => ?_)
  · obtain ⟨x, d, rfl, _⟩ := h; rfl
  obtain ⟨x, d, rfl, hx, q⟩ := h
  refine ⟨_, (pss_one (ps_ret (C8.pe_c c__is_below hr (by first | decide | omega) rfl (pa_cons (pv 0) (pa_cons (C8.pe_gc rfl T.c_GRANULES) pa_nil))))), ?_⟩
  exact ⟨_, rfl, x, d, 24, rfl, hx, q⟩
abbrev s_is_processor : Stmt := top 33
theorem sc_is_processor : FnScope ["value"] ["value"] (C8.fnScope s_is_processor) := C8.fnScope_by (by decide +kernel)
theorem ok_is_processor (F : C8.Def K mg "is_processor" s_is_processor f fd) (b : Binds K fd ["value"] []) (T : Txt K mg w C) (c__is_below : C8.Cal P w K mg base 1 "_is_below" (spBel C) []) : C8.Cal P w K mg base 2 "is_processor" (spBel1 C 3) [] := by
  refine C8.cal0 F b .nil sc_is_processor (fun vs H Q E h => ?_) (fun cdv A outer s H vs Q E hr h => ?_)
  · obtain ⟨x, d, rfl, _⟩ := h; rfl
  obtain ⟨x, d, rfl, hx, q⟩ := h
  refine ⟨_, (pss_one (ps_ret (C8.pe_c c__is_below hr (by first | decide | omega) rfl (pa_cons (pv 0) (pa_cons (C8.pe_gc rfl T.c_PROCESSORS) pa_nil))))), ?_⟩
  exact ⟨_, rfl, x, d, 3, rfl, hx, q⟩
theorem formB_two {d : D} {nm : Str} (h : formB d nm 2 = true) : ∃ e, d = .tup [.str nm, e] := by
  unfold formB at h
  split at h
  · rename_i k ds
    simp only [Bool.and_eq_true, decide_eq_true_eq] at h
    match ds, h.1 with
    | [e], _ => exact ⟨e, by rw [h.2]⟩
  · cases h
theorem formB_three {d : D} {nm : Str} (h : formB d nm 3 = true) : ∃ e1 e2, d = .tup [.str nm, e1, e2] := by
  unfold formB at h
  split at h
  · rename_i k ds
    simp only [Bool.and_eq_true, decide_eq_true_eq] at h
    match ds, h.1 with
    | [e1, e2], _ => exact ⟨e1, e2, by rw [h.2]⟩
  · cases h
theorem bel_int {e : D} {m : Int} (h : belD e m = true) : ∃ i, e = .int i ∧ 0 ≤ i ∧ i < m := by
  unfold belD at h
  split at h
  · rename_i i
    simp only [Bool.and_eq_true, decide_eq_true_eq] at h
    exact ⟨i, rfl, h⟩
  · cases h
theorem grO_form {d : D} {nm : Str} (h : formB d nm 2 = false) : grO nm d = none := by
  unfold grO
  split
  · rename_i k g
    rw [if_neg fun z => ?_]
    unfold formB at h
    simp only [z.1] at h
    simp at h
  · rfl
abbrev s_granule_of : Stmt := top 45
theorem sc_granule_of : FnScope ["word", "name"] ["word", "name"] (C8.fnScope s_granule_of) := C8.fnScope_by (by decide +kernel)
theorem ok_granule_of (F : C8.Def K mg "granule_of" s_granule_of f fd) (b : Binds K fd ["word", "name"] []) (T : Txt K mg w C) (c_is_form : C8.Cal P w K mg base 1 "is_form" (spForm C) []) (c_is_granule : C8.Cal P w K mg base 2 "is_granule" (spBel1 C 24) []) : C8.Cal P w K mg base 3 "granule_of" (spGr C) [] := by
  refine C8.cal0 F b .nil sc_granule_of (fun vs H Q E h => ?_) (fun cdv A outer s H vs Q E hr h => ?_)
  · obtain ⟨x, d, nm, rfl, _⟩ := h; rfl
  obtain ⟨x, d, nm, rfl, hx, q⟩ := h
  refine ⟨_, (pss_cons (ps_if (PW.pt (pw_and (pt_val (C8.pe_c c_is_form hr (by first | decide | omega) rfl (pa_cons (pv 0) (pa_cons (pv 1) (pa_cons pe_int pa_nil))))) (pw_and1 (pt_val (C8.pe_c c_is_granule hr (by first | decide | omega) rfl (pa_cons (pe_ix ix_tup (pv 0) pe_int (fun _ _ => rfl)) pa_nil)))))) (pss_one (ps_ret (pe_ix ix_tup (pv 0) pe_int (fun _ _ => rfl)))) pss_nil)
      (pss_one (ps_ret pe_non))), ?_⟩
  refine ⟨_, rfl, _, rfl, x, d, nm, 2, rfl, hx, by decide, _, rfl, ?_⟩
  cases h1 : formB d nm 2 with
  | false =>
    rw [grO_form h1] at q
    exact bF rfl q
  | true =>
    obtain ⟨e, rfl⟩ := formB_two h1
    cases hx with
    | @tup a xs _ ha hxs =>
    cases hxs with
    | @cons y0 _ _ _ i0 hxs => cases hxs with
    | @cons y1 _ _ _ i1 hxs =>
    cases hxs
    refine bT rfl ⟨_, rfl, a, _, 1, y1, rfl, rfl, SqT.of ha, atI_nat (j := 1) rfl, y1, e, rfl, i1, _, rfl, ?_⟩
    cases h2 : belD e 24 with
    | false =>
      have : grO nm (.tup [.str nm, e]) = none := by
        unfold grO
        split
        · rename_i k g z
          cases z
          rw [if_neg fun z => ?_]
          unfold belD at h2
          simp [z.2.1, z.2.2] at h2
        · rfl
      rw [this] at q
      exact bF rfl q
    | true =>
      obtain ⟨i, rfl, g0, g1⟩ := bel_int h2
      have : grO nm (.tup [.str nm, .int i]) = some i := by
        show (if nm = nm ∧ 0 ≤ i ∧ i < 24 then some i else none) = _
        rw [if_pos ⟨rfl, g0, g1⟩]
      rw [this] at q
      cases i1
      exact bT rfl ⟨_, rfl, a, _, 1, _, rfl, rfl, SqT.of ha, atI_nat (j := 1) rfl, q⟩
abbrev s_leaf_of : Stmt := top 46
theorem sc_leaf_of : FnScope ["word"] ["word"] (C8.fnScope s_leaf_of) := C8.fnScope_by (by decide +kernel)
theorem ok_leaf_of (F : C8.Def K mg "leaf_of" s_leaf_of f fd) (b : Binds K fd ["word"] []) (T : Txt K mg w C) (c_granule_of : C8.Cal P w K mg base 3 "granule_of" (spGr C) []) : C8.Cal P w K mg base 4 "leaf_of" (spGr1 C "table") [] := by
  refine C8.cal0 F b .nil sc_leaf_of (fun vs H Q E h => ?_) (fun cdv A outer s H vs Q E hr h => ?_)
  · obtain ⟨x, d, rfl, _⟩ := h; rfl
  obtain ⟨x, d, rfl, hx, q⟩ := h
  refine ⟨_, (pss_one (ps_ret (C8.pe_c c_granule_of hr (by first | decide | omega) rfl (pa_cons (pv 0) (pa_cons pe_str pa_nil))))), ?_⟩
  exact ⟨_, rfl, x, d, "table", rfl, hx, q⟩
abbrev s__is_from_one_on : Stmt := top 52
theorem sc__is_from_one_on : FnScope ["value"] ["value"] (C8.fnScope s__is_from_one_on) := C8.fnScope_by (by decide +kernel)
theorem ok__is_from_one_on (F : C8.Def K mg "_is_from_one_on" s__is_from_one_on f fd) (b : Binds K fd ["value"] []) (T : Txt K mg w C) (c_is_number : C8.Cal P w K mg base 1 "is_number" (spB C (fun _ => True) isNum) []) : C8.Cal P w K mg base 2 "_is_from_one_on" (spB C (fun _ => True) fromOne) [] := by
  refine C8.cal0 F b .nil sc__is_from_one_on (fun vs H Q E h => ?_) (fun cdv A outer s H vs Q E hr h => ?_)
  · obtain ⟨x, d, rfl, _⟩ := h; rfl
  obtain ⟨x, d, rfl, hx, _, q⟩ := h
  refine ⟨_, (pss_one (ps_ret (pe_and (C8.pe_c c_is_number hr (by first | decide | omega) rfl (pa_cons (pv 0) pa_nil)) (pe_one (pe_cmpR op_gt (pv 0) pe_int (nomark _)))))), ?_⟩
  refine ⟨_, rfl, x, d, rfl, hx, trivial, fun H1 s1 => ⟨_, rfl, ?_⟩⟩
  have q1 := q H1 s1
  cases h1 : isNum d with
  | false =>
    have e : fromOne d = false := by cases d <;> first | rfl | (simp only [isNum] at h1; simp [fromOne, h1])
    rw [e] at q1
    exact bF rfl q1
  | true =>
    obtain ⟨i, rfl⟩ : ∃ i, d = .int i := by cases d <;> first | exact ⟨_, rfl⟩ | (simp [isNum] at h1; done)
    cases hx
    have e : fromOne (.int i) = decide (0 < i) := by simp only [isNum] at h1; simp [fromOne, h1]
    rw [e] at q1
    exact bT rfl ⟨_, rfl, _, _, rfl, rfl, q1⟩
end
end Hc

namespace Hc
open PySem PySem.Spec PyProof.Rows L2 Hr
theorem optV_non (o : Option Int) : decide (optV o = .non) = o.isNone := by cases o <;> rfl
theorem is_non {C : Addr} {H : Hp} {x : V} {d : D} (h : Is C H x d) : decide (x = .non) = isNon d := by cases h <;> first | rfl | (simp [isNon])
theorem lvD_form {d : D} (h : formB d "leaving" 3 = false) : lvD d = false := by
  unfold lvD
  split
  · rename_i k g e
    by_cases c : k = "leaving"
    · unfold formB at h
      simp [c] at h
    · rw [decide_eq_false c]; rfl
  · rfl
section
variable {P : Program} {w : World} {K : PySem.W.Frag} {mg : Str → Option Value} {base : Heap} {f : Addr} {fd : FuncData} {C : Addr}
abbrev s_is_leaving : Stmt := top 49
theorem sc_is_leaving : FnScope ["value"] ["value"] (C8.fnScope s_is_leaving) := C8.fnScope_by (by decide +kernel)
theorem ok_is_leaving (F : C8.Def K mg "is_leaving" s_is_leaving f fd) (b : Binds K fd ["value"] []) (T : Txt K mg w C) (c_is_form : C8.Cal P w K mg base 1 "is_form" (spForm C) []) (c_is_granule : C8.Cal P w K mg base 2 "is_granule" (spBel1 C 24) []) (c__is_from_one_on : C8.Cal P w K mg base 2 "_is_from_one_on" (spB C (fun _ => True) fromOne) []) : C8.Cal P w K mg base 3 "is_leaving" (spB C (fun _ => True) lvD) [] := by
  refine C8.cal0 F b .nil sc_is_leaving (fun vs H Q E h => ?_) (fun cdv A outer s H vs Q E hr h => ?_)
  · obtain ⟨x, d, rfl, _⟩ := h; rfl
  obtain ⟨x, d, rfl, hx, _, q⟩ := h
  refine ⟨_, (pss_cons (ps_if (PW.pt (pw_or (pt_not (pt_val (C8.pe_c c_is_form hr (by first | decide | omega) rfl (pa_cons (pv 0) (pa_cons pe_str (pa_cons pe_int pa_nil)))))) (pw_or1 (pt_not (pt_val (C8.pe_c c_is_granule hr (by first | decide | omega) rfl (pa_cons (pe_ix ix_tup (pv 0) pe_int (fun _ _ => rfl)) pa_nil))))))) (pss_one (ps_ret pe_bl)) pss_nil)
      (pss_one (ps_ret (pe_or (pe_cmpR op_isN (pe_ix ix_tup (pv 0) pe_int (fun _ _ => rfl)) pe_non (nomark _)) (pe_one (C8.pe_c c__is_from_one_on hr (by first | decide | omega) rfl (pa_cons (pe_ix ix_tup (pv 0) pe_int (fun _ _ => rfl)) pa_nil))))))), ?_⟩
  have q0 : ∀ b, lvD d = b → ∀ H', Same H H' → Q (.bl b) H' := fun b e H' s' => by rw [← e]; exact q H' s'
  refine ⟨_, rfl, x, d, _, 3, rfl, hx, by decide, _, rfl, ?_⟩
  cases h1 : formB d "leaving" 3 with
  | false => exact bT rfl (q0 _ (lvD_form h1) H (Same.refl H))
  | true =>
  obtain ⟨e1, e2, rfl⟩ := formB_three h1
  cases hx with
  | @tup a xs _ ha hxs =>
  cases hxs with
  | @cons y0 _ _ _ i0 hxs => cases hxs with
  | @cons y1 _ _ _ i1 hxs => cases hxs with
  | @cons y2 _ _ _ i2 hxs =>
  cases hxs
  refine bF rfl ⟨_, rfl, a, _, 1, y1, rfl, rfl, SqT.of ha, atI_nat (j := 1) rfl, y1, e1, rfl, i1, _, rfl, ?_⟩
  cases h2 : belD e1 24 with
  | false =>
    refine bT rfl (q0 _ ?_ H (Same.refl H))
    unfold lvD
    split
    · rename_i k g e z
      cases z
      unfold belD at h2
      dsimp only at h2
      rw [h2]; simp
    · rfl
  | true =>
    obtain ⟨i, rfl, g0, g1⟩ := bel_int h2
    have eL : lvD (.tup [.str "leaving", .int i, e2]) = (isNon e2 || fromOne e2) := by
      simp [lvD, g0, g1]
    refine bF rfl ⟨_, rfl, a, _, 2, y2, rfl, rfl, SqT.of ha, atI_nat (j := 2) rfl, rfl, _, rfl, ?_⟩
    rw [is_non i2]
    cases h3 : isNon e2 with
    | true => exact iteT (q0 _ (by rw [eL, h3]; rfl) H (Same.refl H))
    | false => exact iteF ⟨_, rfl, a, _, 2, y2, rfl, rfl, SqT.of ha, atI_nat (j := 2) rfl, y2, e2, rfl, i2, trivial, fun H1 s1 => q0 _ (by rw [eL, h3, Bool.false_or]) H1 s1⟩
abbrev s_is_root_word : Stmt := top 47
theorem sc_is_root_word : FnScope ["value"] ["value"] (C8.fnScope s_is_root_word) := C8.fnScope_by (by decide +kernel)
theorem ok_is_root_word (F : C8.Def K mg "is_root_word" s_is_root_word f fd) (b : Binds K fd ["value"] []) (T : Txt K mg w C) (c_leaf_of : C8.Cal P w K mg base 4 "leaf_of" (spGr1 C "table") []) (c_is_leaving : C8.Cal P w K mg base 3 "is_leaving" (spB C (fun _ => True) lvD) []) : C8.Cal P w K mg base 5 "is_root_word" (spB C (fun _ => True) rootW) [] := by
  refine C8.cal0 F b .nil sc_is_root_word (fun vs H Q E h => ?_) (fun cdv A outer s H vs Q E hr h => ?_)
  · obtain ⟨x, d, rfl, _⟩ := h; rfl
  obtain ⟨x, d, rfl, hx, _, q⟩ := h
  refine ⟨_, (pss_one (ps_ret (pe_or (pe_cmpR op_isN (pv 0) pe_non (nomark _)) (pe_or (pe_cmpR op_notN (C8.pe_c c_leaf_of hr (by first | decide | omega) rfl (pa_cons (pv 0) pa_nil)) pe_non (nomark _)) (pe_one (C8.pe_c c_is_leaving hr (by first | decide | omega) rfl (pa_cons (pv 0) pa_nil))))))), ?_⟩
  have q0 : ∀ b, rootW d = b → ∀ H', Same H H' → Q (.bl b) H' := fun b e H' s' => by rw [← e]; exact q H' s'
  refine ⟨_, rfl, rfl, _, rfl, ?_⟩
  rw [is_non hx]
  cases h1 : isNon d with
  | true => exact iteT (q0 _ (by unfold rootW; rw [h1]; rfl) H (Same.refl H))
  | false =>
    refine iteF ⟨_, rfl, x, d, rfl, hx, rfl, _, rfl, ?_⟩
    rw [optV_non]
    cases h2 : grO "table" d with
    | some g => exact iteT (q0 _ (by unfold rootW; rw [h2]; simp) H (Same.refl H))
    | none => exact iteF ⟨_, rfl, x, d, rfl, hx, trivial, fun H1 s1 => q0 _ (by unfold rootW; rw [h1, h2]; rfl) H1 s1⟩
abbrev s_is_entry : Stmt := top 48
theorem sc_is_entry : FnScope ["value"] ["value"] (C8.fnScope s_is_entry) := C8.fnScope_by (by decide +kernel)
theorem ok_is_entry (F : C8.Def K mg "is_entry" s_is_entry f fd) (b : Binds K fd ["value"] []) (T : Txt K mg w C) (c_is_form : C8.Cal P w K mg base 1 "is_form" (spForm C) []) (c_granule_of : C8.Cal P w K mg base 3 "granule_of" (spGr C) []) (c_is_leaving : C8.Cal P w K mg base 3 "is_leaving" (spB C (fun _ => True) lvD) []) (c__is_from_one_on : C8.Cal P w K mg base 2 "_is_from_one_on" (spB C (fun _ => True) fromOne) []) : C8.Cal P w K mg base 4 "is_entry" (spB C (fun _ => True) entryW) [] := by
  refine C8.cal0 F b .nil sc_is_entry (fun vs H Q E h => ?_) (fun cdv A outer s H vs Q E hr h => ?_)
  · obtain ⟨x, d, rfl, _⟩ := h; rfl
  obtain ⟨x, d, rfl, hx, _, q⟩ := h
  refine ⟨_, (pss_cons (ps_if (pt_cmpR (op_isTyA (C := C)) (pe_callTy (call_typeA (C := C)) rfl T.z_type bt_type (pa_cons (pv 0) pa_nil)) (pe_bltn (v := .ty "str") rfl T.z_str bt_str rfl) (nomark _)) (pss_one (ps_ret (pe_cmpR op_eq (pv 0) pe_str (nomark _)))) pss_nil)
      (pss_cons (ps_if (PW.pt (pw_or (pt_cmpR op_notN (C8.pe_c c_granule_of hr (by first | decide | omega) rfl (pa_cons (pv 0) (pa_cons pe_str pa_nil))) pe_non (nomark _)) (pw_or1 (pt_cmpR op_notN (C8.pe_c c_granule_of hr (by first | decide | omega) rfl (pa_cons (pv 0) (pa_cons pe_str pa_nil))) pe_non (nomark _))))) (pss_one (ps_ret pe_bl)) pss_nil)
      (pss_cons (ps_if (pt_val (C8.pe_c c_is_form hr (by first | decide | omega) rfl (pa_cons (pv 0) (pa_cons pe_str (pa_cons pe_int pa_nil))))) (pss_one (ps_ret (C8.pe_c c__is_from_one_on hr (by first | decide | omega) rfl (pa_cons (pe_ix ix_tup (pv 0) pe_int (fun _ _ => rfl)) pa_nil)))) pss_nil)
      (pss_one (ps_ret (pe_or (pe_cmpR op_isN (pv 0) pe_non (nomark _)) (pe_one (C8.pe_c c_is_leaving hr (by first | decide | omega) rfl (pa_cons (pv 0) pa_nil))))))))), ?_⟩
  have q0 : ∀ b, entryW d = b → ∀ H', Same H H' → Q (.bl b) H' := fun b e H' s' => by rw [← e]; exact q H' s'
  refine ⟨_, rfl, x, d, rfl, hx, kyV_ok d, .inl ⟨_, rfl⟩, _, rfl, ?_⟩
  by_cases ct : kyV C d = .ty "str"
  · refine ifT ct ?_
    obtain ⟨s, rfl⟩ := kyV_str.mp ct
    cases hx
    refine ⟨_, rfl, rfl, ?_⟩
    have e : decide (V.str s = V.str "destroyed") = decide (s = "destroyed") := decide_eq_decide.mpr ⟨fun z => V.str.inj z, fun z => by rw [z]⟩
    rw [e]
    exact q0 _ rfl H (Same.refl H)
  · refine ifF ct ?_
    have eE : entryW d = ((grO "data" d).isSome || (grO "shared" d).isSome || outD d || isNon d || lvD d) := by
      cases d <;> first | rfl | exact absurd rfl ct
    unfold tNext
    dsimp only
    refine ⟨_, rfl, x, d, "data", rfl, hx, rfl, _, rfl, ?_⟩
    rw [optV_non]
    cases h1 : grO "data" d with
    | some g => exact iteT (q0 _ (by rw [eE, h1]; rfl) H (Same.refl H))
    | none =>
    refine iteF ⟨_, rfl, x, d, "shared", rfl, hx, rfl, _, rfl, ?_⟩
    rw [optV_non]
    cases h2 : grO "shared" d with
    | some g => exact iteT (q0 _ (by rw [eE, h1, h2]; rfl) H (Same.refl H))
    | none =>
    refine iteF ?_
    dsimp only
    refine ⟨_, rfl, x, d, "out", 2, rfl, hx, by decide, _, rfl, ?_⟩
    cases h3 : formB d "out" 2 with
    | true =>
      obtain ⟨e, rfl⟩ := formB_two h3
      cases hx with
      | @tup a xs _ ha hxs =>
      cases hxs with
      | @cons y0 _ _ _ i0 hxs => cases hxs with
      | @cons y1 _ _ _ i1 hxs =>
      cases hxs
      refine bT rfl ⟨_, rfl, a, _, 1, y1, rfl, rfl, SqT.of ha, atI_nat (j := 1) rfl, y1, e, rfl, i1, trivial, fun H1 s1 => q0 _ ?_ H1 s1⟩
      rw [eE, h1, h2]
      have : outD (.tup [.str "out", e]) = fromOne e := by simp [outD]
      rw [this]
      simp [isNon, lvD]
    | false =>
      have h4 : outD d = false := by
        unfold outD
        split
        · rename_i k e
          by_cases c : k = "out"
          · unfold formB at h3; simp [c] at h3
          · rw [decide_eq_false c]; rfl
        · rfl
      refine bF rfl ⟨_, rfl, rfl, _, rfl, ?_⟩
      rw [is_non hx]
      cases h5 : isNon d with
      | true => exact iteT (q0 _ (by rw [eE, h1, h2, h4, h5]; rfl) H (Same.refl H))
      | false => exact iteF ⟨_, rfl, x, d, rfl, hx, trivial, fun H1 s1 => q0 _ (by rw [eE, h1, h2, h4, h5]; rfl) H1 s1⟩
end
end Hc

namespace Hc
open PySem PySem.Spec PyProof.Rows L2 Hr
theorem ru {k : Nat} {A : Around} (hr : Room k A) : A.units + 1 < cLine := by
  have := hr.un
  omega
def stD (d : D) : Bool := match d with | .str s => statesL.any (fun z => decide (s = z)) | _ => false
def fitsD (d : D) (z : Str) : Bool :=
  if z = "granule" then belD d 24
  else if z = "owner" then isNon d || belD d 24
  else if z = "index" then belD d 4
  else if z = "page" then belD d 16
  else if z = "processor" then belD d 3
  else if z = "state" then stD d
  else okW 40 40 0 d
def spFit (C : Addr) : Sp := fun vs H Q _ => ∃ x d z, vs = [x, .str z] ∧ Is C H x d ∧ Fit d ∧ ∀ H', Same H H' → Q (.bl (fitsD d z)) H'
theorem inVst (s : Str) : inV (.str s) (statesL.map V.str) = statesL.any (fun z => decide (s = z)) := by
  show ((statesL.map V.str).any fun y => eqV y (.str s)) = _
  rw [List.any_map]
  refine congrArg (List.any statesL) (funext fun z => ?_)
  show eqV (.str z) (.str s) = decide (s = z)
  simp only [eqV]
  by_cases h : s = z
  · subst h; simp
  · rw [decide_eq_false h]; exact beq_eq_false_iff_ne.mpr (fun y => h y.symm)
section
variable {P : Program} {w : World} {K : PySem.W.Frag} {mg : Str → Option Value} {base : Heap} {f : Addr} {fd : FuncData} {C : Addr}
abbrev s_fits : Stmt := top 37
theorem sc_fits : FnScope ["part", "form"] ["part", "form"] (C8.fnScope s_fits) := C8.fnScope_by (by decide +kernel)
theorem ok_fits (F : C8.Def K mg "fits" s_fits f fd) (b : Binds K fd ["part", "form"] []) (T : Txt K mg w C) (c_is_granule : C8.Cal P w K mg base 2 "is_granule" (spBel1 C 24) []) (c_is_page : C8.Cal P w K mg base 2 "is_page" (spBel1 C 16) []) (c_is_processor : C8.Cal P w K mg base 2 "is_processor" (spBel1 C 3) []) (c__is_below : C8.Cal P w K mg base 1 "_is_below" (spBel C) []) (c_is_word : C8.Cal P w K mg base 3 "is_word" (spB C Fit (okW 40 40 0)) []) : C8.Cal P w K mg base 4 "fits" (spFit C) [] := by
  obtain ⟨St, gS, kS⟩ := T.states
  refine C8.cal0 F b .nil sc_fits (fun vs H Q E h => ?_) (fun cdv A outer s H vs Q E hr h => ?_)
  · obtain ⟨x, d, z, rfl, _⟩ := h; rfl
  obtain ⟨x, d, z, rfl, hx, hft, q⟩ := h
  have q0 : ∀ b, fitsD d z = b → ∀ H', Same H H' → Q (.bl b) H' := fun b e H' s' => by rw [← e]; exact q H' s'
  refine ⟨_, (pss_cons (ps_if (pt_cmpR op_eq (pv 1) pe_str (nomark _)) (pss_one (ps_ret (C8.pe_c c_is_granule hr (by first | decide | omega) rfl (pa_cons (pv 0) pa_nil)))) pss_nil)
      (pss_cons (ps_if (pt_cmpR op_eq (pv 1) pe_str (nomark _)) (pss_one (ps_ret (pe_or (pe_cmpR op_isN (pv 0) pe_non (nomark _)) (pe_one (C8.pe_c c_is_granule hr (by first | decide | omega) rfl (pa_cons (pv 0) pa_nil)))))) pss_nil)
      (pss_cons (ps_if (pt_cmpR op_eq (pv 1) pe_str (nomark _)) (pss_one (ps_ret (C8.pe_c c__is_below hr (by first | decide | omega) rfl (pa_cons (pv 0) (pa_cons (C8.pe_gc rfl T.c_WORDS) pa_nil))))) pss_nil)
      (pss_cons (ps_if (pt_cmpR op_eq (pv 1) pe_str (nomark _)) (pss_one (ps_ret (C8.pe_c c_is_page hr (by first | decide | omega) rfl (pa_cons (pv 0) pa_nil)))) pss_nil)
      (pss_cons (ps_if (pt_cmpR op_eq (pv 1) pe_str (nomark _)) (pss_one (ps_ret (C8.pe_c c_is_processor hr (by first | decide | omega) rfl (pa_cons (pv 0) pa_nil)))) pss_nil)
      (pss_cons (ps_if (pt_cmpR op_eq (pv 1) pe_str (nomark _)) (pss_one (ps_ret (pe_and (pe_cmpR (op_isTyA (C := C)) (pe_callTy (call_typeA (C := C)) rfl T.z_type bt_type (pa_cons (pv 0) pa_nil)) (pe_bltn (v := .ty "str") rfl T.z_str bt_str rfl) (nomark _)) (pe_one (pe_cmpR op_in_seq (pv 0) (C8.pe_gc rfl gS) (by with_unfolding_all rfl)))))) pss_nil)
      (pss_one (ps_ret (C8.pe_c c_is_word hr (by first | decide | omega) rfl (pa_cons (pv 0) pa_nil)))))))))), ?_⟩
  refine ⟨_, rfl, rfl, _, rfl, ?_⟩
  by_cases c1 : z = "granule"
  · subst c1
    exact ifT rfl ⟨_, rfl, x, d, rfl, hx, q0 _ (by unfold fitsD; rw [if_pos rfl]) H (Same.refl H)⟩
  refine ifF (fun e => c1 (V.str.inj e)) ?_
  unfold tNext
  dsimp only
  refine ⟨_, rfl, rfl, _, rfl, ?_⟩
  by_cases c2 : z = "owner"
  · subst c2
    refine ifT rfl ⟨_, rfl, rfl, _, rfl, ?_⟩
    rw [is_non hx]
    have e : fitsD d "owner" = (isNon d || belD d 24) := by unfold fitsD; rw [if_neg c1, if_pos rfl]
    cases h : isNon d with
    | true => exact iteT (q0 _ (by rw [e, h]; rfl) H (Same.refl H))
    | false => exact iteF ⟨_, rfl, x, d, rfl, hx, q0 _ (by rw [e, h]; rfl) H (Same.refl H)⟩
  refine ifF (fun e => c2 (V.str.inj e)) ?_
  dsimp only
  refine ⟨_, rfl, rfl, _, rfl, ?_⟩
  by_cases c3 : z = "index"
  · subst c3
    exact ifT rfl ⟨_, rfl, x, d, 4, rfl, hx, q0 _ (by unfold fitsD; rw [if_neg c1, if_neg c2, if_pos rfl]) H (Same.refl H)⟩
  refine ifF (fun e => c3 (V.str.inj e)) ?_
  dsimp only
  refine ⟨_, rfl, rfl, _, rfl, ?_⟩
  by_cases c4 : z = "page"
  · subst c4
    exact ifT rfl ⟨_, rfl, x, d, rfl, hx, q0 _ (by unfold fitsD; rw [if_neg c1, if_neg c2, if_neg c3, if_pos rfl]) H (Same.refl H)⟩
  refine ifF (fun e => c4 (V.str.inj e)) ?_
  dsimp only
  refine ⟨_, rfl, rfl, _, rfl, ?_⟩
  by_cases c5 : z = "processor"
  · subst c5
    exact ifT rfl ⟨_, rfl, x, d, rfl, hx, q0 _ (by unfold fitsD; rw [if_neg c1, if_neg c2, if_neg c3, if_neg c4, if_pos rfl]) H (Same.refl H)⟩
  refine ifF (fun e => c5 (V.str.inj e)) ?_
  dsimp only
  refine ⟨_, rfl, rfl, _, rfl, ?_⟩
  by_cases c6 : z = "state"
  · subst c6
    have e : fitsD d "state" = stD d := by unfold fitsD; rw [if_neg c1, if_neg c2, if_neg c3, if_neg c4, if_neg c5, if_pos rfl]
    refine ifT rfl ⟨_, rfl, x, d, rfl, hx, kyV_ok d, .inl ⟨_, rfl⟩, _, rfl, ?_⟩
    by_cases ct : kyV C d = .ty "str"
    · refine ifT ct ?_
      obtain ⟨s, rfl⟩ := kyV_str.mp ct
      cases hx
      refine ⟨_, rfl, St, _, rfl, .inr (kS H), rfl, rfl, ?_⟩
      show Q (.bl (inV (.str s) (statesL.map V.str))) H
      rw [inVst]
      exact q0 _ e H (Same.refl H)
    · exact ifF ct (q0 _ (by rw [e]; cases d <;> first | rfl | exact absurd rfl ct) H (Same.refl H))
  refine ifF (fun e => c6 (V.str.inj e)) ?_
  dsimp only
  exact ⟨_, rfl, x, d, rfl, hx, hft, fun H1 s1 => q0 _ (by unfold fitsD; rw [if_neg c1, if_neg c2, if_neg c3, if_neg c4, if_neg c5, if_neg c6]) H1 s1⟩
abbrev s__number_below : Stmt := top 41
theorem sc__number_below : FnScope ["value", "many"] ["value", "many"] (C8.fnScope s__number_below) := C8.fnScope_by (by decide +kernel)
theorem ok__number_below (F : C8.Def K mg "_number_below" s__number_below f fd) (b : Binds K fd ["value", "many"] []) (T : Txt K mg w C) (c__is_below : C8.Cal P w K mg base 1 "_is_below" (spBel C) []) : C8.Cal P w K mg base 2 "_number_below" (fun vs H Q _ => ∃ i m : Int, vs = [.int i, .int m] ∧ 0 ≤ i ∧ i < m ∧ Q (.int i) H) [] := by
  refine C8.cal0 F b .nil sc__number_below (fun vs H Q E h => ?_) (fun cdv A outer s H vs Q E hr h => ?_)
  · obtain ⟨i, m, rfl, _⟩ := h; rfl
  obtain ⟨i, m, rfl, h0, h1, q⟩ := h
  refine ⟨_, (pss_cons (ps_if (pt_not (pt_val (C8.pe_c c__is_below hr (by first | decide | omega) rfl (pa_cons (pv 0) (pa_cons (pv 1) pa_nil))))) (pss_one ps_never) pss_nil)
      (pss_one (ps_ret (pv 0)))), ?_⟩
  refine ⟨_, rfl, _, rfl, .int i, .int i, m, rfl, .int _, _, rfl, bF (by simp [belD, h0, h1]) ?_⟩
  exact ⟨_, rfl, q⟩
abbrev s__is_actor : Stmt := top 42
theorem sc__is_actor : FnScope ["value"] ["value"] (C8.fnScope s__is_actor) := C8.fnScope_by (by decide +kernel)
theorem ok__is_actor (F : C8.Def K mg "_is_actor" s__is_actor f fd) (b : Binds K fd ["value"] []) (T : Txt K mg w C) (c_is_processor : C8.Cal P w K mg base 2 "is_processor" (spBel1 C 3) []) : C8.Cal P w K mg base 3 "_is_actor" (fun vs H Q _ => ∃ a, vs = [.ref a] ∧ H a = some (.tup [.str "monitor", .int 0]) ∧ Q (.bl true) H) [] := by
  refine C8.cal0 F b .nil sc__is_actor (fun vs H Q E h => ?_) (fun cdv A outer s H vs Q E hr h => ?_)
  · obtain ⟨a, rfl, _⟩ := h; rfl
  obtain ⟨a, rfl, ha, q⟩ := h
  have ia : Is C H (.ref a) (.tup [.str "monitor", .int 0]) := .tup ha (.cons (.str _) (.cons (.int _) .nil))
  refine ⟨_, (pss_one (ps_ret (pe_and (pe_cmpR (op_isTyA (C := C)) (pe_callTy (call_typeA (C := C)) rfl T.z_type bt_type (pa_cons (pv 0) pa_nil)) (pe_bltn (v := .ty "tuple") rfl T.z_tuple bt_tuple rfl) (nomark _)) (pe_and (pe_cmpR op_eq (pe_callB call_lenS rfl T.z_len bt_len (pa_cons (pv 0) pa_nil)) pe_int (nomark _)) (pe_and (pe_cmpR (op_isTyA (C := C)) (pe_callTy (call_typeA (C := C)) rfl T.z_type bt_type (pa_cons (pe_ix ix_tup (pv 0) pe_int (fun _ _ => rfl)) pa_nil)) (pe_bltn (v := .ty "str") rfl T.z_str bt_str rfl) (nomark _)) (pe_one (C8.pe_c c_is_processor hr (by first | decide | omega) rfl (pa_cons (pe_ix ix_tup (pv 0) pe_int (fun _ _ => rfl)) pa_nil)))))))), ?_⟩
  refine ⟨_, rfl, .ref a, _, rfl, ia, kyV_ok _, .inl ⟨_, rfl⟩, _, rfl, ?_⟩
  refine ifT rfl ⟨_, rfl, a, _, rfl, .inr (SqT.of ha), rfl, _, rfl, ifT rfl ?_⟩
  refine ⟨_, rfl, a, _, 0, _, rfl, rfl, SqT.of ha, atI_nat (j := 0) rfl, .str "monitor", .str "monitor", rfl, .str _, kyV_ok _, .inl ⟨_, rfl⟩, _, rfl, ifT rfl ?_⟩
  exact ⟨_, rfl, a, _, 1, _, rfl, rfl, SqT.of ha, atI_nat (j := 1) rfl, .int 0, .int 0, rfl, .int _, q⟩
def monF : List (Str × List Str) := [("hold", ["granule"]), ("write", ["granule", "index", "word"]), ("leave", ["granule", "state", "owner"])]
def spAcc (C : Addr) : Sp := fun vs H Q _ => ∃ ar rr nm ds fs, vs = [.ref ar, .ref rr] ∧ H ar = some (.tup [.str "monitor", .int 0]) ∧ Is C H (.ref rr) (.tup (.str nm :: ds)) ∧ (nm, fs) ∈ monF ∧ ds.length = fs.length ∧ (∀ e ∈ ds, Fit e) ∧ ((ds.zip fs).all fun p => fitsD p.1 p.2) = true ∧ ∀ H', Same H H' → Q (.bl true) H'
abbrev s_is_access : Stmt := top 35
theorem sc_is_access : FnScope ["actor", "request", "forms", "part", "form"] ["actor", "request"] (C8.fnScope s_is_access) := C8.fnScope_by (by decide +kernel)
theorem ok_is_access {Rq : Addr} {es : Array DictEntry} {n : Nat} {xs : List (List Str × Addr × Value)} (F : C8.Def K mg "is_access" s_is_access f fd) (b : Binds K fd ["actor", "request"] []) (T : Txt K mg w C) (gR : ∃ u, mg "_REQUESTS" = some u ∧ RelV (.ref Rq) u) (KR : KDT K w Rq es n xs) (hq : ∀ p ∈ monF, ∃ t, txAt xs ["monitor", p.1] = some (.ref t) ∧ KTup K t p.2)
    (c__is_actor : C8.Cal P w K mg base 3 "_is_actor" (fun vs H Q _ => ∃ a, vs = [.ref a] ∧ H a = some (.tup [.str "monitor", .int 0]) ∧ Q (.bl true) H) []) (c_has_name : C8.Cal P w K mg base 1 "has_name" (spHN C) []) (c_fits : C8.Cal P w K mg base 4 "fits" (spFit C) []) : C8.Cal P w K mg base 5 "is_access" (spAcc C) [] := by
  refine C8.cal0 F b .nil sc_is_access (fun vs H Q E h => ?_) (fun cdv A outer s H vs Q E hr h => ?_)
  · obtain ⟨ar, rr, nm, ds, fs, rfl, _⟩ := h; rfl
  obtain ⟨ar, rr, nm, ds, fs, rfl, ha, hrr, hm, hlen, hft, hfit, q⟩ := h
  obtain ⟨tf, et, kt⟩ := hq _ hm
  refine ⟨_, (pss_cons (ps_if (PW.pt (pw_or (pt_not (pt_val (C8.pe_c c__is_actor hr (by first | decide | omega) rfl (pa_cons (pv 0) pa_nil)))) (pw_or1 (pt_not (pt_val (C8.pe_c c_has_name hr (by first | decide | omega) rfl (pa_cons (pv 1) pa_nil))))))) (pss_one (ps_ret pe_bl)) pss_nil)
      (pss_cons (ps_set (i := 2) sc_is_access.nd rfl (Or.inl rfl) (pe_getWT KR (ru hr) (C8.pe_gc rfl gR) (pe_tup (pa_cons (pe_ix ix_tup (pv 0) pe_int (fun _ _ => rfl)) (pa_cons (pe_ix ix_tup (pv 1) pe_int (fun _ _ => rfl)) pa_nil)))))
      (pss_cons (ps_if (PW.pt (pw_or (pt_cmpR op_isN (pv 2) pe_non (nomark _)) (pw_or1 (pt_cmpR op_ne (pe_callB call_lenS rfl T.z_len bt_len (pa_cons (pv 1) pa_nil)) (pe_op op_add (pe_callB call_lenS rfl T.z_len bt_len (pa_cons (pv 2) pa_nil)) pe_int) (nomark _))))) (pss_one (ps_ret pe_bl)) pss_nil)
      (pss_one (ps_ret (pe_callB (cr_all rfl) rfl T.z_all bt_all (pa_cons (pe_lc (own := [("part", 3), ("form", 4)]) (g := gTup K 2 (gCons (gName 3) (gCons (gName 4) gNil))) rfl sc_is_access.nd (RZ.pi_zipA rfl T.z_zip (pa_cons (pe_slice sl_tupA (pv 1) (po_some pe_int) po_none) (pa_cons (pv 2) pa_nil))) (blkOk_by (own := [("part", 3), ("form", 4)]) (N := ["actor", "request", "forms", "part", "form"]) (sc := C8.fnScope s_is_access) (by decide +kernel)) (fun _ _ _ _ _ => (pg_tup rfl (pgs_cons (pg_name (i := 3) sc_is_access.nd rfl (Or.inl rfl)) (pgs_cons (pg_name (i := 4) sc_is_access.nd rfl (Or.inl rfl)) pgs_nil)))) (fun _ _ _ _ _ => pts_nil) (fun _ _ _ _ _ => (C8.pe_c c_fits hr (by first | decide | omega) rfl (pa_cons (pv 3) (pa_cons (pv 4) pa_nil))))) pa_nil))))))), ?_⟩
  refine ⟨_, rfl, ar, rfl, ha, _, rfl, bF rfl ⟨_, rfl, .ref rr, _, rfl, hrr, _, rfl, bF rfl ?_⟩⟩
  unfold tNext
  dsimp only
  cases hrr with
  | @tup _ ys _ hra hxs =>
  cases hxs with
  | @cons y0 yt _ _ i0 hxs =>
  cases i0
  have hyl := hxs.len
  refine ⟨rfl, _, rfl, ar, _, 0, _, rfl, rfl, SqT.of ha, atI_nat (j := 0) rfl, _, rfl, rr, _, 0, _, rfl, rfl, SqT.of hra, atI_nat (j := 0) rfl, (by show 2 ≤ sizeLine; decide), fun kp hkp => ?_⟩
  have s1 := same_new (o := .tup [.str "monitor", .str nm]) hkp
  refine ⟨kp, ["monitor", nm], rfl, SqT.of upd_same, (fun z => by rw [et] at z; cases z), fun u hu => ⟨.ref tf, (by rw [et] at hu; cases hu; rfl), ?_⟩⟩
  generalize upd H kp (.tup [.str "monitor", .str nm]) = H1 at *
  have hra := s1 _ _ hra
  have hxs := hxs.same s1
  refine ⟨_, rfl, rfl, _, rfl, bF rfl ?_⟩
  refine ⟨_, rfl, rr, _, rfl, .inr (SqT.of hra), _, rfl, tf, _, rfl, .inr (kt H1), _, _, rfl, rfl, rfl, _, rfl, bF (by rw [List.length_cons, hyl, List.length_map, hlen]; simp) ?_⟩
  dsimp only
  refine ⟨_, rfl, 1, rfl, ?_⟩
  refine sl_goL hra fun H2 p2 s2 ep2 => ?_
  rw [show (1 : Int) = ((1 : Nat) : Int) from rfl, cut_from] at ep2
  have ep2 : H2 p2 = some (.tup yt) := ep2
  have hxs := hxs.same s2
  have s12 := s1.trans s2
  have hmin : ds.length = min yt.length (fs.map V.str).length := by rw [List.length_map]; omega
  refine ⟨_, rfl, p2, tf, yt, fs.map V.str, rfl, .inr ⟨SqT.of ep2, kt H2, fun Dl hD => ?_⟩⟩
  have hl4 : ds.length ≤ 4 := by
    rw [hlen]
    simp only [monF, List.mem_cons, List.not_mem_nil, or_false] at hm
    rcases hm with h | h | h <;> (cases h; decide)
  refine lc_it (walk_zipT (K := K) (a := p2) (b := tf) (xs := yt) (ys := fs.map V.str) hmin) (fun i H3 => Same H2 H3 ∧ H3 Dl = some (.lst (((ds.zip fs).take i).map fun p => V.bl (fitsD p.1 p.2)))) ⟨same_new hD, upd_same⟩ (fun i H3 _ h => ⟨SqT.of (h.1 _ _ ep2), kt H3⟩) ?_ ?_
  · rintro i v H3 H4 hi ⟨s3, hz3⟩ ⟨t, x, y, rfl, nt, rfl, ex, ey⟩
    have ex : yt[i]? = some x := ex
    obtain ⟨d, hd, hx⟩ := hxs.at ex
    obtain ⟨z, hz2, rfl⟩ : ∃ z, fs[i]? = some z ∧ y = V.str z := by
      have ey : (fs.map V.str)[i]? = some y := ey
      rw [List.getElem?_map] at ey
      cases h : fs[i]? with
      | none => rw [h] at ey; cases ey
      | some z => rw [h] at ey; exact ⟨z, rfl, (Option.some.inj ey).symm⟩
    have s4 := same_new (o := .tup [x, .str z]) nt
    refine ⟨t, [x, .str z], rfl, SqT.of upd_same, rfl, x, [.str z], rfl, .str z, [], rfl, rfl, rfl, yes ?_⟩
    refine ⟨_, rfl, _, rfl, x, d, z, rfl, hx.same (s3.trans s4), hft d (List.mem_of_getElem? hd), fun H5 s5 => ?_⟩
    have hpz : (ds.zip fs)[i]? = some (d, z) := by rw [List.getElem?_zip_eq_some]; exact ⟨hd, hz2⟩
    refine ⟨_, s5 _ _ (s4 _ _ hz3), small1000 (by rw [List.length_map, List.length_take]; have : (ds.zip fs).length ≤ ds.length := by rw [List.length_zip]; omega
                                                  omega), same_put ((s3.trans s4).trans s5) hD, ?_⟩
    rw [upd_same, List.take_add_one, hpz, List.map_append]; rfl
  · rintro H3 ⟨s3, hz3⟩
    have hzl : (ds.zip fs).length = ds.length := by rw [List.length_zip]; omega
    rw [List.take_of_length_le (by omega)] at hz3
    refine ⟨Dl, (ds.zip fs).map fun p => fitsD p.1 p.2, rfl, SqL.of (by rw [List.map_map]; exact hz3), ?_⟩
    have e9 : ((ds.zip fs).map fun p => fitsD p.1 p.2).all id = (ds.zip fs).all fun p => fitsD p.1 p.2 := by rw [List.all_map]; rfl
    rw [e9, hfit]
    exact q H3 (s12.trans s3)
end
end Hc

namespace Hc
open PySem PySem.Spec PyProof.Rows L2 Hr
/-- tuples and atoms stay -/
structure Keep (C : Addr) (H H' : Hp) : Prop where
  tup : ∀ b xs, H b = some (.tup xs) → H' b = some (.tup xs)
  ins : ∀ b dx fs, H b = some (.ins C dx fs) → H' b = some (.ins C dx fs)
theorem Keep.of {C : Addr} {H H' : Hp} (s : Same H H') : Keep C H H' := ⟨fun b _ e => s b _ e, fun b _ _ e => s b _ e⟩
theorem Keep.trans {C : Addr} {H H1 H2 : Hp} (a : Keep C H H1) (b : Keep C H1 H2) : Keep C H H2 := ⟨fun c xs e => b.tup c xs (a.tup c xs e), fun c dx fs e => b.ins c dx fs (a.ins c dx fs e)⟩
theorem Keep.lst {C : Addr} {H : Hp} {l : Addr} {xs ys : List V} (h : H l = some (.lst xs)) : Keep C H (upd H l (.lst ys)) :=
  ⟨fun b _ e => by rw [upd_ne (fun z => by rw [z, h] at e; cases e)]; exact e, fun b _ _ e => by rw [upd_ne (fun z => by rw [z, h] at e; cases e)]; exact e⟩
/-- all but the list at l stays -/
def But (l : Addr) (H H' : Hp) : Prop := ∀ b o, H b = some o → b ≠ l → H' b = some o
theorem But.keep {C l : Addr} {H H' : Hp} {xs : List V} (h : H l = some (.lst xs)) (b : But l H H') : Keep C H H' :=
  ⟨fun c _ e => b c _ e (fun z => by rw [z, h] at e; cases e), fun c _ _ e => b c _ e (fun z => by rw [z, h] at e; cases e)⟩
mutual
/-- no lists and no dicts within -/
def cln : D → Bool
  | .tup ds => clnL ds
  | .atom _ ds => clnL ds
  | .lst _ => false
  | .dct => false
  | _ => true
def clnL : List D → Bool
  | [] => true
  | d :: ds => cln d && clnL ds
end
mutual
theorem Is.keep {C : Addr} {H H' : Hp} (k : Keep C H H') : ∀ {x : V} {d : D}, cln d = true → Is C H x d → Is C H' x d
  | _, _, _, .non => .non
  | _, _, _, .bl b => .bl b
  | _, _, _, .int i => .int i
  | _, _, _, .str s => .str s
  | _, _, c, .tup h t => .tup (k.tup _ _ h) (IsA.keep k (by simpa [cln] using c) t)
  | _, _, c, .lst h t => by simp [cln] at c
  | _, _, c, .dct h => by simp [cln] at c
  | _, _, c, .atom h h2 t => .atom (k.ins _ _ _ h) (k.tup _ _ h2) (IsA.keep k (by simpa [cln] using c) t)
theorem IsA.keep {C : Addr} {H H' : Hp} (k : Keep C H H') : ∀ {xs : List V} {ds : List D}, clnL ds = true → IsA C H xs ds → IsA C H' xs ds
  | _, _, _, .nil => .nil
  | _, _, c, .cons h t => by
    simp only [clnL, Bool.and_eq_true] at c
    exact .cons (Is.keep k c.1 h) (IsA.keep k c.2 t)
end
theorem clnL_iff : ∀ {ds : List D}, clnL ds = true ↔ ∀ d ∈ ds, cln d = true
  | [] => by simp [clnL]
  | d :: ds => by simp [clnL, clnL_iff (ds := ds)]
theorem clnL_app (a b : List D) : clnL (a ++ b) = (clnL a && clnL b) := by
  induction a with
  | nil => simp [clnL]
  | cons x a ih => rw [List.cons_append]; simp only [clnL]; rw [ih, Bool.and_assoc]
end Hc

set_option maxHeartbeats 8000000
namespace Hc
open PySem PySem.Spec PyProof.Rows L2 Hr
/-- the class Memory at N -/
structure MeC (K : PySem.W.Frag) (mg : Str → Option Value) (N : Addr) : Prop where
  cl : Cls K N
  g_Memory : mg "Memory" = some (.ref N)
  n0 : NoAttr K N "_without"
  n1 : NoAttr K N "_statuses"
  n2 : NoAttr K N "_words"
  n3 : NoAttr K N "_presences"
  n4 : NoAttr K N "_rows"
  n5 : NoAttr K N "_walks"
  n6 : NoAttr K N "_drops"
  n7 : NoAttr K N "_tickets"
  n8 : NoAttr K N "_taken"
  n9 : NoAttr K N "_log"
/-- where a memory's lists lie -/
structure Ads where
  sl : Addr
  wl : Addr
  pl : Addr
  rl : Addr
  kl : Addr
  dl : Addr
  tl : Addr
  lg : Addr
  rows : List Addr
def meF (a : Ads) : List (Str × V) := [("_without", .non), ("_statuses", .ref a.sl), ("_words", .ref a.wl), ("_presences", .ref a.pl), ("_rows", .ref a.rl), ("_walks", .ref a.kl), ("_drops", .ref a.dl), ("_tickets", .int 0), ("_taken", .ref a.tl), ("_log", .ref a.lg)]
def Ads.cells (a : Ads) : List Addr := a.sl :: a.wl :: a.lg :: a.rows
/-- a memory at p: its statuses, its words, how long its log is -/
structure MeR (N C : Addr) (H : Hp) (p : Addr) (a : Ads) (ss : List D) (ws : Nat → List D) (ln : Nat) : Prop where
  ins : ∃ dx, H p = some (.ins N dx (meF a))
  hs : ∃ sx, H a.sl = some (.lst sx) ∧ IsA C H sx ss
  s24 : ss.length = 24
  hw : H a.wl = some (.lst (a.rows.map V.ref))
  r24 : a.rows.length = 24
  nd : a.cells.Nodup
  rw : ∀ g r, a.rows[g]? = some r → ∃ ys, H r = some (.lst ys) ∧ IsA C H ys (ws g) ∧ (ws g).length = 4
  hl : ∃ lx, H a.lg = some (.lst lx) ∧ lx.length = ln
  cs : clnL ss = true
  cw : ∀ g, clnL (ws g) = true
/-- all but the memory's cells stays -/
def Bum (a : Ads) (H H' : Hp) : Prop := ∀ b o, H b = some o → b ∉ a.cells → H' b = some o
theorem MeR.same {N C : Addr} {H H' : Hp} {p : Addr} {a : Ads} {ss : List D} {ws : Nat → List D} {ln : Nat} (s : Same H H') (h : MeR N C H p a ss ws ln) : MeR N C H' p a ss ws ln := by
  obtain ⟨⟨dx, h0⟩, ⟨sx, h1, h2⟩, h3, h4, h5, h6, h7, ⟨lx, h8, h9⟩, h10, h11⟩ := h
  refine ⟨⟨dx, s _ _ h0⟩, ⟨sx, s _ _ h1, h2.same s⟩, h3, s _ _ h4, h5, h6, fun g r hr => ?_, ⟨lx, s _ _ h8, h9⟩, h10, h11⟩
  obtain ⟨ys, e1, e2, e3⟩ := h7 g r hr
  exact ⟨ys, s _ _ e1, e2.same s, e3⟩
theorem Bum.of {a : Ads} {H H' : Hp} (s : Same H H') : Bum a H H' := fun b o e _ => s b o e
theorem Bum.trans {a : Ads} {H H1 H2 : Hp} (x : Bum a H H1) (y : Bum a H1 H2) : Bum a H H2 := fun b o e n => y b o (x b o e n) n
theorem Bum.put {a : Ads} {H : Hp} {l : Addr} {o : HO} (hl : l ∈ a.cells) : Bum a H (upd H l o) := fun b u e n => by rw [upd_ne (show b ≠ l from fun z => n (by rw [z]; exact hl))]; exact e
theorem keep_lst0 {C l : Addr} {H : Hp} {zs : List V} {o : HO} (hl : H l = some (.lst zs)) : Keep C H (upd H l o) :=
  ⟨fun x _ e => by rw [upd_ne (fun z => by rw [z, hl] at e; cases e)]; exact e, fun x _ _ e => by rw [upd_ne (fun z => by rw [z, hl] at e; cases e)]; exact e⟩
theorem isA_set {C : Addr} {H : Hp} : ∀ {xs : List V} {ds : List D} {x : V} {d : D} (i : Nat), IsA C H xs ds → Is C H x d → IsA C H (xs.set i x) (ds.set i d)
  | _, _, _, _, _, .nil, _ => .nil
  | _, _, _, _, 0, .cons h t, g => .cons g t
  | _, _, _, _, i + 1, .cons h t, g => .cons h (isA_set i t g)
theorem cln_set {ds : List D} {d : D} (i : Nat) (h : clnL ds = true) (g : cln d = true) : clnL (ds.set i d) = true := clnL_iff.mpr fun e he => by
  rcases List.mem_or_eq_of_mem_set he with z | z
  · exact clnL_iff.mp h e z
  · rw [z]; exact g
/-- another status -/
theorem MeR.setS {N C : Addr} {H : Hp} {p : Addr} {a : Ads} {ss : List D} {ws : Nat → List D} {ln : Nat} (h : MeR N C H p a ss ws ln) {sx : List V} (hs : H a.sl = some (.lst sx)) (ix : IsA C H sx ss) (g : Nat) {x : V} {d : D} (hx : Is C H x d) (hd : cln d = true) : MeR N C (upd H a.sl (.lst (sx.set g x))) p a (ss.set g d) ws ln := by
  obtain ⟨⟨dx, h0⟩, _, h3, h4, h5, h6, h7, ⟨lx, h8, h9⟩, h10, h11⟩ := h
  have kk : Keep C H (upd H a.sl (.lst (sx.set g x))) := keep_lst0 hs
  have nd := h6
  unfold Ads.cells at nd
  obtain ⟨n1, nd⟩ := List.nodup_cons.mp nd
  simp only [List.mem_cons, not_or] at n1
  have np : p ≠ a.sl := fun z => by rw [z, hs] at h0; cases h0
  refine ⟨⟨dx, by rw [upd_ne np]; exact h0⟩, ⟨_, upd_same, isA_set g (IsA.keep kk h10 ix) (Is.keep kk hd hx)⟩, by rw [List.length_set]; exact h3, by rw [upd_ne (fun z => n1.1 z.symm)]; exact h4, h5, h6, fun k r hr => ?_, ⟨lx, by rw [upd_ne (fun z => n1.2.1 z.symm)]; exact h8, h9⟩, cln_set g h10 hd, h11⟩
  obtain ⟨ys, e1, e2, e3⟩ := h7 k r hr
  have nr : r ≠ a.sl := fun z => n1.2.2 (z ▸ List.mem_of_getElem? hr)
  exact ⟨ys, by rw [upd_ne nr]; exact e1, IsA.keep kk (h11 k) e2, e3⟩
/-- another word -/
theorem MeR.setW {N C : Addr} {H : Hp} {p : Addr} {a : Ads} {ss : List D} {ws : Nat → List D} {ln : Nat} (h : MeR N C H p a ss ws ln) {g : Nat} {r : Addr} (hr : a.rows[g]? = some r) {ys : List V} (hy : H r = some (.lst ys)) (iy : IsA C H ys (ws g)) (i : Nat) {x : V} {d : D} (hx : Is C H x d) (hd : cln d = true) : MeR N C (upd H r (.lst (ys.set i x))) p a ss (fun k => if k = g then (ws g).set i d else ws k) ln := by
  obtain ⟨⟨dx, h0⟩, ⟨sx, h1, h2⟩, h3, h4, h5, h6, h7, ⟨lx, h8, h9⟩, h10, h11⟩ := h
  have kk : Keep C H (upd H r (.lst (ys.set i x))) := keep_lst0 hy
  have nd := h6
  unfold Ads.cells at nd
  obtain ⟨n1, nd⟩ := List.nodup_cons.mp nd
  obtain ⟨n2, nd⟩ := List.nodup_cons.mp nd
  obtain ⟨n3, nd⟩ := List.nodup_cons.mp nd
  simp only [List.mem_cons, not_or] at n1 n2
  have hm := List.mem_of_getElem? hr
  have m1 : a.sl ≠ r := fun z => n1.2.2 (z ▸ hm)
  have m2 : a.wl ≠ r := fun z => n2.2 (z ▸ hm)
  have m3 : a.lg ≠ r := fun z => n3 (z ▸ hm)
  have np : p ≠ r := fun z => by rw [z, hy] at h0; cases h0
  refine ⟨⟨dx, by rw [upd_ne np]; exact h0⟩, ⟨sx, by rw [upd_ne m1]; exact h1, IsA.keep kk h10 h2⟩, h3, by rw [upd_ne m2]; exact h4, h5, h6, fun k q hq => ?_, ⟨lx, by rw [upd_ne m3]; exact h8, h9⟩, h10, fun k => ?_⟩
  · obtain ⟨zs, e1, e2, e3⟩ := h7 k q hq
    by_cases c : k = g
    · subst c
      rw [hr] at hq; cases hq
      rw [hy] at e1; cases e1
      rw [if_pos rfl]
      exact ⟨_, upd_same, isA_set i (IsA.keep kk (h11 k) iy) (Is.keep kk hd hx), by rw [List.length_set]; exact e3⟩
    · rw [if_neg c]
      have nq : q ≠ r := fun z => by
        subst z
        obtain ⟨a1, a2⟩ := List.getElem?_eq_some_iff.mp hr
        obtain ⟨b1, b2⟩ := List.getElem?_eq_some_iff.mp hq
        rcases Nat.lt_trichotomy k g with l | l | l
        · exact List.pairwise_iff_getElem.mp nd k g b1 a1 l (by rw [b2, a2])
        · exact c l
        · exact List.pairwise_iff_getElem.mp nd g k a1 b1 l (by rw [a2, b2])
      exact ⟨zs, by rw [upd_ne nq]; exact e1, IsA.keep kk (h11 k) e2, e3⟩
  · by_cases c : k = g
    · subst c; rw [if_pos rfl]; exact cln_set i (h11 k) hd
    · rw [if_neg c]; exact h11 k
/-- a longer log -/
theorem MeR.log {N C : Addr} {H : Hp} {p : Addr} {a : Ads} {ss : List D} {ws : Nat → List D} {ln : Nat} (h : MeR N C H p a ss ws ln) {lx : List V} (hl : H a.lg = some (.lst lx)) (x : V) : MeR N C (upd H a.lg (.lst (lx ++ [x]))) p a ss ws (ln + 1) := by
  obtain ⟨⟨dx, h0⟩, ⟨sx, h1, h2⟩, h3, h4, h5, h6, h7, ⟨lx', h8, h9⟩, h10, h11⟩ := h
  rw [hl] at h8
  cases h8
  have kk : Keep C H (upd H a.lg (.lst (lx ++ [x]))) := keep_lst0 hl
  have nd := h6
  unfold Ads.cells at nd
  obtain ⟨n1, nd⟩ := List.nodup_cons.mp nd
  obtain ⟨n2, nd⟩ := List.nodup_cons.mp nd
  obtain ⟨n3, nd⟩ := List.nodup_cons.mp nd
  simp only [List.mem_cons, not_or] at n1 n2
  have np : p ≠ a.lg := fun z => by rw [z, hl] at h0; cases h0
  refine ⟨⟨dx, by rw [upd_ne np]; exact h0⟩, ⟨sx, by rw [upd_ne n1.2.1]; exact h1, IsA.keep kk h10 h2⟩, h3, by rw [upd_ne n2.1]; exact h4, h5, h6, fun k q hq => ?_, ⟨_, upd_same, by simp [h9]⟩, h10, h11⟩
  obtain ⟨zs, e1, e2, e3⟩ := h7 k q hq
  have nq : q ≠ a.lg := fun z => n3 (z ▸ List.mem_of_getElem? hq)
  exact ⟨zs, by rw [upd_ne nq]; exact e1, IsA.keep kk (h11 k) e2, e3⟩
def spWri (N C : Addr) : Sp := fun vs H Q _ => ∃ (p : Addr) (g i : Nat) (x : V) (d : D) (a : Ads) (ss : List D) (ws : Nat → List D) (ln : Nat), vs = [.ref p, .int (g : Int), .int (i : Int), x] ∧ MeR N C H p a ss ws ln ∧ g < 24 ∧ i < 4 ∧ Is C H x d ∧ cln d = true ∧ ∀ H', MeR N C H' p a ss (fun k => if k = g then (ws g).set i d else ws k) ln → Bum a H H' → Q .non H'
def spHol (N C : Addr) : Sp := fun vs H Q _ => ∃ (p : Addr) (g : Nat) (q : V) (dq : D) (st : Str) (ow : D) (a : Ads) (ss : List D) (ws : Nat → List D) (ln : Nat), vs = [.ref p, q, .int (g : Int)] ∧ MeR N C H p a ss ws ln ∧ g < 24 ∧ ss[g]? = some (.tup [.str st, ow, .non]) ∧ Is C H q dq ∧ cln dq = true ∧ ∀ H' x, MeR N C H' p a (ss.set g (.tup [.str st, ow, dq])) ws ln → Bum a H H' → Q x H'
def spLea (N C : Addr) : Sp := fun vs H Q _ => ∃ (p : Addr) (g : Nat) (x y : V) (s o : D) (a : Ads) (ss : List D) (ws : Nat → List D) (ln : Nat), vs = [.ref p, .int (g : Int), x, y] ∧ MeR N C H p a ss ws ln ∧ g < 24 ∧ Is C H x s ∧ Is C H y o ∧ cln s = true ∧ cln o = true ∧ ∀ H', MeR N C H' p a (ss.set g (.tup [s, o, .non])) ws ln → Bum a H H' → Q .non H'
theorem ixN_of {n k : Nat} (h : k < n) : ixN n (k : Int) = some k := by
  unfold ixN
  rw [if_pos (by omega), if_pos (by omega)]; simp
section
variable {P : Program} {w : World} {K : PySem.W.Frag} {mg : Str → Option Value} {base : Heap} {f : Addr} {fd : FuncData} {C N : Addr}
abbrev s_Memory__write : Stmt := L2.inClass (top 39) 23
theorem sc_Memory__write : FnScope ["self", "g", "i", "word"] ["self", "g", "i", "word"] (C8.fnScope s_Memory__write) := C8.fnScope_by (by decide +kernel)
theorem ok_write {fI : Addr} {fdI : FuncData} (me : Meth K N "_write" fI) (G : MeC K mg N) (T : Txt K mg w C) (F : C8.Fun K "_write" "Memory._write" s_Memory__write fI fdI) (b : Binds K fdI ["self", "g", "i", "word"] []) : C8.Met P w K mg base 1 N "_write" (spWri N C) [] := by
  refine C8.met0 G.cl me F b sc_Memory__write (fun vs H Q E h => ?_) (fun cdv A outer s H vs Q E hr h => ?_)
  · obtain ⟨p, g, i, x, d, a, ss, ws, ln, rfl, _⟩ := h; rfl
  obtain ⟨p, g, i, x, d, a, ss, ws, ln, rfl, M, hg, hi, hx, hd, q⟩ := h
  obtain ⟨dx, hp⟩ := M.ins
  obtain ⟨r, hr'⟩ : ∃ r, a.rows[g]? = some r := ⟨_, List.getElem?_eq_getElem (by rw [M.r24]; exact hg)⟩
  obtain ⟨ys, hy, iy, l4⟩ := M.rw g r hr'
  have hyl := iy.len
  refine ⟨_, (pss_one (ps_asg (pv 3) (pg_sub (pe_ix ix_list (pe_fld (pv 0) rfl) (pv 1) (fun _ _ => rfl)) (pv 2) set_list))), ?_⟩
  refine ⟨_, rfl, _, rfl, p, N, dx, _, _, rfl, hp, G.cl, G.n2, rfl, _, rfl, a.wl, _, (g : Int), _, rfl, rfl, SqL.of M.hw, atI_nat (by rw [List.getElem?_map, hr']; rfl), ?_⟩
  refine ⟨_, rfl, r, ys, (i : Int), i, rfl, rfl, hy, ixN_of (by omega), ?_⟩
  exact q _ (M.setW hr' hy iy i hx hd) (Bum.put (by unfold Ads.cells; exact List.mem_cons_of_mem _ (List.mem_cons_of_mem _ (List.mem_cons_of_mem _ (List.mem_of_getElem? hr')))))
abbrev s_Memory__leave : Stmt := L2.inClass (top 39) 25
theorem sc_Memory__leave : FnScope ["self", "g", "state", "owner"] ["self", "g", "state", "owner"] (C8.fnScope s_Memory__leave) := C8.fnScope_by (by decide +kernel)
theorem ok_leave {fI : Addr} {fdI : FuncData} (me : Meth K N "_leave" fI) (G : MeC K mg N) (T : Txt K mg w C) (F : C8.Fun K "_leave" "Memory._leave" s_Memory__leave fI fdI) (b : Binds K fdI ["self", "g", "state", "owner"] []) : C8.Met P w K mg base 1 N "_leave" (spLea N C) [] := by
  refine C8.met0 G.cl me F b sc_Memory__leave (fun vs H Q E h => ?_) (fun cdv A outer s H vs Q E hr h => ?_)
  · obtain ⟨p, g, x, y, s, o, a, ss, ws, ln, rfl, _⟩ := h; rfl
  obtain ⟨p, g, x, y, s, o, a, ss, ws, ln, rfl, M, hg, hx, hy, hs, ho, q⟩ := h
  refine ⟨_, (pss_one (ps_asg (pe_tup (pa_cons (pv 2) (pa_cons (pv 3) (pa_cons pe_non pa_nil)))) (pg_sub (pe_fld (pv 0) rfl) (pv 1) set_list))), ?_⟩
  refine ⟨_, rfl, _, rfl, (by show 3 ≤ sizeLine; decide), fun t ht => ?_⟩
  have s1 := same_new (o := .tup [x, y, .non]) ht
  have M := M.same s1
  have it : Is C (upd H t (.tup [x, y, .non])) (.ref t) (.tup [s, o, .non]) := .tup upd_same (.cons (hx.same s1) (.cons (hy.same s1) (.cons .non .nil)))
  generalize upd H t (.tup [x, y, .non]) = H1 at *
  obtain ⟨dx, hp⟩ := M.ins
  obtain ⟨sx, hsx, ix⟩ := M.hs
  have hxl := ix.len
  have s24 := M.s24
  refine ⟨_, rfl, p, N, dx, _, _, rfl, hp, G.cl, G.n1, rfl, _, rfl, a.sl, sx, (g : Int), g, rfl, rfl, hsx, ixN_of (by omega), ?_⟩
  exact q _ (M.setS hsx ix g it (by simp only [cln, clnL, hs, ho]; rfl)) ((Bum.of s1).trans (Bum.put (by unfold Ads.cells; exact List.mem_cons_self)))
abbrev s_Memory__hold : Stmt := L2.inClass (top 39) 24
theorem sc_Memory__hold : FnScope ["self", "p", "g", "state", "owner", "holder"] ["self", "p", "g"] (C8.fnScope s_Memory__hold) := C8.fnScope_by (by decide +kernel)
theorem ok_hold {fI : Addr} {fdI : FuncData} (me : Meth K N "_hold" fI) (G : MeC K mg N) (T : Txt K mg w C) (F : C8.Fun K "_hold" "Memory._hold" s_Memory__hold fI fdI) (b : Binds K fdI ["self", "p", "g"] []) : C8.Met P w K mg base 1 N "_hold" (spHol N C) [] := by
  refine C8.met0 G.cl me F b sc_Memory__hold (fun vs H Q E h => ?_) (fun cdv A outer s H vs Q E hr h => ?_)
  · obtain ⟨p, g, qv, dq, st, ow, a, ss, ws, ln, rfl, _⟩ := h; rfl
  obtain ⟨p, g, qv, dq, st, ow, a, ss, ws, ln, rfl, M, hg, hst, hq, hdq, q⟩ := h
  obtain ⟨dx, hp⟩ := M.ins
  obtain ⟨sx, hsx, ix⟩ := M.hs
  have hxl := ix.len
  have s24 := M.s24
  have hg' : g < sx.length := by omega
  obtain ⟨e, he, ie⟩ := ix.at (List.getElem?_eq_getElem hg')
  rw [hst] at he
  cases he
  have hcow : cln ow = true := by
    have := clnL_iff.mp M.cs _ (List.mem_of_getElem? hst)
    simp only [cln, clnL, Bool.and_eq_true] at this
    exact this.2.1
  refine ⟨_, (pss_cons (ps_asg (pe_ix ix_list (pe_fld (pv 0) rfl) (pv 2) (fun _ _ => rfl)) (pg_tup rfl (pgs_cons (pg_name (i := 3) sc_Memory__hold.nd rfl (Or.inl rfl)) (pgs_cons (pg_name (i := 4) sc_Memory__hold.nd rfl (Or.inl rfl)) (pgs_cons (pg_name (i := 5) sc_Memory__hold.nd rfl (Or.inl rfl)) pgs_nil)))))
      (pss_cons (ps_if (pt_cmpR op_notN (pv 5) pe_non (nomark _)) (pss_one (ps_ret pe_non)) pss_nil)
      (pss_cons (ps_asg (pe_tup (pa_cons (pv 3) (pa_cons (pv 4) (pa_cons (pv 1) pa_nil)))) (pg_sub (pe_fld (pv 0) rfl) (pv 2) set_list))
      (pss_one (ps_ret (pe_tup (pa_cons (pv 3) (pa_cons (pv 4) pa_nil)))))))), ?_⟩
  have hx0 := List.getElem?_eq_getElem hg'
  generalize sx[g] = x0 at hx0 ie
  cases ie with
  | @tup b xs _ hb hxs =>
  cases hxs with
  | @cons y0 _ _ _ j0 hxs => cases hxs with
  | @cons y1 _ _ _ j1 hxs => cases hxs with
  | @cons y2 _ _ _ j2 hxs =>
  cases hxs
  cases j0
  cases j2
  refine ⟨_, rfl, p, N, dx, _, _, rfl, hp, G.cl, G.n1, rfl, _, rfl, a.sl, sx, (g : Int), _, rfl, rfl, SqL.of hsx, atI_nat hx0, ?_⟩
  refine ⟨b, _, rfl, SqT.of hb, rfl, _, _, rfl, _, _, rfl, _, _, rfl, rfl, ?_⟩
  refine ⟨_, rfl, rfl, _, rfl, bF rfl ?_⟩
  unfold tNext
  dsimp only
  refine ⟨_, rfl, _, rfl, _, rfl, (by show 3 ≤ sizeLine; decide), fun t ht => ?_⟩
  have s1 := same_new (o := .tup [.str st, y1, qv]) ht
  have M := M.same s1
  have it : Is C (upd H t (.tup [.str st, y1, qv])) (.ref t) (.tup [.str st, ow, dq]) := .tup upd_same (.cons (.str _) (.cons (j1.same s1) (.cons (hq.same s1) .nil)))
  have hp := s1 _ _ hp
  have hsx := s1 _ _ hsx
  have ix := ix.same s1
  generalize upd H t (.tup [.str st, y1, qv]) = H1 at *
  refine ⟨_, rfl, p, N, dx, _, _, rfl, hp, G.cl, G.n1, rfl, _, rfl, a.sl, sx, (g : Int), g, rfl, rfl, hsx, ixN_of (by omega), ?_⟩
  refine ⟨_, rfl, _, rfl, (by show 2 ≤ sizeLine; decide), fun t2 ht2 => ?_⟩
  have s2 := same_new (o := .tup [.str st, y1]) ht2
  exact q _ _ ((M.setS hsx ix g it (by simp only [cln, clnL, hcow, hdq]; rfl)).same s2) (((Bum.of s1).trans (Bum.put (by unfold Ads.cells; exact List.mem_cons_self))).trans (Bum.of s2))
end
end Hc

/-! o.m( *e) and o.m(e1, *e2), e a list or a tuple -/
namespace Hr
open PySem PySem.Spec PyProof.Rows L2
/-- a method that is called with a star -/
structure MetS (P : Program) (w : World) (K : PySem.W.Frag) (mg : Str → Option Value) (base : Heap) (k : Nat) (C : Addr) (m : Str) (g : Addr) (sp : Sp) : Prop where
  c : Cls K C
  b : BMeth K C m g
  r : FnR P w K mg base C8.CX0 k g sp
theorem mets {P : Program} {w : World} {K : PySem.W.Frag} {mg : Str → Option Value} {base : Heap} {k : Nat} {C : Addr} {m : Str} {g : Addr} {sp : Sp} {fd : FuncData} {ps : List Str} (c : Cls K C) (b : BMeth K C m g) (F : FnOk P w K mg base C8.CX0 k g fd ps sp) (hb : Binds K fd ps []) : MetS P w K mg base k C m g sp :=
  ⟨c, b, by
    have := F.raw hb .nil
    exact this.imp fun vs H Q E h => by rw [List.append_nil]; exact h⟩
def tMethSL (K : PySem.W.Frag) (C : Addr) (m : Str) (g : Addr) (sp : Sp) (E : XK) (ta te : TE) : TE := fun σ H Q => ta σ H fun x H1 => ∃ a dx fs, x = .ref a ∧ H1 a = some (.ins C dx fs) ∧ fs.lookup m = none ∧
  ∀ q, H1 q = none → te σ (upd H1 q (.met g a)) fun y H2 => ∃ b vs, y = .ref b ∧ (SqT K H2 b vs ∨ SqL K H2 b vs) ∧ H2 q = some (.met g a) ∧ sp (.ref a :: vs) H2 Q E
theorem pe_mtSL {X : Cx} {k j : Nat} {C g : Addr} {m : Str} {sp : Sp} {o e : Expr} {ta te : TE} {p apos pos : Pos} (M : MetS X.prog X.w X.K X.mg X.base k C m g sp) (hr : Room j X.A) (hk : k ≤ j) (he : PE X o ta) (ha : PE X e te) (hbase : attributeBase o m X.env (eval o X.env) = eval o X.env := by rfl) : PE X (.Call (.Attribute o m apos) [.Starred e p] [] pos) (tMethSL X.K C m g sp C8.E0 ta te) := by
  refine ⟨fun pins s σ H Q I h => ?_⟩
  refine starcall_of hbase (thn (he.run pins s σ H _ I h) fun u s1 ⟨x, H1, I1, rx, a, dx, fs, ex, ea, l, q⟩ => ?_)
  subst ex
  obtain rfl : u = Value.ref a := rx
  refine getbound_ok I1 ea M.c M.b l fun q1 s2 hq1 I2 => ?_
  refine PySem.W.ks_call (P := PySem.W.MethP X.K q1 g (.ref a)) rfl (PySem.W.keeps_M M.b.fi) (PySem.W.ks_lone ?_)
  refine thn (ha.run pins s2 σ _ _ I2 (q q1 hq1)) fun v s3 ⟨y, H2, I3, ry, t, vs, ey, ht, hm, hsp⟩ => ?_
  subst ey
  obtain rfl : v = Value.ref t := ry
  refine StX.star_any I3 ht fun us s4 I4 rv => ⟨met_P I4 hm, ?_⟩
  exact wpAny_call (PySem.W.method_call (met_P I4 hm).1 (run_fnR (us := Value.ref a :: us) (vs := V.ref a :: vs) M.r (hr.mono hk) C8.pass0 I4 (.cons rfl rv) hsp))
theorem pe_mtSB {X : Cx} {k j : Nat} {C g : Addr} {m : Str} {sp : Sp} {o e1 e2 : Expr} {ta t1 t2 : TE} {p apos pos : Pos} (M : MetS X.prog X.w X.K X.mg X.base k C m g sp) (hr : Room j X.A) (hk : k ≤ j) (he : PE X o ta) (h1 : PE X e1 t1) (h2 : PE X e2 t2) (hbase : attributeBase o m X.env (eval o X.env) = eval o X.env := by rfl)
    (hst : starEach [e1, .Starred e2 p] X.env = [(false, eval e1 X.env), (true, eval e2 X.env)] := by rfl) : PE X (.Call (.Attribute o m apos) [e1, .Starred e2 p] [] pos) (tMethSB X.K C m g sp C8.E0 ta t1 t2) := pe_methSB he M.c M.b M.r (hr.mono hk) C8.pass0 h1 h2 hbase hst
end Hr

set_option maxHeartbeats 8000000
namespace Hc
open PySem PySem.Spec PyProof.Rows L2 Hr
inductive MOp | hold (g : Nat) | write (g i : Nat) (d : D) | leave (g : Nat) (s : Str) (o : D)
def MOp.nm : MOp → Str | .hold _ => "hold" | .write _ _ _ => "write" | .leave _ _ _ => "leave"
theorem nm_read (op : MOp) : ¬ op.nm = "read" := by
  cases op
  · exact (show ¬ (("hold" : Str) = "read") by decide +kernel)
  · exact (show ¬ (("write" : Str) = "read") by decide +kernel)
  · exact (show ¬ (("leave" : Str) = "read") by decide +kernel)
def MOp.ds : MOp → List D | .hold g => [.int (g : Int)] | .write g i d => [.int (g : Int), .int (i : Int), d] | .leave g s o => [.int (g : Int), .str s, o]
def MOp.ok (ss : List D) : MOp → Prop
  | .hold g => g < 24 ∧ ∃ st ow, ss[g]? = some (.tup [.str st, ow, .non])
  | .write g i d => g < 24 ∧ i < 4 ∧ cln d = true
  | .leave g _ o => g < 24 ∧ cln o = true
def MOp.ss (ss : List D) : MOp → List D
  | .hold g => match ss[g]? with | some (.tup [s, o, _]) => ss.set g (.tup [s, o, .int 0]) | _ => ss
  | .write _ _ _ => ss
  | .leave g s o => ss.set g (.tup [.str s, o, .non])
def MOp.ws (ws : Nat → List D) : MOp → Nat → List D
  | .write g i d => fun k => if k = g then (ws g).set i d else ws k
  | _ => ws
def spAam (N C : Addr) : Sp := fun vs H Q _ => ∃ (p pt : Addr) (pvs : List V) (op : MOp) (a : Ads) (ss : List D) (ws : Nat → List D) (ln : Nat), vs = [.ref p, .int 0, .str op.nm, .ref pt] ∧ MeR N C H p a ss ws ln ∧ H pt = some (.lst pvs) ∧ IsA C H pvs op.ds ∧ op.ok ss ∧ ∀ H' x, MeR N C H' p a (op.ss ss) (op.ws ws) ln → Bum a H H' → Q x H'
section
variable {P : Program} {w : World} {K : PySem.W.Frag} {mg : Str → Option Value} {base : Heap} {f : Addr} {fd : FuncData} {C N gW gH gL : Addr}
abbrev s_Memory__act_as_monitor : Stmt := L2.inClass (top 39) 16
theorem sc_Memory__act_as_monitor : FnScope ["self", "p", "name", "parts"] ["self", "p", "name", "parts"] (C8.fnScope s_Memory__act_as_monitor) := C8.fnScope_by (by decide +kernel)
theorem ok_aam {fI : Addr} {fdI : FuncData} (me : Meth K N "_act_as_monitor" fI) (G : MeC K mg N) (T : Txt K mg w C) (MW : MetS P w K mg base 1 N "_write" gW (spWri N C)) (MH : MetS P w K mg base 1 N "_hold" gH (spHol N C)) (ML : MetS P w K mg base 1 N "_leave" gL (spLea N C)) (F : C8.Fun K "_act_as_monitor" "Memory._act_as_monitor" s_Memory__act_as_monitor fI fdI) (b : Binds K fdI ["self", "p", "name", "parts"] []) : C8.Met P w K mg base 2 N "_act_as_monitor" (spAam N C) [] := by
  refine C8.met0 G.cl me F b sc_Memory__act_as_monitor (fun vs H Q E h => ?_) (fun cdv A outer s H vs Q E hr h => ?_)
  · obtain ⟨p, pt, pvs, op, a, ss, ws, ln, rfl, _⟩ := h; rfl
  obtain ⟨p, pt, pvs, op, a, ss, ws, ln, rfl, M, hpt, ipv, hop, q⟩ := h
  obtain ⟨dx, hp⟩ := M.ins
  refine ⟨_, (pss_cons (ps_if (pt_cmpR op_eq (pv 2) pe_str (nomark _)) (pss_one ps_never) pss_nil)
      (pss_cons (ps_if (pt_cmpR op_eq (pv 2) pe_str (nomark _)) (pss_one (ps_ret (pe_mtSL MW hr (by first | decide | omega) (pv 0) (pv 3)))) pss_nil)
      (pss_cons (ps_if (pt_cmpR op_eq (pv 2) pe_str (nomark _)) (pss_one ps_never) pss_nil)
      (pss_cons (ps_if (pt_cmpR op_eq (pv 2) pe_str (nomark _)) (pss_one (ps_ret (pe_mtSB MH hr (by first | decide | omega) (pv 0) (pv 1) (pv 3)))) pss_nil)
      (pss_cons (ps_if (pt_cmpR op_eq (pv 2) pe_str (nomark _)) (pss_one (ps_ret (pe_mtSL ML hr (by first | decide | omega) (pv 0) (pv 3)))) pss_nil)
      (pss_cons ps_never
      (pss_cons ps_never
      (pss_cons ps_never
      (pss_cons ps_never
      (pss_cons ps_never
      (pss_cons ps_never
      (pss_cons ps_never
      (pss_one ps_never))))))))))))), ?_⟩
  refine ⟨_, rfl, rfl, _, rfl, ifF (fun z => nm_read op (V.str.inj z)) ?_⟩
  unfold tNext
  dsimp only
  refine ⟨_, rfl, rfl, _, rfl, ?_⟩
  cases op with
  | write g i d =>
    obtain ⟨hg, hi, hd⟩ := hop
    cases ipv with
    | @cons y0 _ _ _ j0 ipv => cases ipv with
    | @cons y1 _ _ _ j1 ipv => cases ipv with
    | @cons y2 _ _ _ j2 ipv =>
    cases ipv
    cases j0
    cases j1
    refine ifT rfl ⟨_, rfl, p, dx, _, rfl, hp, rfl, fun qq hqq => ?_⟩
    have s1 := same_new (o := .met gW p) hqq
    refine ⟨_, rfl, pt, _, rfl, .inr (SqL.of (s1 _ _ hpt)), upd_same, ?_⟩
    exact ⟨p, g, i, y2, d, a, ss, ws, ln, rfl, M.same s1, hg, hi, j2.same s1, hd, fun H' M' b' => q H' _ M' ((Bum.of s1).trans b')⟩
  | hold g =>
    obtain ⟨hg, st, ow, hst⟩ := hop
    cases ipv with
    | @cons y0 _ _ _ j0 ipv =>
    cases ipv
    cases j0
    refine ifF (fun z => absurd (V.str.inj z) (show ¬ (("hold" : Str) = "write") by decide +kernel)) ?_
    refine ⟨_, rfl, rfl, _, rfl, ifF (fun z => absurd (V.str.inj z) (show ¬ (("hold" : Str) = "copy") by decide +kernel)) ?_⟩
    refine ⟨_, rfl, rfl, _, rfl, ifT rfl ⟨_, rfl, p, dx, _, rfl, hp, rfl, fun qq hqq => ?_⟩⟩
    have s1 := same_new (o := .met gH p) hqq
    refine ⟨_, rfl, _, rfl, pt, _, rfl, .inr (SqL.of (s1 _ _ hpt)), upd_same, ?_⟩
    refine ⟨p, g, .int 0, .int 0, st, ow, a, ss, ws, ln, rfl, M.same s1, hg, hst, .int 0, rfl, fun H' x M' b' => q H' x ?_ ((Bum.of s1).trans b')⟩
    have e : MOp.ss ss (.hold g) = ss.set g (.tup [.str st, ow, .int 0]) := by simp only [MOp.ss, hst]
    rw [e]; exact M'
  | leave g s o =>
    obtain ⟨hg, ho⟩ := hop
    cases ipv with
    | @cons y0 _ _ _ j0 ipv => cases ipv with
    | @cons y1 _ _ _ j1 ipv => cases ipv with
    | @cons y2 _ _ _ j2 ipv =>
    cases ipv
    cases j0
    refine ifF (fun z => absurd (V.str.inj z) (show ¬ (("leave" : Str) = "write") by decide +kernel)) ?_
    refine ⟨_, rfl, rfl, _, rfl, ifF (fun z => absurd (V.str.inj z) (show ¬ (("leave" : Str) = "copy") by decide +kernel)) ?_⟩
    refine ⟨_, rfl, rfl, _, rfl, ifF (fun z => absurd (V.str.inj z) (show ¬ (("leave" : Str) = "hold") by decide +kernel)) ?_⟩
    refine ⟨_, rfl, rfl, _, rfl, ifT rfl ⟨_, rfl, p, dx, _, rfl, hp, rfl, fun qq hqq => ?_⟩⟩
    have s1 := same_new (o := .met gL p) hqq
    refine ⟨_, rfl, pt, _, rfl, .inr (SqL.of (s1 _ _ hpt)), upd_same, ?_⟩
    exact ⟨p, g, y1, y2, .str s, o, a, ss, ws, ln, rfl, M.same s1, hg, j1.same s1, j2.same s1, rfl, ho, fun H' M' b' => q H' _ M' ((Bum.of s1).trans b')⟩
end
end Hc

namespace Hr
open PySem PySem.Spec PyProof.Rows L2 PySem.W
section
variable {prog : Program} {w : World} {A : Around} {E : Value → Shared → Prop} {s : Shared}
theorem star_run {l : Addr} {items : Array Value} {x : Value} {xs : List Value} {Q : List Value → Shared → Prop} (hl : IsTup s.heap l items) (hh : A.handled = none) (he : items.toList = x :: xs) (hz : items.size ≤ 16384)
    (h : ∀ h₂ tk, Heap.ExtBut s.heap.objs.size s.heap h₂ → wpAny (model prog w) A (newList xs) (fun D s' => Q [x, D] s') E { s with heap := h₂, toks := tk }) : wpAny (model prog w) A (unpackItems (.ref l) 2 (some 1)) Q E s := by
  have hn : items.size = xs.length + 1 := by rw [← Array.length_toList, he]; rfl
  have hlt : l ≠ s.heap.objs.size := by obtain ⟨o, ho, _⟩ := hl; exact Nat.ne_of_lt (Heap.lt_size ho)
  unfold unpackItems
  refine wpAny_bind ?_
  unfold notIterableAtAll
  refine wpAny_bind (wpAny_specialOf hl.typeIs slot_tuple_iter.lookup ?_)
  refine wpAny_pure ?_
  simp only [Bool.false_eq_true, if_false]
  refine wpAny_bind (wpAny_holding (iter_tuple hl ?_))
  refine wpAny_bind (wpAny_holding (draw_tuple hlt 1 0 _ _ ⟨_, Heap.get?_push_size _ rfl, rfl, rfl⟩ (hl.push _) (by omega) fun h₁ hit₁ hs₁ => ?_))
  have hl₁ : IsTup h₁ l items := (hl.push _).extBut hs₁.extBut hlt
  rw [Nat.zero_add] at hit₁
  have hit₁' := hit₁
  obtain ⟨oi, hoi, _⟩ := hit₁'
  have hl₁' := hl₁
  obtain ⟨ol, hol, _⟩ := hl₁'
  rw [List.drop_zero, he]
  rw [if_neg (show ¬ (((x :: xs).take 1).length < 1) by simp)]
  refine wpAny_bind (wpAny_holding (kun_collect (s := { s with heap := h₁ }) (T := "tuple_iterator") (.inr (.inr (.inr rfl))) (Walks.tuple (A := A.in1) hh s.heap.objs.size l hlt items) (fun j u st => st.1.typeIs) (k := 1) (by omega) ⟨hit₁, hl₁⟩ (Heap.lt_size hoi) (Heap.lt_size hol) (fun h₂ tk hk => ?_) (by rw [sizeLine_eq]; omega)))
  rw [he]
  have e0 : ((x :: xs).drop 1) = xs := rfl
  rw [e0]
  show wpAny _ _ (if xs.length < 0 then _ else _) _ _ _
  rw [if_neg (by omega)]
  show wpAny _ _ (newList (xs.take (xs.length - 0)) >>= fun d => pure ([x] ++ [d] ++ xs.drop (xs.length - 0))) _ _ _
  rw [Nat.sub_zero, List.take_length, List.drop_length]
  have hE : Heap.ExtBut s.heap.objs.size s.heap h₂ := fun b o hb e => hk b o hb (hs₁.extBut b o hb (Heap.get?_push_of_some _ e))
  refine wpAny_bind (wpAny_mono (h h₂ tk hE) (fun D s' hq => wpAny_pure hq) fun _ _ z => z)
end
/-- a, *b = a tuple -/
def gStar (K : PySem.W.Frag) (t : TGs) : TG := fun v σ H Q => ∃ a x xs, v = .ref a ∧ SqT K H a (x :: xs) ∧ xs.length ≤ 1000 ∧ ∀ l, H l = none → t [x, .ref l] σ (upd H l (.lst xs)) Q
theorem pg_star {X : Cx} {e1 e2 : Expr} {p pos : Pos} {k : Nat} {t : TGs} (hc : X.calm = true) (h : PGs X [e1, e2] t)
    (hm : (assignEach [e1, .Starred e2 p] X.env).map (·.2) = (assignEach [e1, e2] X.env).map (·.2) := by rfl) (hl : (assignEach [e1, .Starred e2 p] X.env).length = 2 := by rfl) (hst : (assignEach [e1, .Starred e2 p] X.env).findIdx? (·.1) = some 1 := by rfl) : PG X (.Tuple [e1, .Starred e2 p] k pos) (gStar X.K t) := by
  refine ⟨fun pins s σ H v u Q I r hw => ?_⟩
  obtain ⟨a, x, xs, e1, hq, hz, hw⟩ := hw
  subst e1
  cases r
  obtain ⟨its, rv, ht, hzz⟩ := I.tuple hq
  obtain ⟨u, us, rfl, ru, rus⟩ : ∃ u us, its = u :: us ∧ RelV x u ∧ Vals xs us := by
    cases rv with
    | cons h1 h2 => exact ⟨_, _, rfl, h1, h2⟩
  rw [assign_Tuple]
  refine wpAny_bind (wpAny_standAt ?_)
  unfold unpack
  rw [hl, hst, hm]
  refine wpAny_bind (wpAny_holding (star_run (x := u) (xs := us) ht (I.ok.hd hc) rfl (by rw [List.size_toArray, List.length_cons, ← rus.length]; omega) fun h' tk hx => ?_))
  have I1 : Inv X pins σ H { s with heap := h', toks := tk } := I.kept (t' := tk) fun b o e => hx b o (Nat.ne_of_lt (Heap.lt_size e)) e
  refine wpAny_newList ?_ (by rw [← rus.length, sizeLine_eq]; omega)
  have hf : H h'.objs.size = none := I1.hok.fresh (Nat.le_refl _)
  have I2 : Inv X pins σ (upd H h'.objs.size (.lst xs)) _ := I1.laid (t' := tk) (fun b u e => Heap.get?_push_of_some _ e) (Nat.le_refl _) ⟨by rw [sizeLine_eq]; omega, us, 0, rus, Heap.get?_push_size _ rfl⟩
  exact h.run pins _ σ _ [x, .ref h'.objs.size] _ Q I2 (.cons ru (.cons (show RelV (.ref h'.objs.size) (.ref h'.objs.size) from rfl) .nil)) (hw _ hf)
end Hr

set_option maxHeartbeats 8000000
namespace Hc
open PySem PySem.Spec PyProof.Rows L2 Hr
def MOp.fs : MOp → List Str | .hold _ => ["granule"] | .write _ _ _ => ["granule", "index", "word"] | .leave _ _ _ => ["granule", "state", "owner"]
theorem MOp.mem (op : MOp) : (op.nm, op.fs) ∈ monF := by cases op <;> simp [MOp.nm, MOp.fs, monF]
theorem MOp.len (op : MOp) : op.ds.length = op.fs.length := by cases op <;> rfl
def spMA (N C : Addr) : Sp := fun vs H Q _ => ∃ (p ar rr : Addr) (op : MOp) (a : Ads) (ss : List D) (ws : Nat → List D) (ln : Nat), vs = [.ref p, .ref ar, .ref rr] ∧ MeR N C H p a ss ws ln ∧ H ar = some (.tup [.str "monitor", .int 0]) ∧ Is C H (.ref rr) (.tup (.str op.nm :: op.ds)) ∧ op.ok ss ∧ (∀ e ∈ op.ds, Fit e) ∧ ((op.ds.zip op.fs).all fun p => fitsD p.1 p.2) = true ∧ ln < 100000 ∧
  ∀ H' x, MeR N C H' p a (op.ss ss) (op.ws ws) (ln + 1) → Bum a H H' → Q x H'
def spMS (N C : Addr) : Sp := fun vs H Q _ => ∃ (p : Addr) (g : Nat) (e : D) (a : Ads) (ss : List D) (ws : Nat → List D) (ln : Nat), vs = [.ref p, .int (g : Int)] ∧ MeR N C H p a ss ws ln ∧ g < 24 ∧ ss[g]? = some e ∧ ∀ x, Is C H x e → Q x H
def spMW (N C : Addr) : Sp := fun vs H Q _ => ∃ (p : Addr) (g : Nat) (a : Ads) (ss : List D) (ws : Nat → List D) (ln : Nat), vs = [.ref p, .int (g : Int)] ∧ MeR N C H p a ss ws ln ∧ g < 24 ∧ ∀ H' t, Same H H' → H t = none → Is C H' (.ref t) (.tup (ws g)) → Q (.ref t) H'
def spML (N C : Addr) : Sp := fun vs H Q _ => ∃ (p : Addr) (a : Ads) (ss : List D) (ws : Nat → List D) (ln : Nat), vs = [.ref p] ∧ MeR N C H p a ss ws ln ∧ ∀ l lx, H l = none → lx.length = ln → Q (.ref l) (upd H l (.lst lx))
section
variable {P : Program} {w : World} {K : PySem.W.Frag} {mg : Str → Option Value} {base : Heap} {f : Addr} {fd : FuncData} {C N : Addr}
abbrev s_Memory_status : Stmt := L2.inClass (top 39) 4
theorem sc_Memory_status : FnScope ["self", "g"] ["self", "g"] (C8.fnScope s_Memory_status) := C8.fnScope_by (by decide +kernel)
theorem ok_status {fI : Addr} {fdI : FuncData} (me : Meth K N "status" fI) (G : MeC K mg N) (T : Txt K mg w C) (c__number_below : C8.Cal P w K mg base 2 "_number_below" (fun vs H Q _ => ∃ i m : Int, vs = [.int i, .int m] ∧ 0 ≤ i ∧ i < m ∧ Q (.int i) H) []) (F : C8.Fun K "status" "Memory.status" s_Memory_status fI fdI) (b : Binds K fdI ["self", "g"] []) : C8.Met P w K mg base 3 N "status" (spMS N C) [] := by
  refine C8.met0 G.cl me F b sc_Memory_status (fun vs H Q E h => ?_) (fun cdv A outer s H vs Q E hr h => ?_)
  · obtain ⟨p, g, e, a, ss, ws, ln, rfl, _⟩ := h; rfl
  obtain ⟨p, g, e, a, ss, ws, ln, rfl, M, hg, he, q⟩ := h
  obtain ⟨dx, hp⟩ := M.ins
  obtain ⟨sx, hsx, ix⟩ := M.hs
  have hxl := ix.len
  have s24 := M.s24
  have hg' : g < sx.length := by omega
  obtain ⟨e', he', ie⟩ := ix.at (List.getElem?_eq_getElem hg')
  rw [he] at he'
  cases he'
  refine ⟨_, (pss_one (ps_ret (pe_ix ix_list (pe_fld (pv 0) rfl) (C8.pe_c c__number_below hr (by first | decide | omega) rfl (pa_cons (pv 1) (pa_cons (C8.pe_gc rfl T.c_GRANULES) pa_nil))) (fun _ _ => rfl)))), ?_⟩
  exact ⟨_, rfl, p, N, dx, _, _, rfl, hp, G.cl, G.n1, rfl, _, rfl, (g : Int), 24, rfl, by omega, by omega, a.sl, sx, (g : Int), _, rfl, rfl, SqL.of hsx, atI_nat (List.getElem?_eq_getElem hg'), q _ ie⟩
abbrev s_Memory_words : Stmt := L2.inClass (top 39) 5
theorem sc_Memory_words : FnScope ["self", "g"] ["self", "g"] (C8.fnScope s_Memory_words) := C8.fnScope_by (by decide +kernel)
theorem ok_words {fI : Addr} {fdI : FuncData} (me : Meth K N "words" fI) (G : MeC K mg N) (T : Txt K mg w C) (c__number_below : C8.Cal P w K mg base 2 "_number_below" (fun vs H Q _ => ∃ i m : Int, vs = [.int i, .int m] ∧ 0 ≤ i ∧ i < m ∧ Q (.int i) H) []) (F : C8.Fun K "words" "Memory.words" s_Memory_words fI fdI) (b : Binds K fdI ["self", "g"] []) : C8.Met P w K mg base 3 N "words" (spMW N C) [] := by
  refine C8.met0 G.cl me F b sc_Memory_words (fun vs H Q E h => ?_) (fun cdv A outer s H vs Q E hr h => ?_)
  · obtain ⟨p, g, a, ss, ws, ln, rfl, _⟩ := h; rfl
  obtain ⟨p, g, a, ss, ws, ln, rfl, M, hg, q⟩ := h
  obtain ⟨dx, hp⟩ := M.ins
  obtain ⟨r, hr'⟩ : ∃ r, a.rows[g]? = some r := ⟨_, List.getElem?_eq_getElem (by rw [M.r24]; exact hg)⟩
  obtain ⟨ys, hy, iy, l4⟩ := M.rw g r hr'
  refine ⟨_, (pss_one (ps_ret (pe_callTy call_tuple_of rfl T.z_tuple bt_tuple (pa_cons (pe_ix ix_list (pe_fld (pv 0) rfl) (C8.pe_c c__number_below hr (by first | decide | omega) rfl (pa_cons (pv 1) (pa_cons (C8.pe_gc rfl T.c_GRANULES) pa_nil))) (fun _ _ => rfl)) pa_nil)))), ?_⟩
  refine ⟨_, rfl, p, N, dx, _, _, rfl, hp, G.cl, G.n2, rfl, _, rfl, (g : Int), 24, rfl, by omega, by omega, a.wl, _, (g : Int), _, rfl, rfl, SqL.of M.hw, atI_nat (by rw [List.getElem?_map, hr']; rfl), ?_⟩
  refine ⟨r, ys, rfl, .inl ⟨SqL.of hy, fun t ht => ?_⟩⟩
  have s1 := same_new (o := .tup ys) ht
  exact q _ t s1 ht (.tup upd_same (iy.same s1))
abbrev s_Memory_log : Stmt := L2.inClass (top 39) 2
theorem sc_Memory_log : FnScope ["self"] ["self"] (C8.fnScope s_Memory_log) := C8.fnScope_by (by decide +kernel)
theorem ok_log {fI : Addr} {fdI : FuncData} (me : Meth K N "log" fI) (G : MeC K mg N) (T : Txt K mg w C) (F : C8.Fun K "log" "Memory.log" s_Memory_log fI fdI) (b : Binds K fdI ["self"] []) : C8.Met P w K mg base 1 N "log" (spML N C) [] := by
  refine C8.met0 G.cl me F b sc_Memory_log (fun vs H Q E h => ?_) (fun cdv A outer s H vs Q E hr h => ?_)
  · obtain ⟨p, a, ss, ws, ln, rfl, _⟩ := h; rfl
  obtain ⟨p, a, ss, ws, ln, rfl, M, q⟩ := h
  obtain ⟨dx, hp⟩ := M.ins
  obtain ⟨lx, hl, hll⟩ := M.hl
  refine ⟨_, (pss_one (ps_ret (pe_callTy call_list_of rfl T.z_list bt_list (pa_cons (pe_fld (pv 0) rfl) pa_nil)))), ?_⟩
  exact ⟨_, rfl, p, N, dx, _, _, rfl, hp, G.cl, G.n9, rfl, a.lg, lx, rfl, .inl (SqL.of hl), fun l hl' => q l lx hl' hll⟩
abbrev s_Memory_access : Stmt := L2.inClass (top 39) 1
theorem sc_Memory_access : FnScope ["self", "actor", "request", "kind", "processor", "name", "parts", "result"] ["self", "actor", "request"] (C8.fnScope s_Memory_access) := C8.fnScope_by (by decide +kernel)
theorem ok_access {fI : Addr} {fdI : FuncData} (me : Meth K N "access" fI) (G : MeC K mg N) (T : Txt K mg w C) (c_is_access : C8.Cal P w K mg base 5 "is_access" (spAcc C) []) (m__act_as_monitor : C8.Met P w K mg base 2 N "_act_as_monitor" (spAam N C) []) (F : C8.Fun K "access" "Memory.access" s_Memory_access fI fdI) (b : Binds K fdI ["self", "actor", "request"] []) : C8.Met P w K mg base 6 N "access" (spMA N C) [] := by
  refine C8.met0 G.cl me F b sc_Memory_access (fun vs H Q E h => ?_) (fun cdv A outer s H vs Q E hr h => ?_)
  · obtain ⟨p, ar, rr, op, a, ss, ws, ln, rfl, _⟩ := h; rfl
  obtain ⟨p, ar, rr, op, a, ss, ws, ln, rfl, M, har, hrr, hop, hft, hfit, hln, q⟩ := h
  refine ⟨_, (pss_cons (ps_if (pt_not (pt_val (C8.pe_c c_is_access hr (by first | decide | omega) rfl (pa_cons (pv 1) (pa_cons (pv 2) pa_nil))))) (pss_one ps_never) pss_nil)
      (pss_cons (ps_asg (pv 1) (pg_tup rfl (pgs_cons (pg_name (i := 3) sc_Memory_access.nd rfl (Or.inl rfl)) (pgs_cons (pg_name (i := 4) sc_Memory_access.nd rfl (Or.inl rfl)) pgs_nil))))
      (pss_cons (ps_asg (pv 2) (pg_star rfl (pgs_cons (pg_name (i := 5) sc_Memory_access.nd rfl (Or.inl rfl)) (pgs_cons (pg_name (i := 6) sc_Memory_access.nd rfl (Or.inl rfl)) pgs_nil))))
      (pss_cons (ps_if (pt_cmpR op_eq (pv 3) pe_str (nomark _)) (pss_one ps_never) (pss_one (ps_if (pt_cmpR op_eq (pv 3) pe_str (nomark _)) (pss_one (ps_set (i := 7) sc_Memory_access.nd rfl (Or.inl rfl) (C8.pe_mt m__act_as_monitor hr (by first | decide | omega) (pv 0) (pa_cons (pv 4) (pa_cons (pv 5) (pa_cons (pv 6) pa_nil)))))) (pss_one ps_never))))
      (pss_cons (ps_expr (pe_bm PySem.F.plainAttrs_list PySem.F.slot_list_append PySem.F.type_list_append mt_append (pe_fld (pv 0) rfl) (pa_cons (pe_tup (pa_cons (pe_callB call_lenS rfl T.z_len bt_len (pa_cons (pe_fld (pv 0) rfl) pa_nil)) (pa_cons (pv 1) (pa_cons (pv 2) (pa_cons (pv 7) pa_nil))))) pa_nil)))
      (pss_one (ps_ret (pv 7)))))))), ?_⟩
  refine ⟨_, rfl, _, rfl, ar, rr, op.nm, op.ds, op.fs, rfl, har, hrr, op.mem, op.len, hft, hfit, fun H1 s1 => ⟨_, rfl, bF rfl ?_⟩⟩
  unfold tNext
  dsimp only
  have har1 := s1 _ _ har
  have hrr1 := hrr.same s1
  have M1 := M.same s1
  obtain ⟨dx, hp⟩ := M1.ins
  refine ⟨_, rfl, ar, _, rfl, SqT.of har1, rfl, _, _, rfl, _, _, rfl, rfl, ?_⟩
  cases hrr1 with
  | @tup _ ys _ hra hxs =>
  cases hxs with
  | @cons y0 yt _ _ i0 hxs =>
  cases i0
  have hyl := hxs.len
  have h4 : yt.length ≤ 4 := by rw [hyl]; cases op <;> simp [MOp.ds]
  refine ⟨_, rfl, rr, _, yt, rfl, SqT.of hra, by omega, fun l hl => ?_⟩
  have s2 := same_new (o := .lst yt) hl
  have hp2 := s2 _ _ hp
  refine ⟨_, _, rfl, _, _, rfl, rfl, ?_⟩
  refine ⟨_, rfl, rfl, _, rfl, ifF (fun z => absurd (V.str.inj z) (show ¬ (("monitor" : Str) = "host") by decide +kernel)) ⟨_, rfl, rfl, _, rfl, ifT rfl ?_⟩⟩
  refine ⟨_, rfl, p, dx, _, rfl, hp2, rfl, _, rfl, _, rfl, _, rfl, p, l, yt, op, a, ss, ws, ln, rfl, M1.same s2, upd_same, hxs.same s2, hop, fun H3 x M3 b3 => ?_⟩
  obtain ⟨dx3, hp3⟩ := M3.ins
  obtain ⟨lx, hl3, hll⟩ := M3.hl
  refine ⟨_, rfl, p, N, dx3, _, _, rfl, hp3, G.cl, G.n9, rfl, .inl ⟨rfl, _, SqL.of hl3⟩, _, rfl, p, N, dx3, _, _, rfl, hp3, G.cl, G.n9, rfl, a.lg, lx, rfl, .inl (SqL.of hl3), _, rfl, _, rfl, _, rfl, (by show 4 ≤ sizeLine; decide), fun t ht => ?_⟩
  have s4 := same_new (o := .tup [.int (lx.length : Int), .ref ar, .ref rr, x]) ht
  have hl4 := s4 _ _ hl3
  have M4 := M3.same s4
  refine ⟨a.lg, lx, .ref t, rfl, rfl, hl4, Nat.lt_of_lt_of_le (show _ < 100001 by omega) (by decide), ?_⟩
  exact ⟨_, rfl, q _ _ (M4.log hl4 (.ref t)) ((((Bum.of (s1.trans s2)).trans b3).trans (Bum.of s4)).trans (Bum.put (by unfold Ads.cells; simp)))⟩
end
end Hc

set_option maxHeartbeats 8000000
namespace Hc
open PySem PySem.Spec PyProof.Rows L2 Hr
def But1 (p : Addr) (H H' : Hp) : Prop := ∀ b o, H b = some o → b ≠ p → H' b = some o
theorem But1.trans {p : Addr} {H H1 H2 : Hp} (x : But1 p H H1) (y : But1 p H1 H2) : But1 p H H2 := fun b o e n => y b o (x b o e n) n
theorem But1.of {p : Addr} {H H1 : Hp} (s : Same H H1) : But1 p H H1 := fun b o e _ => s b o e
theorem But1.put {p : Addr} {H : Hp} {o : HO} : But1 p H (upd H p o) := fun b u e n => by rw [upd_ne n]; exact e
theorem But1.fresh {p q : Addr} {H H1 : Hp} {o : HO} (x : But1 p H H1) (hp : H p = some o) (h : H1 q = none) (np : q ≠ p) : H q = none := by
  cases e : H q with
  | none => rfl
  | some u => rw [x _ _ e np] at h; cases h
abbrev hostD : D := .tup [.str "host", .non, .non]
def spMI (N C : Addr) : Sp := fun vs H Q _ => ∃ p dx, vs = [.ref p, .non] ∧ H p = some (.ins N dx []) ∧ ∀ H' a, MeR N C H' p a (List.replicate 24 hostD) (fun _ => List.replicate 4 (.int 0)) 0 → But1 p H H' → (∀ c ∈ a.cells, H c = none) → Q .non H'
theorem me1 {sl wl pl rl kl dl tl lg : Addr} {rows : List Addr} : putF "_log" (.ref lg) (putF "_taken" (.ref tl) (putF "_tickets" (.int 0) (putF "_drops" (.ref dl) (putF "_walks" (.ref kl) (putF "_rows" (.ref rl) (putF "_presences" (.ref pl) (putF "_words" (.ref wl) (putF "_statuses" (.ref sl) (putF "_without" .non []))))))))) = meF ⟨sl, wl, pl, rl, kl, dl, tl, lg, rows⟩ := by
  have a0_1 : ¬ (("_without" : Str) = "_statuses") := by decide +kernel
  have a0_2 : ¬ (("_without" : Str) = "_words") := by decide +kernel
  have a0_3 : ¬ (("_without" : Str) = "_presences") := by decide +kernel
  have a0_4 : ¬ (("_without" : Str) = "_rows") := by decide +kernel
  have a0_5 : ¬ (("_without" : Str) = "_walks") := by decide +kernel
  have a0_6 : ¬ (("_without" : Str) = "_drops") := by decide +kernel
  have a0_7 : ¬ (("_without" : Str) = "_tickets") := by decide +kernel
  have a0_8 : ¬ (("_without" : Str) = "_taken") := by decide +kernel
  have a0_9 : ¬ (("_without" : Str) = "_log") := by decide +kernel
  have a1_2 : ¬ (("_statuses" : Str) = "_words") := by decide +kernel
  have a1_3 : ¬ (("_statuses" : Str) = "_presences") := by decide +kernel
  have a1_4 : ¬ (("_statuses" : Str) = "_rows") := by decide +kernel
  have a1_5 : ¬ (("_statuses" : Str) = "_walks") := by decide +kernel
  have a1_6 : ¬ (("_statuses" : Str) = "_drops") := by decide +kernel
  have a1_7 : ¬ (("_statuses" : Str) = "_tickets") := by decide +kernel
  have a1_8 : ¬ (("_statuses" : Str) = "_taken") := by decide +kernel
  have a1_9 : ¬ (("_statuses" : Str) = "_log") := by decide +kernel
  have a2_3 : ¬ (("_words" : Str) = "_presences") := by decide +kernel
  have a2_4 : ¬ (("_words" : Str) = "_rows") := by decide +kernel
  have a2_5 : ¬ (("_words" : Str) = "_walks") := by decide +kernel
  have a2_6 : ¬ (("_words" : Str) = "_drops") := by decide +kernel
  have a2_7 : ¬ (("_words" : Str) = "_tickets") := by decide +kernel
  have a2_8 : ¬ (("_words" : Str) = "_taken") := by decide +kernel
  have a2_9 : ¬ (("_words" : Str) = "_log") := by decide +kernel
  have a3_4 : ¬ (("_presences" : Str) = "_rows") := by decide +kernel
  have a3_5 : ¬ (("_presences" : Str) = "_walks") := by decide +kernel
  have a3_6 : ¬ (("_presences" : Str) = "_drops") := by decide +kernel
  have a3_7 : ¬ (("_presences" : Str) = "_tickets") := by decide +kernel
  have a3_8 : ¬ (("_presences" : Str) = "_taken") := by decide +kernel
  have a3_9 : ¬ (("_presences" : Str) = "_log") := by decide +kernel
  have a4_5 : ¬ (("_rows" : Str) = "_walks") := by decide +kernel
  have a4_6 : ¬ (("_rows" : Str) = "_drops") := by decide +kernel
  have a4_7 : ¬ (("_rows" : Str) = "_tickets") := by decide +kernel
  have a4_8 : ¬ (("_rows" : Str) = "_taken") := by decide +kernel
  have a4_9 : ¬ (("_rows" : Str) = "_log") := by decide +kernel
  have a5_6 : ¬ (("_walks" : Str) = "_drops") := by decide +kernel
  have a5_7 : ¬ (("_walks" : Str) = "_tickets") := by decide +kernel
  have a5_8 : ¬ (("_walks" : Str) = "_taken") := by decide +kernel
  have a5_9 : ¬ (("_walks" : Str) = "_log") := by decide +kernel
  have a6_7 : ¬ (("_drops" : Str) = "_tickets") := by decide +kernel
  have a6_8 : ¬ (("_drops" : Str) = "_taken") := by decide +kernel
  have a6_9 : ¬ (("_drops" : Str) = "_log") := by decide +kernel
  have a7_8 : ¬ (("_tickets" : Str) = "_taken") := by decide +kernel
  have a7_9 : ¬ (("_tickets" : Str) = "_log") := by decide +kernel
  have a8_9 : ¬ (("_taken" : Str) = "_log") := by decide +kernel
  simp [putF, meF, a0_1, a0_2, a0_3, a0_4, a0_5, a0_6, a0_7, a0_8, a0_9, a1_2, a1_3, a1_4, a1_5, a1_6, a1_7, a1_8, a1_9, a2_3, a2_4, a2_5, a2_6, a2_7, a2_8, a2_9, a3_4, a3_5, a3_6, a3_7, a3_8, a3_9, a4_5, a4_6, a4_7, a4_8, a4_9, a5_6, a5_7, a5_8, a5_9, a6_7, a6_8, a6_9, a7_8, a7_9, a8_9]
theorem isA_repl {C : Addr} {H : Hp} {x : V} {d : D} : ∀ n, Is C H x d → IsA C H (List.replicate n x) (List.replicate n d)
  | 0, _ => .nil
  | n + 1, h => by rw [List.replicate_succ, List.replicate_succ]; exact .cons h (isA_repl n h)
theorem repl_flat {α : Type} (n : Nat) (x : α) : (List.replicate n [x]).flatten = List.replicate n x := by
  induction n with
  | zero => rfl
  | succ n ih => rw [List.replicate_succ, List.flatten_cons, ih, List.replicate_succ]; rfl
section
variable {P : Program} {w : World} {K : PySem.W.Frag} {mg : Str → Option Value} {base : Heap} {f : Addr} {fd : FuncData} {C N : Addr}
abbrev s_Memory___init__ : Stmt := L2.inClass (top 39) 0
theorem sc_Memory___init__ : FnScope ["self", "without", "_"] ["self", "without"] (C8.fnScope s_Memory___init__) := C8.fnScope_by (by decide +kernel)
theorem ok_minit {fI : Addr} {fdI : FuncData} (M : Mk K N fI) (G : MeC K mg N) (T : Txt K mg w C) (F : C8.Fun K "__init__" "Memory.__init__" s_Memory___init__ fI fdI) (b : Binds K fdI ["self", "without"] [.none]) : C8.Mak P w K mg base 1 "Memory" N (spMI N C) [.non] := by
  refine C8.mak0 M G.g_Memory F b (.cons rfl .nil) sc_Memory___init__ (fun vs H Q E h => ?_) (fun cdv A outer s H vs Q E hr h => ?_)
  · obtain ⟨p, dx, rfl, _⟩ := h; rfl
  obtain ⟨p, dx, rfl, hp, q⟩ := h
  refine ⟨_, (pss_cons (ps_fld (pv 0) (pv 1) rfl)
      (pss_cons (ps_fld (pv 0) (pe_op op_rep (pe_lst (pa_cons (pe_tup (pa_cons pe_str (pa_cons pe_non (pa_cons pe_non pa_nil)))) pa_nil)) (C8.pe_gc rfl T.c_GRANULES)) rfl)
      (pss_cons (ps_fld (pv 0) (pe_lc (own := [("_", 2)]) (te := tOp rRep (tLst (tCons (tC (.int 0)) tNil)) (tC (.int 4))) (g := gName 2) rfl sc_Memory___init__.nd (pi_range1 rfl T.z_range (pa_cons (C8.pe_gc rfl T.c_GRANULES) pa_nil)) (blkOk_by (own := [("_", 2)]) (N := ["self", "without", "_"]) (sc := C8.fnScope s_Memory___init__) (by decide +kernel)) (fun _ _ _ _ _ => (pg_name (i := 2) sc_Memory___init__.nd rfl (Or.inl rfl))) (fun _ _ _ _ _ => pts_nil) (fun _ _ _ _ _ => (pe_op op_rep (pe_lst (pa_cons pe_int pa_nil)) (C8.pe_gc rfl T.c_WORDS)))) rfl)
      (pss_cons (ps_fld (pv 0) (pe_op op_rep (pe_lst (pa_cons pe_non pa_nil)) (C8.pe_gc rfl T.c_PROCESSORS)) rfl)
      (pss_cons (ps_fld (pv 0) (pe_lc (own := [("_", 2)]) (te := tDNewK) (g := gName 2) rfl sc_Memory___init__.nd (pi_range1 rfl T.z_range (pa_cons (C8.pe_gc rfl T.c_PROCESSORS) pa_nil)) (blkOk_by (own := [("_", 2)]) (N := ["self", "without", "_"]) (sc := C8.fnScope s_Memory___init__) (by decide +kernel)) (fun _ _ _ _ _ => (pg_name (i := 2) sc_Memory___init__.nd rfl (Or.inl rfl))) (fun _ _ _ _ _ => pts_nil) (fun _ _ _ _ _ => pe_dnewK)) rfl)
      (pss_cons (ps_fld (pv 0) (pe_op op_rep (pe_lst (pa_cons pe_bl pa_nil)) (C8.pe_gc rfl T.c_PROCESSORS)) rfl)
      (pss_cons (ps_fld (pv 0) (pe_op op_rep (pe_lst (pa_cons pe_int pa_nil)) (C8.pe_gc rfl T.c_PROCESSORS)) rfl)
      (pss_cons (ps_fld (pv 0) pe_int rfl)
      (pss_cons (ps_fld (pv 0) (pe_lst pa_nil) rfl)
      (pss_one (ps_fld (pv 0) (pe_lst pa_nil) rfl))))))))))), ?_⟩
  refine ⟨_, rfl, _, rfl, p, N, dx, [], rfl, hp, G.cl, G.n0, (by show 0 < 1000; decide), ?_⟩
  have b1 : But1 p H (upd H p (.ins N dx (putF "_without" .non []))) := But1.put
  have p1 : (upd H p (.ins N dx (putF "_without" .non []))) p = some (.ins N dx (putF "_without" .non [])) := upd_same
  generalize upd H p (.ins N dx (putF "_without" .non [])) = H1 at *
  refine ⟨(by show 3 ≤ sizeLine; decide), fun t0 ht0 => ⟨(by show 1 ≤ sizeLine; decide), fun l0 hl0 => ?_⟩⟩
  have sa := same_new (o := .tup [.str "host", .non, .non]) ht0
  have sb := same_new (o := .lst [.ref t0]) hl0
  have et0 := sb _ _ (upd_same (H := H1) (a := t0) (o := .tup [.str "host", .non, .non]))
  have el0 : (upd (upd H1 t0 (.tup [.str "host", .non, .non])) l0 (.lst [.ref t0])) l0 = some (.lst [.ref t0]) := upd_same
  have nt0 : t0 ≠ p := fun z => by rw [z, p1] at ht0; cases ht0
  have s2 := sa.trans sb
  generalize upd (upd H1 t0 (.tup [.str "host", .non, .non])) l0 (.lst [.ref t0]) = H2 at *
  have p2 := s2 _ _ p1
  have b2 := b1.trans (But1.of (p := p) s2)
  refine ⟨l0, 24, _, rfl, rfl, el0, by decide, by decide, (by show 1 * 24 ≤ sizeLine; decide), fun sl hsl => ?_⟩
  rw [show (24 : Int).toNat = 24 from rfl, repl_flat]
  have s3 := same_new (o := .lst (List.replicate 24 (V.ref t0))) hsl
  have nsl : sl ≠ p := fun z => by rw [z, p2] at hsl; cases hsl
  refine ⟨_, rfl, p, N, dx, _, rfl, s3 _ _ p2, G.cl, G.n1, (by show 1 < 1000; decide), ?_⟩
  have fsl := b2.fresh hp hsl nsl
  have b3 := (b2.trans (But1.of s3)).trans (But1.put (p := p) (o := .ins N dx (putF "_statuses" (.ref sl) (putF "_without" .non []))))
  have esl : (upd (upd H2 sl (.lst (List.replicate 24 (V.ref t0)))) p (.ins N dx (putF "_statuses" (.ref sl) (putF "_without" .non [])))) sl = some (.lst (List.replicate 24 (V.ref t0))) := by rw [upd_ne nsl]; exact upd_same
  have et0 : (upd (upd H2 sl (.lst (List.replicate 24 (V.ref t0)))) p (.ins N dx (putF "_statuses" (.ref sl) (putF "_without" .non [])))) t0 = some (.tup [.str "host", .non, .non]) := by rw [upd_ne nt0]; exact s3 _ _ et0
  have p3 : (upd (upd H2 sl (.lst (List.replicate 24 (V.ref t0)))) p (.ins N dx (putF "_statuses" (.ref sl) (putF "_without" .non [])))) p = some (.ins N dx (putF "_statuses" (.ref sl) (putF "_without" .non []))) := upd_same
  generalize upd (upd H2 sl (.lst (List.replicate 24 (V.ref t0)))) p (.ins N dx (putF "_statuses" (.ref sl) (putF "_without" .non []))) = H3 at *
  clear s2 sa sb s3 hsl el0 hl0 ht0 p1 p2 b1 b2
  refine ⟨24, rfl, by decide, by decide, fun wl hwl => ?_⟩
  refine lc_it (walk_range (lo := 0) (n := 24)) (fun i Hx => Same H3 Hx ∧ ∃ rows : List Addr, Hx wl = some (.lst (rows.map V.ref)) ∧ rows.length = i ∧ rows.Nodup ∧ ∀ r ∈ rows, r ≠ wl ∧ H3 r = none ∧ Hx r = some (.lst (List.replicate 4 (.int 0)))) ⟨same_new hwl, [], upd_same, rfl, List.nodup_nil, fun r hr => by cases hr⟩ (fun _ _ _ _ => trivial) ?_ ?_
  · rintro i x Hxx Hx hi ⟨sx, rows, hw, hl, hnd, hr⟩ ⟨rfl, rfl⟩
    refine ⟨rfl, yes ⟨(by show 1 ≤ sizeLine; decide), fun l hl0 => ?_⟩⟩
    have s4 := same_new (o := .lst [.int 0]) hl0
    refine ⟨l, 4, _, rfl, rfl, upd_same, by decide, by decide, (by show 1 * 4 ≤ sizeLine; decide), fun r hr0 => ?_⟩
    rw [show (4 : Int).toNat = 4 from rfl, repl_flat]
    have s5 := same_new (o := .lst (List.replicate 4 (.int 0))) hr0
    have hw5 := s5 _ _ (s4 _ _ hw)
    have nrw : r ≠ wl := fun z => by rw [z, s4 _ _ hw] at hr0; cases hr0
    have er : (upd (upd Hx l (.lst [.int 0])) r (.lst (List.replicate 4 (.int 0)))) r = some (.lst (List.replicate 4 (.int 0))) := upd_same
    have nrr : r ∉ rows := fun z => by
      have := (hr r z).2.2
      rw [s4 _ _ this] at hr0; cases hr0
    have s35 := (sx.trans s4).trans s5
    have f3 : H3 r = none := (sx.trans s4).free hr0
    generalize upd (upd Hx l (.lst [.int 0])) r (.lst (List.replicate 4 (.int 0))) = H6 at *
    refine ⟨_, hw5, small1000 (by rw [List.length_map]; omega), same_put s35 hwl, rows ++ [r], by rw [upd_same, List.map_append]; rfl, by simp [hl], ?_, ?_⟩
    · exact List.nodup_append.mpr ⟨hnd, List.nodup_cons.mpr ⟨by simp, List.nodup_nil⟩, fun u hu v hv => by
        simp at hv; subst hv; exact fun z => nrr (z ▸ hu)⟩
    · intro u hu
      rcases List.mem_append.mp hu with h | h
      · obtain ⟨h1, h2, h3⟩ := hr u h
        exact ⟨h1, h2, by rw [upd_ne h1]; exact s5 _ _ (s4 _ _ h3)⟩
      · simp at h; subst h
        exact ⟨nrw, f3, by rw [upd_ne nrw]; exact er⟩
  rintro H4 ⟨s4, rows, ewl, hrl, hnd, hrows⟩
  have nwl : wl ≠ p := fun z => by rw [z, p3] at hwl; cases hwl
  have nws : wl ≠ sl := fun z => by rw [z, esl] at hwl; cases hwl
  have fwl := b3.fresh hp hwl nwl
  have nrp : ∀ r ∈ rows, r ≠ p := fun r hr z => by
    have := (hrows r hr).2.1
    rw [z, p3] at this; cases this
  have nrs : ∀ r ∈ rows, r ≠ sl := fun r hr z => by
    have := (hrows r hr).2.1
    rw [z, esl] at this; cases this
  have frow : ∀ r ∈ rows, H r = none := fun r hr => b3.fresh hp (hrows r hr).2.1 (nrp r hr)
  refine ⟨_, rfl, p, N, dx, _, rfl, s4 _ _ p3, G.cl, G.n2, (by show 2 < 1000; decide), ?_⟩
  have b5 := (b3.trans (But1.of s4)).trans (But1.put (p := p) (o := .ins N dx (putF "_words" (.ref wl) (putF "_statuses" (.ref sl) (putF "_without" .non [])))))
  have B5 : But1 p H4 (upd H4 p (.ins N dx (putF "_words" (.ref wl) (putF "_statuses" (.ref sl) (putF "_without" .non []))))) := But1.put
  have et0 := B5 _ _ (s4 _ _ et0) nt0
  have esl := B5 _ _ (s4 _ _ esl) nsl
  have ewl := B5 _ _ ewl nwl
  have erow : ∀ r ∈ rows, (upd H4 p (.ins N dx (putF "_words" (.ref wl) (putF "_statuses" (.ref sl) (putF "_without" .non []))))) r = some (.lst (List.replicate 4 (.int 0))) := fun r hr => B5 _ _ (hrows r hr).2.2 (nrp r hr)
  have p5 : (upd H4 p (.ins N dx (putF "_words" (.ref wl) (putF "_statuses" (.ref sl) (putF "_without" .non []))))) p = some (.ins N dx (putF "_words" (.ref wl) (putF "_statuses" (.ref sl) (putF "_without" .non [])))) := upd_same
  have nwr : ∀ r ∈ rows, r ≠ wl := fun r hr => (hrows r hr).1
  generalize upd H4 p (.ins N dx (putF "_words" (.ref wl) (putF "_statuses" (.ref sl) (putF "_without" .non [])))) = H5 at *
  clear B5 hrows s4 b3 p3 hwl
  have c5 : But1 p H5 H5 := fun b o e _ => e
  refine ⟨(by show 1 ≤ sizeLine; decide), fun x5 hx5 => ?_⟩
  have sx5 := same_new (o := .lst [.non]) hx5
  refine ⟨x5, 3, _, rfl, rfl, upd_same, by decide, by decide, (by show 1 * 3 ≤ sizeLine; decide), fun pl hpl => ?_⟩
  have sy5 := same_new (o := .lst (List.replicate (3 : Int).toNat [.non]).flatten) hpl
  have sz5 := sx5.trans sy5
  generalize upd (upd H5 x5 (.lst [.non])) pl (.lst (List.replicate (3 : Int).toNat [.non]).flatten) = Q5 at *
  refine ⟨_, rfl, p, N, dx, _, rfl, sz5 _ _ p5, G.cl, G.n3, (by show 3 < 1000; decide), ?_⟩
  have c6 : But1 p H5 (upd (Q5) p (.ins N dx (putF "_presences" (.ref pl) (putF "_words" (.ref wl) (putF "_statuses" (.ref sl) (putF "_without" .non [])))))) := (c5.trans (But1.of sz5)).trans But1.put
  have p6 : (upd (Q5) p (.ins N dx (putF "_presences" (.ref pl) (putF "_words" (.ref wl) (putF "_statuses" (.ref sl) (putF "_without" .non [])))))) p = some (.ins N dx (putF "_presences" (.ref pl) (putF "_words" (.ref wl) (putF "_statuses" (.ref sl) (putF "_without" .non []))))) := upd_same
  generalize upd (Q5) p (.ins N dx (putF "_presences" (.ref pl) (putF "_words" (.ref wl) (putF "_statuses" (.ref sl) (putF "_without" .non []))))) = H26 at *
  clear sx5 sy5 sz5 hx5 hpl p5 c5
  refine ⟨3, rfl, by decide, by decide, fun rl hrl2 => ?_⟩
  refine lc_it (walk_range (lo := 0) (n := 3)) (fun i Hx => Same H26 Hx ∧ ∃ acc, Hx rl = some (.lst acc) ∧ acc.length = i) ⟨same_new hrl2, [], upd_same, rfl⟩ (fun _ _ _ _ => trivial) ?_ ?_
  · rintro i x Hxx Hx hi ⟨sx, acc, ha, hl⟩ ⟨rfl, rfl⟩
    refine ⟨rfl, yes fun d hd => ?_⟩
    have s4 := same_new (o := .dK []) hd
    exact ⟨acc, s4 _ _ ha, small1000 (by omega), same_put (sx.trans s4) hrl2, acc ++ [.ref d], upd_same, by simp [hl]⟩
  rintro R9 ⟨s9, _⟩
  refine ⟨_, rfl, p, N, dx, _, rfl, s9 _ _ p6, G.cl, G.n4, (by show 4 < 1000; decide), ?_⟩
  have c7 : But1 p H5 (upd (R9) p (.ins N dx (putF "_rows" (.ref rl) (putF "_presences" (.ref pl) (putF "_words" (.ref wl) (putF "_statuses" (.ref sl) (putF "_without" .non []))))))) := (c6.trans (But1.of s9)).trans But1.put
  have p7 : (upd (R9) p (.ins N dx (putF "_rows" (.ref rl) (putF "_presences" (.ref pl) (putF "_words" (.ref wl) (putF "_statuses" (.ref sl) (putF "_without" .non []))))))) p = some (.ins N dx (putF "_rows" (.ref rl) (putF "_presences" (.ref pl) (putF "_words" (.ref wl) (putF "_statuses" (.ref sl) (putF "_without" .non [])))))) := upd_same
  generalize upd (R9) p (.ins N dx (putF "_rows" (.ref rl) (putF "_presences" (.ref pl) (putF "_words" (.ref wl) (putF "_statuses" (.ref sl) (putF "_without" .non [])))))) = H27 at *
  clear s9 hrl2 p6 c6
  refine ⟨(by show 1 ≤ sizeLine; decide), fun x7 hx7 => ?_⟩
  have sx7 := same_new (o := .lst [.bl false]) hx7
  refine ⟨x7, 3, _, rfl, rfl, upd_same, by decide, by decide, (by show 1 * 3 ≤ sizeLine; decide), fun kl hkl => ?_⟩
  have sy7 := same_new (o := .lst (List.replicate (3 : Int).toNat [.bl false]).flatten) hkl
  have sz7 := sx7.trans sy7
  generalize upd (upd H27 x7 (.lst [.bl false])) kl (.lst (List.replicate (3 : Int).toNat [.bl false]).flatten) = Q7 at *
  refine ⟨_, rfl, p, N, dx, _, rfl, sz7 _ _ p7, G.cl, G.n5, (by show 5 < 1000; decide), ?_⟩
  have c8 : But1 p H5 (upd (Q7) p (.ins N dx (putF "_walks" (.ref kl) (putF "_rows" (.ref rl) (putF "_presences" (.ref pl) (putF "_words" (.ref wl) (putF "_statuses" (.ref sl) (putF "_without" .non [])))))))) := (c7.trans (But1.of sz7)).trans But1.put
  have p8 : (upd (Q7) p (.ins N dx (putF "_walks" (.ref kl) (putF "_rows" (.ref rl) (putF "_presences" (.ref pl) (putF "_words" (.ref wl) (putF "_statuses" (.ref sl) (putF "_without" .non [])))))))) p = some (.ins N dx (putF "_walks" (.ref kl) (putF "_rows" (.ref rl) (putF "_presences" (.ref pl) (putF "_words" (.ref wl) (putF "_statuses" (.ref sl) (putF "_without" .non []))))))) := upd_same
  generalize upd (Q7) p (.ins N dx (putF "_walks" (.ref kl) (putF "_rows" (.ref rl) (putF "_presences" (.ref pl) (putF "_words" (.ref wl) (putF "_statuses" (.ref sl) (putF "_without" .non []))))))) = H28 at *
  clear sx7 sy7 sz7 hx7 hkl p7 c7
  refine ⟨(by show 1 ≤ sizeLine; decide), fun x8 hx8 => ?_⟩
  have sx8 := same_new (o := .lst [.int 0]) hx8
  refine ⟨x8, 3, _, rfl, rfl, upd_same, by decide, by decide, (by show 1 * 3 ≤ sizeLine; decide), fun dl hdl => ?_⟩
  have sy8 := same_new (o := .lst (List.replicate (3 : Int).toNat [.int 0]).flatten) hdl
  have sz8 := sx8.trans sy8
  generalize upd (upd H28 x8 (.lst [.int 0])) dl (.lst (List.replicate (3 : Int).toNat [.int 0]).flatten) = Q8 at *
  refine ⟨_, rfl, p, N, dx, _, rfl, sz8 _ _ p8, G.cl, G.n6, (by show 6 < 1000; decide), ?_⟩
  have c9 : But1 p H5 (upd (Q8) p (.ins N dx (putF "_drops" (.ref dl) (putF "_walks" (.ref kl) (putF "_rows" (.ref rl) (putF "_presences" (.ref pl) (putF "_words" (.ref wl) (putF "_statuses" (.ref sl) (putF "_without" .non []))))))))) := (c8.trans (But1.of sz8)).trans But1.put
  have p9 : (upd (Q8) p (.ins N dx (putF "_drops" (.ref dl) (putF "_walks" (.ref kl) (putF "_rows" (.ref rl) (putF "_presences" (.ref pl) (putF "_words" (.ref wl) (putF "_statuses" (.ref sl) (putF "_without" .non []))))))))) p = some (.ins N dx (putF "_drops" (.ref dl) (putF "_walks" (.ref kl) (putF "_rows" (.ref rl) (putF "_presences" (.ref pl) (putF "_words" (.ref wl) (putF "_statuses" (.ref sl) (putF "_without" .non [])))))))) := upd_same
  generalize upd (Q8) p (.ins N dx (putF "_drops" (.ref dl) (putF "_walks" (.ref kl) (putF "_rows" (.ref rl) (putF "_presences" (.ref pl) (putF "_words" (.ref wl) (putF "_statuses" (.ref sl) (putF "_without" .non [])))))))) = H29 at *
  clear sx8 sy8 sz8 hx8 hdl p8 c8
  refine ⟨_, rfl, p, N, dx, _, rfl, p9, G.cl, G.n7, (by show 7 < 1000; decide), ?_⟩
  have c10 : But1 p H5 (upd H29 p (.ins N dx (putF "_tickets" (.int 0) (putF "_drops" (.ref dl) (putF "_walks" (.ref kl) (putF "_rows" (.ref rl) (putF "_presences" (.ref pl) (putF "_words" (.ref wl) (putF "_statuses" (.ref sl) (putF "_without" .non [])))))))))) := c9.trans But1.put
  have p10 : (upd (H29) p (.ins N dx (putF "_tickets" (.int 0) (putF "_drops" (.ref dl) (putF "_walks" (.ref kl) (putF "_rows" (.ref rl) (putF "_presences" (.ref pl) (putF "_words" (.ref wl) (putF "_statuses" (.ref sl) (putF "_without" .non [])))))))))) p = some (.ins N dx (putF "_tickets" (.int 0) (putF "_drops" (.ref dl) (putF "_walks" (.ref kl) (putF "_rows" (.ref rl) (putF "_presences" (.ref pl) (putF "_words" (.ref wl) (putF "_statuses" (.ref sl) (putF "_without" .non []))))))))) := upd_same
  generalize upd (H29) p (.ins N dx (putF "_tickets" (.int 0) (putF "_drops" (.ref dl) (putF "_walks" (.ref kl) (putF "_rows" (.ref rl) (putF "_presences" (.ref pl) (putF "_words" (.ref wl) (putF "_statuses" (.ref sl) (putF "_without" .non []))))))))) = H30 at *
  clear p9 c9
  refine ⟨(by show 0 ≤ sizeLine; decide), fun tl htl => ?_⟩
  have st := same_new (o := .lst []) htl
  refine ⟨_, rfl, p, N, dx, _, rfl, st _ _ p10, G.cl, G.n8, (by show 8 < 1000; decide), ?_⟩
  have c11 : But1 p H5 (upd (upd H30 tl (.lst [])) p (.ins N dx (putF "_taken" (.ref tl) (putF "_tickets" (.int 0) (putF "_drops" (.ref dl) (putF "_walks" (.ref kl) (putF "_rows" (.ref rl) (putF "_presences" (.ref pl) (putF "_words" (.ref wl) (putF "_statuses" (.ref sl) (putF "_without" .non []))))))))))) := (c10.trans (But1.of st)).trans But1.put
  have p11 : (upd (upd H30 tl (.lst [])) p (.ins N dx (putF "_taken" (.ref tl) (putF "_tickets" (.int 0) (putF "_drops" (.ref dl) (putF "_walks" (.ref kl) (putF "_rows" (.ref rl) (putF "_presences" (.ref pl) (putF "_words" (.ref wl) (putF "_statuses" (.ref sl) (putF "_without" .non []))))))))))) p = some (.ins N dx (putF "_taken" (.ref tl) (putF "_tickets" (.int 0) (putF "_drops" (.ref dl) (putF "_walks" (.ref kl) (putF "_rows" (.ref rl) (putF "_presences" (.ref pl) (putF "_words" (.ref wl) (putF "_statuses" (.ref sl) (putF "_without" .non [])))))))))) := upd_same
  generalize upd (upd H30 tl (.lst [])) p (.ins N dx (putF "_taken" (.ref tl) (putF "_tickets" (.int 0) (putF "_drops" (.ref dl) (putF "_walks" (.ref kl) (putF "_rows" (.ref rl) (putF "_presences" (.ref pl) (putF "_words" (.ref wl) (putF "_statuses" (.ref sl) (putF "_without" .non [])))))))))) = H31 at *
  clear p10 c10 st htl
  refine ⟨(by show 0 ≤ sizeLine; decide), fun lg hlg => ?_⟩
  have sl2 := same_new (o := .lst []) hlg
  have nlg : lg ≠ p := fun z => by rw [z, p11] at hlg; cases hlg
  have flg := (b5.trans c11).fresh hp hlg nlg
  have nls : sl ≠ lg := fun z => by rw [← z, c11 _ _ esl nsl] at hlg; cases hlg
  have nlw : wl ≠ lg := fun z => by rw [← z, c11 _ _ ewl nwl] at hlg; cases hlg
  have nlr : lg ∉ rows := fun z => by rw [c11 _ _ (erow lg z) nlg] at hlg; cases hlg
  refine ⟨_, rfl, p, N, dx, _, rfl, sl2 _ _ p11, G.cl, G.n9, (by show 9 < 1000; decide), ?_⟩
  have c12 : But1 p H5 (upd (upd H31 lg (.lst [])) p (.ins N dx (putF "_log" (.ref lg) (putF "_taken" (.ref tl) (putF "_tickets" (.int 0) (putF "_drops" (.ref dl) (putF "_walks" (.ref kl) (putF "_rows" (.ref rl) (putF "_presences" (.ref pl) (putF "_words" (.ref wl) (putF "_statuses" (.ref sl) (putF "_without" .non [])))))))))))) := (c11.trans (But1.of sl2)).trans But1.put
  have p12 : (upd (upd H31 lg (.lst [])) p (.ins N dx (putF "_log" (.ref lg) (putF "_taken" (.ref tl) (putF "_tickets" (.int 0) (putF "_drops" (.ref dl) (putF "_walks" (.ref kl) (putF "_rows" (.ref rl) (putF "_presences" (.ref pl) (putF "_words" (.ref wl) (putF "_statuses" (.ref sl) (putF "_without" .non [])))))))))))) p = some (.ins N dx (putF "_log" (.ref lg) (putF "_taken" (.ref tl) (putF "_tickets" (.int 0) (putF "_drops" (.ref dl) (putF "_walks" (.ref kl) (putF "_rows" (.ref rl) (putF "_presences" (.ref pl) (putF "_words" (.ref wl) (putF "_statuses" (.ref sl) (putF "_without" .non []))))))))))) := upd_same
  have elg : (upd (upd H31 lg (.lst [])) p (.ins N dx (putF "_log" (.ref lg) (putF "_taken" (.ref tl) (putF "_tickets" (.int 0) (putF "_drops" (.ref dl) (putF "_walks" (.ref kl) (putF "_rows" (.ref rl) (putF "_presences" (.ref pl) (putF "_words" (.ref wl) (putF "_statuses" (.ref sl) (putF "_without" .non [])))))))))))) lg = some (.lst []) := by rw [upd_ne nlg]; exact upd_same
  generalize upd (upd H31 lg (.lst [])) p (.ins N dx (putF "_log" (.ref lg) (putF "_taken" (.ref tl) (putF "_tickets" (.int 0) (putF "_drops" (.ref dl) (putF "_walks" (.ref kl) (putF "_rows" (.ref rl) (putF "_presences" (.ref pl) (putF "_words" (.ref wl) (putF "_statuses" (.ref sl) (putF "_without" .non []))))))))))) = H32 at *
  rw [me1] at p12
  have et0 := c12 _ _ et0 nt0
  have it0 : Is C H32 (.ref t0) hostD := .tup et0 (.cons (.str _) (.cons .non (.cons .non .nil)))
  refine q _ ⟨sl, wl, pl, rl, kl, dl, tl, lg, rows⟩ ⟨⟨dx, p12⟩, ⟨_, c12 _ _ esl nsl, isA_repl 24 it0⟩, by simp, c12 _ _ ewl nwl, hrl, ?_, fun g r hr => ⟨_, c12 _ _ (erow r (List.mem_of_getElem? hr)) (nrp r (List.mem_of_getElem? hr)), isA_repl 4 (.int 0), by simp⟩, ⟨[], elg, rfl⟩, by decide, fun _ => by decide⟩ (b5.trans c12) ?_
  · unfold Ads.cells
    refine List.nodup_cons.mpr ⟨?_, List.nodup_cons.mpr ⟨?_, List.nodup_cons.mpr ⟨nlr, hnd⟩⟩⟩
    · simp only [List.mem_cons, not_or]; exact ⟨nws.symm, nls, fun z => nrs sl z rfl⟩
    · simp only [List.mem_cons, not_or]; exact ⟨nlw, fun z => nwr wl z rfl⟩
  · intro c hc
    unfold Ads.cells at hc
    simp only [List.mem_cons] at hc
    rcases hc with rfl | rfl | rfl | hc
    · exact fsl
    · exact fwl
    · exact flg
    · exact frow c hc
end
end Hc

set_option maxHeartbeats 8000000
namespace Hc
open PySem PySem.Spec PyProof.Rows L2 Hr
theorem calAt {P : Program} {w : World} {K : PySem.W.Frag} {mg : Str → Option Value} {base : Heap} {k : Nat} {x : Str} {sp : Sp} {f : Addr} (c : C8.Cal P w K mg base k x sp []) (h : mg x = some (.ref f)) : C8.CalAt P w K mg base k f sp := by
  obtain ⟨f', fd, ps, ds, F, hm, kp, b, d⟩ := c.ex
  rw [h] at hm
  cases hm
  cases d
  exact ⟨fd, ps, F, kp, b⟩
def spIT (N C fR fE : Addr) : Sp := fun vs H Q _ => ∃ (p hf : Addr) (g : Nat) (chk : D → Bool) (st : Str) (r : List D) (a : Ads) (ss : List D) (ws : Nat → List D) (ln : Nat), vs = [.ref p, .int (g : Int), .ref hf] ∧ MeR N C H p a ss ws ln ∧ g < 24 ∧ ((hf = fR ∧ chk = rootW) ∨ (hf = fE ∧ chk = entryW)) ∧ ss[g]? = some (.tup (.str st :: r)) ∧ ∀ H', Same H H' → Q (.bl (decide (st = "table") && (ws g).all chk)) H'
section
variable {P : Program} {w : World} {K : PySem.W.Frag} {mg : Str → Option Value} {base : Heap} {f : Addr} {fd : FuncData} {C N fR fE : Addr}
abbrev s__is_table : Stmt := top 53
theorem sc__is_table : FnScope ["memory", "g", "has_form", "word"] ["memory", "g", "has_form"] (C8.fnScope s__is_table) := C8.fnScope_by (by decide +kernel)
theorem ok__is_table (F : C8.Def K mg "_is_table" s__is_table f fd) (b : Binds K fd ["memory", "g", "has_form"] []) (T : Txt K mg w C) (m_status : C8.Met P w K mg base 3 N "status" (spMS N C) []) (m_words : C8.Met P w K mg base 3 N "words" (spMW N C) []) (cR : C8.CalAt P w K mg base 5 fR (spB C (fun _ => True) rootW)) (cE : C8.CalAt P w K mg base 4 fE (spB C (fun _ => True) entryW)) : C8.Cal P w K mg base 6 "_is_table" (spIT N C fR fE) [] := by
  refine C8.cal0 F b .nil sc__is_table (fun vs H Q E h => ?_) (fun cdv A outer s H vs Q E hr h => ?_)
  · obtain ⟨p, hf, g, chk, st, r, a, ss, ws, ln, rfl, _⟩ := h; rfl
  obtain ⟨p, hf, g, chk, st, r, a, ss, ws, ln, rfl, M, hg, hchk, hst, q⟩ := h
  obtain ⟨dx, hp⟩ := M.ins
  refine ⟨_, (pss_one (ps_ret (pe_and (pe_cmpR op_eq (pe_ix ix_tup (C8.pe_mt m_status hr (by first | decide | omega) (pv 0) (pa_cons (pv 1) pa_nil)) pe_int (fun _ _ => rfl)) pe_str (nomark _)) (pe_one (pe_callB (cr_all rfl) rfl T.z_all bt_all (pa_cons (pe_lc (own := [("word", 3)]) (te := C8.tCallV 2 fR fE (spB C (fun _ => True) rootW) (spB C (fun _ => True) entryW) (tCons (tVar 3) tNil)) (g := gName 3) rfl sc__is_table.nd (pi_tup (C8.pe_mt m_words hr (by first | decide | omega) (pv 0) (pa_cons (pv 1) pa_nil))) (blkOk_by (own := [("word", 3)]) (N := ["memory", "g", "has_form", "word"]) (sc := C8.fnScope s__is_table) (by decide +kernel)) (fun _ _ _ _ _ => (pg_name (i := 3) sc__is_table.nd rfl (Or.inl rfl))) (fun _ _ _ _ _ => pts_nil) (fun _ _ _ _ _ => (C8.pe_cv cR cE hr (by first | decide | omega) (by first | decide | omega) rfl (by first | exact Or.inl rfl | exact Or.inr (Or.inl rfl) | exact Or.inr (Or.inr rfl)) (pa_cons (pv 3) pa_nil)))) pa_nil)))))), ?_⟩
  refine ⟨_, rfl, p, dx, _, rfl, hp, rfl, _, rfl, p, g, _, a, ss, ws, ln, rfl, M, hg, hst, fun x hx => ?_⟩
  cases hx with
  | @tup b0 xs _ hb hxs =>
  cases hxs with
  | @cons y0 yt _ _ i0 hxs =>
  cases i0
  refine ⟨b0, _, 0, _, rfl, rfl, SqT.of hb, atI_nat (j := 0) rfl, rfl, _, rfl, ?_⟩
  by_cases c : st = "table"
  · subst c
    refine ifT rfl ⟨_, rfl, p, dx, _, rfl, hp, rfl, _, rfl, p, g, a, ss, ws, ln, rfl, M, hg, fun H1 t s1 ht it => ?_⟩
    cases it with
    | @tup _ xs _ hta hws =>
    have hl := hws.len
    obtain ⟨r0, hr0⟩ : ∃ r0, a.rows[g]? = some r0 := ⟨_, List.getElem?_eq_getElem (by rw [M.r24]; exact hg)⟩
    obtain ⟨_, _, _, l4⟩ := M.rw g r0 hr0
    refine ⟨t, rfl, ⟨_, SqT.of hta⟩, fun Dl hD => ?_⟩
    refine lc_it (walk_tup (xs := xs)) (fun i H3 => Same H1 H3 ∧ H3 Dl = some (.lst (((ws g).take i).map fun e => V.bl (chk e)))) ⟨same_new hD, upd_same⟩ (fun i H3 _ h => SqT.of (h.1 _ _ hta)) ?_ ?_
    · rintro i z H3x H3 hi ⟨s3, hz3⟩ ⟨rfl, hz⟩
      obtain ⟨e, he, hze⟩ := hws.at hz
      have fin : ∀ H5, Same H3 H5 → ∃ acc, H5 Dl = some (.lst acc) ∧ acc.length < sizeLine ∧ Same H1 (upd H5 Dl (.lst (acc ++ [.bl (chk e)]))) ∧ (upd H5 Dl (.lst (acc ++ [.bl (chk e)]))) Dl = some (.lst (((ws g).take (i + 1)).map fun e => V.bl (chk e))) := fun H5 s5 => by
        refine ⟨_, s5 _ _ hz3, small1000 (by rw [List.length_map, List.length_take]; omega), same_put (s3.trans s5) hD, ?_⟩
        rw [upd_same, List.take_add_one, he, List.map_append]; rfl
      refine ⟨rfl, yes ?_⟩
      rcases hchk with ⟨rfl, rfl⟩ | ⟨rfl, rfl⟩
      · exact .inl ⟨rfl, _, rfl, z, e, rfl, hze.same s3, trivial, fin⟩
      · exact .inr ⟨rfl, _, rfl, z, e, rfl, hze.same s3, trivial, fin⟩
    · rintro H3 ⟨s3, hz3⟩
      rw [List.take_of_length_le (by omega)] at hz3
      refine ⟨Dl, (ws g).map chk, rfl, SqL.of (by rw [List.map_map]; exact hz3), ?_⟩
      have q1 := q H3 (s1.trans s3)
      rw [decide_eq_true rfl, Bool.true_and] at q1
      rw [List.all_map]
      exact q1
  · have q1 := q H (Same.refl H)
    rw [decide_eq_false c, Bool.false_and] at q1
    exact ifF (fun z => c (V.str.inj z)) q1
end
end Hc

set_option maxHeartbeats 8000000
namespace Hc
open PySem PySem.Spec PyProof.Rows L2 Hr
def stOf (ss : List D) (g : Nat) : Str := match ss[g]? with | some (.tup (.str s :: _)) => s | _ => ""
def owOf (ss : List D) (g : Nat) : D := match ss[g]? with | some (.tup (_ :: o :: _)) => o | _ => .non
def StOk (ss : List D) : Prop := ∀ e ∈ ss, ∃ s o h, e = .tup [.str s, o, h] ∧ s ∈ statesL ∧ (o = .non ∨ ∃ i, o = .int i)
def eqO : D → D → Bool | .non, .non => true | .int i, .int j => decide (i = j) | _, _ => false
def tabB (ss : List D) (ws : Nat → List D) (g : Nat) (chk : D → Bool) : Bool := decide (stOf ss g = "table") && (ws g).all chk
def leafOf (d : D) : Nat := match d with | .tup (_ :: .int g :: _) => g.toNat | _ => 0
def leavesB (ss : List D) (ws : Nat → List D) (ow : D) : List D → List Nat → Bool
  | [], _ => true
  | d :: ds, bef => if isNon d then leavesB ss ws ow ds bef else
      if bef.any (fun b => decide (b = leafOf d)) || !eqO (owOf ss (leafOf d)) ow || !tabB ss ws (leafOf d) entryW then false else leavesB ss ws ow ds (bef ++ [leafOf d])
theorem root_leaf {d : D} (h : rootW d = true) (hn : isNon d = false) : ∃ k g r, d = .tup (.str k :: .int ((g : Nat) : Int) :: r) ∧ g < 24 ∧ leafOf d = g := by
  have go : ∀ (k : Str) (i : Int) (r : List D), 0 ≤ i → i < 24 → d = .tup (.str k :: .int i :: r) → ∃ k g r, d = .tup (.str k :: .int ((g : Nat) : Int) :: r) ∧ g < 24 ∧ leafOf d = g := fun k i r h0 h1 e =>
    ⟨k, i.toNat, r, by rw [e, Int.toNat_of_nonneg h0], by omega, by rw [e]; rfl⟩
  unfold rootW at h
  rw [hn, Bool.false_or, Bool.or_eq_true] at h
  rcases h with h | h
  · unfold grO at h
    split at h
    · rename_i k g
      by_cases c : k = "table" ∧ 0 ≤ g ∧ g < 24
      · exact go k g [] c.2.1 c.2.2 rfl
      · rw [if_neg c] at h; cases h
    · cases h
  · unfold lvD at h
    split at h
    · rename_i k g e
      simp only [Bool.and_eq_true, decide_eq_true_eq] at h
      exact go k g [e] h.1.2.1 h.1.2.2 rfl
    · cases h
theorem off_keep0 {C l : Addr} {H H' : Hp} {zs : List V} (hl : H l = some (.lst zs)) (b : ∀ b o, H b = some o → b ≠ l → H' b = some o) : Keep C H H' :=
  ⟨fun x _ e => b x _ e (fun z => by rw [z, hl] at e; cases e), fun x _ _ e => b x _ e (fun z => by rw [z, hl] at e; cases e)⟩
theorem MeR.off {N C l : Addr} {H H' : Hp} {p : Addr} {a : Ads} {ss : List D} {ws : Nat → List D} {ln : Nat} {zs : List V} (h : MeR N C H p a ss ws ln) (hl : H l = some (.lst zs)) (hc : l ∉ a.cells) (b : ∀ b o, H b = some o → b ≠ l → H' b = some o) : MeR N C H' p a ss ws ln := by
  obtain ⟨⟨dx, h0⟩, ⟨sx, h1, h2⟩, h3, h4, h5, h6, h7, ⟨lx, h8, h9⟩, h10, h11⟩ := h
  have kk := off_keep0 (C := C) hl b
  unfold Ads.cells at hc
  simp only [List.mem_cons, not_or] at hc
  refine ⟨⟨dx, b _ _ h0 (fun z => by rw [z, hl] at h0; cases h0)⟩, ⟨sx, b _ _ h1 (fun z => hc.1 z.symm), IsA.keep kk h10 h2⟩, h3, b _ _ h4 (fun z => hc.2.1 z.symm), h5, h6, fun k r hr => ?_, ⟨lx, b _ _ h8 (fun z => hc.2.2.1 z.symm), h9⟩, h10, h11⟩
  obtain ⟨ys, e1, e2, e3⟩ := h7 k r hr
  exact ⟨ys, b _ _ e1 (fun z => hc.2.2.2 (z ▸ List.mem_of_getElem? hr)), IsA.keep kk (h11 k) e2, e3⟩
theorem inInts (g : Nat) (bef : List Nat) : inV (.int (g : Int)) (bef.map fun b : Nat => V.int (b : Int)) = bef.any (fun b => decide (b = g)) := by
  show ((bef.map fun b : Nat => V.int (b : Int)).any fun y => eqV y (.int (g : Int))) = _
  rw [List.any_map]
  refine congrArg (List.any bef) (funext fun b => ?_)
  show eqV (.int (b : Int)) (.int (g : Int)) = decide (b = g)
  simp only [eqV]
  by_cases h : b = g
  · subst h; simp
  · rw [decide_eq_false h]; exact beq_eq_false_iff_ne.mpr (fun y => h (by omega))
def spLR2 (N C : Addr) : Sp := fun vs H Q _ => ∃ (p : Addr) (g : Nat) (a : Ads) (ss : List D) (ws : Nat → List D) (ln : Nat), vs = [.ref p, .int (g : Int)] ∧ MeR N C H p a ss ws ln ∧ g < 24 ∧ StOk ss ∧ (ws g).all rootW = true ∧ ∀ H', Same H H' → Q (.bl (leavesB ss ws (owOf ss g) (ws g) [g])) H'
section
variable {P : Program} {w : World} {K : PySem.W.Frag} {mg : Str → Option Value} {base : Heap} {f : Addr} {fd : FuncData} {C N fR fE : Addr}
abbrev s__are_leaves_right : Stmt := top 54
theorem sc__are_leaves_right : FnScope ["memory", "root", "owner", "before", "word", "leaf"] ["memory", "root"] (C8.fnScope s__are_leaves_right) := C8.fnScope_by (by decide +kernel)
theorem ok__are_leaves_right (F : C8.Def K mg "_are_leaves_right" s__are_leaves_right f fd) (b : Binds K fd ["memory", "root"] []) (T : Txt K mg w C) (gE : ∃ u, mg "is_entry" = some u ∧ RelV (.ref fE) u) (m_status : C8.Met P w K mg base 3 N "status" (spMS N C) []) (m_words : C8.Met P w K mg base 3 N "words" (spMW N C) []) (c__is_table : C8.Cal P w K mg base 6 "_is_table" (spIT N C fR fE) []) : C8.Cal P w K mg base 7 "_are_leaves_right" (spLR2 N C) [] := by
  refine C8.cal0 F b .nil sc__are_leaves_right (fun vs H Q E h => ?_) (fun cdv A outer s H vs Q E hr h => ?_)
  · obtain ⟨p, g, a, ss, ws, ln, rfl, _⟩ := h; rfl
  obtain ⟨p, g, a, ss, ws, ln, rfl, M, hg, hso, hroot, q⟩ := h
  obtain ⟨dx, hp⟩ := M.ins
  have s24 := M.s24
  have stat : ∀ k, k < 24 → ∃ st ow ho, ss[k]? = some (.tup [.str st, ow, ho]) ∧ stOf ss k = st ∧ owOf ss k = ow ∧ (ow = .non ∨ ∃ i, ow = .int i) := fun k hk => by
    have hk' : k < ss.length := by omega
    obtain ⟨st, ow, ho, e, _, hf⟩ := hso _ (List.getElem_mem hk')
    have h1 : ss[k]? = some (.tup [.str st, ow, ho]) := by rw [List.getElem?_eq_getElem hk', e]
    exact ⟨st, ow, ho, h1, by unfold stOf; rw [h1], by unfold owOf; rw [h1], hf⟩
  obtain ⟨st, ow, ho, hst, _, eow, fow⟩ := stat g hg
  refine ⟨_, (pss_cons (ps_set (i := 2) sc__are_leaves_right.nd rfl (Or.inl rfl) (pe_ix ix_tup (C8.pe_mt m_status hr (by first | decide | omega) (pv 0) (pa_cons (pv 1) pa_nil)) pe_int (fun _ _ => rfl)))
      (pss_cons (ps_set (i := 3) sc__are_leaves_right.nd rfl (Or.inl rfl) (pe_lst (pa_cons (pv 1) pa_nil)))
      (pss_cons (ps_for PassesOwn.never rfl (pi_tup (C8.pe_mt m_words hr (by first | decide | omega) (pv 0) (pa_cons (pv 1) pa_nil))) (pg_name (i := 4) sc__are_leaves_right.nd rfl (Or.inl rfl))
      (pss_one (ps_if (pt_cmpR op_notN (pv 4) pe_non (nomark _)) (pss_cons (ps_set (i := 5) sc__are_leaves_right.nd rfl (Or.inl rfl) (pe_ix ix_tup (pv 4) pe_int (fun _ _ => rfl)))
      (pss_cons (ps_if (PW.pt (pw_or (pt_cmpR op_in_seq (pv 5) (pv 3) (by with_unfolding_all rfl)) (pw_or (pt_cmpR op_ne (pe_ix ix_tup (C8.pe_mt m_status hr (by first | decide | omega) (pv 0) (pa_cons (pv 5) pa_nil)) pe_int (fun _ _ => rfl)) (pv 2) (nomark _)) (pw_or1 (pt_not (pt_val (C8.pe_c c__is_table hr (by first | decide | omega) rfl (pa_cons (pv 0) (pa_cons (pv 5) (pa_cons (C8.pe_gc rfl gE) pa_nil)))))))))) (pss_one (ps_ret pe_bl)) pss_nil)
      (pss_one (ps_expr (pe_bm PySem.F.plainAttrs_list PySem.F.slot_list_append PySem.F.type_list_append mt_append (pv 3) (pa_cons (pv 5) pa_nil)))))) pss_nil)))
      (pss_one (ps_ret pe_bl))))), ?_⟩
  refine ⟨_, rfl, p, dx, _, rfl, hp, rfl, _, rfl, p, g, _, a, ss, ws, ln, rfl, M, hg, hst, fun x hx => ?_⟩
  cases hx with
  | @tup b0 xs _ hb hxs =>
  cases hxs with
  | @cons y0 _ _ _ i0 hxs => cases hxs with
  | @cons yo _ _ _ i1 hxs =>
  refine ⟨b0, _, 1, _, rfl, rfl, SqT.of hb, atI_nat (j := 1) rfl, ?_⟩
  refine ⟨_, rfl, (by show 1 ≤ sizeLine; decide), fun lb hlb => ?_⟩
  have s1 := same_new (o := .lst [.int (g : Int)]) hlb
  have elb : (upd H lb (.lst [.int (g : Int)])) lb = some (.lst [.int (g : Int)]) := upd_same
  have M1 := M.same s1
  have hp1 := s1 _ _ hp
  have ncell : lb ∉ a.cells := fun z => by
    obtain ⟨sx, hsx, _⟩ := M.hs
    obtain ⟨lx, hlx, _⟩ := M.hl
    unfold Ads.cells at z
    simp only [List.mem_cons] at z
    rcases z with z | z | z | z
    · rw [z, hsx] at hlb; cases hlb
    · rw [z, M.hw] at hlb; cases hlb
    · rw [z, hlx] at hlb; cases hlb
    · obtain ⟨k, hk⟩ := List.mem_iff_getElem?.mp z
      obtain ⟨ys, hy, _⟩ := M.rw k lb hk
      rw [hy] at hlb; cases hlb
  generalize upd H lb (.lst [.int (g : Int)]) = H1 at *
  refine ⟨_, rfl, p, dx, _, rfl, hp1, rfl, _, rfl, p, g, a, ss, ws, ln, rfl, M1, hg, fun H2 t s2 ht it => ?_⟩
  have M2 := M1.same s2
  have elb := s2 _ _ elb
  cases it with
  | @tup _ ys _ hta hws =>
  have hl := hws.len
  obtain ⟨r0, hr0⟩ : ∃ r0, a.rows[g]? = some r0 := ⟨_, List.getElem?_eq_getElem (by rw [M.r24]; exact hg)⟩
  obtain ⟨_, _, _, l4⟩ := M.rw g r0 hr0
  have ntl : t ≠ lb := fun z => by rw [z, elb] at hta; cases hta
  have toH : ∀ {H3 : Hp}, (∀ b o, H2 b = some o → b ≠ lb → H3 b = some o) → Same H H3 := fun {H3} h b o e => h b o (s2 _ _ (s1 _ _ e)) (fun z => by rw [z, hlb] at e; cases e)
  refine ⟨t, rfl, ⟨_, SqT.of hta⟩, for_it (walk_tup (xs := ys)) (fun i σ H3 => ∃ v4 v5 bef, σ = [some (.ref p), some (.int (g : Int)), some yo, some (.ref lb), v4, v5] ∧ (∀ b o, H2 b = some o → b ≠ lb → H3 b = some o) ∧ H3 lb = some (.lst (bef.map fun b => V.int ((b : Nat) : Int))) ∧ bef.length ≤ i + 1 ∧ leavesB ss ws ow (ws g) [g] = leavesB ss ws ow ((ws g).drop i) bef) ⟨none, none, [g], rfl, fun b o e _ => e, elb, Nat.le_refl _, rfl⟩ (fun i σ H3 _ h => by obtain ⟨_, _, _, _, h2, _⟩ := h; exact SqT.of (h2 _ _ hta ntl)) ?_ ?_⟩
  · rintro i z σ H3x H3 hi ⟨v4, v5, bef, rfl, off, hbef, hbl, heq⟩ ⟨rfl, hz⟩
    obtain ⟨e, he, hze⟩ := hws.at hz
    have hem := List.mem_of_getElem? he
    have hrw : rootW e = true := List.all_eq_true.mp hroot e hem
    have hi2 : i < (ws g).length := by omega
    have hdrop : (ws g).drop i = e :: (ws g).drop (i + 1) := by
      rw [List.drop_eq_getElem_cons hi2]
      congr 1
      rw [List.getElem?_eq_getElem hi2] at he
      exact Option.some.inj he
    have M3 : MeR N C H3 p a ss ws ln := M2.off elb ncell off
    have hze := Is.keep (off_keep0 elb off) (clnL_iff.mp (M.cw g) e hem) hze
    have hp3 := off _ _ (s2 _ _ hp1) (fun z => by rw [z, hlb] at hp; cases hp)
    rw [hdrop] at heq
    refine ⟨_, rfl, rfl, _, rfl, ?_⟩
    rw [is_non hze]
    cases hn : isNon e with
    | true =>
      refine bF rfl ⟨_, _, bef, rfl, off, hbef, by omega, ?_⟩
      rw [heq]; simp only [leavesB, hn, if_true]
    | false =>
    obtain ⟨kk, gl, rr, rfl, hgl, elf⟩ := root_leaf hrw hn
    refine bT rfl ?_
    cases hze with
    | @tup az zs _ haz hzs =>
    cases hzs with
    | @cons z0 _ _ _ k0 hzs => cases hzs with
    | @cons z1 zt _ _ k1 hzs =>
    cases k0
    cases k1
    refine ⟨_, rfl, az, _, 1, _, rfl, rfl, SqT.of haz, atI_nat (j := 1) rfl, ?_⟩
    have neg : (bef.any (fun b => decide (b = gl)) || !eqO (owOf ss gl) ow || !tabB ss ws gl entryW) = true → ∀ H5, Same H3 H5 → Q (.bl false) H5 := fun c H5 s5 => by
      have q1 := q H5 ((toH off).trans s5)
      rw [eow, heq] at q1
      simp only [leavesB, hn, elf] at q1
      rw [c] at q1
      exact q1
    refine ⟨_, rfl, _, rfl, lb, _, rfl, .inl (SqL.of hbef), rfl, (by rw [List.all_map]; exact List.all_eq_true.mpr fun _ _ => rfl), _, rfl, ?_⟩
    show (if (inV (.int (gl : Int)) (bef.map fun b : Nat => V.int (b : Int))) = true then _ else _)
    rw [inInts]
    cases c1 : bef.any (fun b => decide (b = gl)) with
    | true => exact iteT (neg (by rw [c1]; rfl) H3 (Same.refl H3))
    | false =>
    refine iteF ?_
    obtain ⟨st2, ow2, ho2, hst2, est2, eow2, fow2⟩ := stat gl hgl
    refine ⟨_, rfl, p, dx, _, rfl, hp3, rfl, _, rfl, p, gl, _, a, ss, ws, ln, rfl, M3, hgl, hst2, fun x hx => ?_⟩
    cases hx with
    | @tup b2 xs2 _ hb2 hxs2 =>
    cases hxs2 with
    | @cons y2 _ _ _ m0 hxs2 => cases hxs2 with
    | @cons yo2 _ _ _ m1 hxs2 =>
    have hyo : decide (yo2 = yo) = eqO ow2 ow := by
      rcases fow2 with rfl | ⟨i2, rfl⟩ <;> rcases fow with rfl | ⟨i1', rfl⟩ <;> cases m1 <;> cases i1 <;> simp [eqO]
    have fl : scal yo2 yo = true := by rcases fow2 with rfl | ⟨i2, rfl⟩ <;> rcases fow with rfl | ⟨i1', rfl⟩ <;> cases m1 <;> cases i1 <;> rfl
    refine ⟨b2, _, 1, _, rfl, rfl, SqT.of hb2, atI_nat (j := 1) rfl, _, rfl, ?_⟩
    refine ⟨fl, _, rfl, ?_⟩
    by_cases cy : yo2 = yo
    · have ey : eqO ow2 ow = true := by rw [← hyo]; exact decide_eq_true cy
      refine bF (by simp [cy]) ?_
      refine ⟨_, rfl, _, rfl, p, fE, gl, entryW, st2, [ow2, ho2], a, ss, ws, ln, rfl, M3, hgl, .inr ⟨rfl, rfl⟩, hst2, fun H4 s4 => ⟨_, rfl, ?_⟩⟩
      have et : (decide (st2 = "table") && (ws gl).all entryW) = tabB ss ws gl entryW := by unfold tabB; rw [est2]
      rw [et]
      cases c3 : tabB ss ws gl entryW with
      | false => exact bT rfl (neg (by rw [eow2, ey, c1, c3]; rfl) H4 s4)
      | true =>
        refine bF rfl ?_
        unfold tNext
        dsimp only
        have hbef4 := s4 _ _ hbef
        refine ⟨_, rfl, .inl ⟨rfl, _, SqL.of hbef4⟩, _, rfl, lb, _, _, rfl, rfl, hbef4, small1000 (by rw [List.length_map]; omega), ?_⟩
        refine ⟨_, _, bef ++ [gl], rfl, fun b o e n => by rw [upd_ne n]; exact s4 _ _ (off b o e n), by rw [upd_same, List.map_append]; rfl, by simp; omega, ?_⟩
        rw [heq]
        simp only [leavesB, hn, elf, c1, eow2, ey, c3]
        rfl
    · have ey : eqO ow2 ow = false := by rw [← hyo]; exact decide_eq_false cy
      exact bT (by simp [cy]) (neg (by rw [eow2, ey, c1]; rfl) H3 (Same.refl H3))
  · rintro σ H3 ⟨v4, v5, bef, rfl, off, hbef, hbl, heq⟩
    rw [List.drop_eq_nil_of_le (by omega)] at heq
    have q1 := q H3 (toH off)
    rw [eow, heq] at q1
    exact q1
end
end Hc

set_option maxHeartbeats 8000000
namespace Hc
open PySem PySem.Spec PyProof.Rows L2 Hr
def halfB (pg : Int) (d : D) : Bool := match d with | .tup (.str k :: _) => decide (k = "shared") != decide (8 ≤ pg) | _ => false
def mapD (ws : Nat → List D) (ds : List D) : List D := ds.flatMap fun d => match grO "table" d with | some g => ws g.toNat | none => List.replicate 4 .non
theorem mapD_app (ws : Nat → List D) (a b : List D) : mapD ws (a ++ b) = mapD ws a ++ mapD ws b := by simp [mapD]
theorem entry_tup {ds : List D} (h : entryW (.tup ds) = true) : ∃ k r, ds = .str k :: r := by
  match ds, h with
  | [], h => simp [entryW, grO, outD, lvD, isNon] at h
  | .str k :: r, _ => exact ⟨k, r, rfl⟩
  | .non :: r, h => exact absurd h (by rcases r with _ | ⟨x, _ | ⟨y, _ | ⟨z, r⟩⟩⟩ <;> simp [entryW, grO, outD, lvD, isNon])
  | .bl _ :: r, h => exact absurd h (by rcases r with _ | ⟨x, _ | ⟨y, _ | ⟨z, r⟩⟩⟩ <;> simp [entryW, grO, outD, lvD, isNon])
  | .int _ :: r, h => exact absurd h (by rcases r with _ | ⟨x, _ | ⟨y, _ | ⟨z, r⟩⟩⟩ <;> simp [entryW, grO, outD, lvD, isNon])
  | .tup _ :: r, h => exact absurd h (by rcases r with _ | ⟨x, _ | ⟨y, _ | ⟨z, r⟩⟩⟩ <;> simp [entryW, grO, outD, lvD, isNon])
  | .lst _ :: r, h => exact absurd h (by rcases r with _ | ⟨x, _ | ⟨y, _ | ⟨z, r⟩⟩⟩ <;> simp [entryW, grO, outD, lvD, isNon])
  | .dct :: r, h => exact absurd h (by rcases r with _ | ⟨x, _ | ⟨y, _ | ⟨z, r⟩⟩⟩ <;> simp [entryW, grO, outD, lvD, isNon])
  | .atom _ _ :: r, h => exact absurd h (by rcases r with _ | ⟨x, _ | ⟨y, _ | ⟨z, r⟩⟩⟩ <;> simp [entryW, grO, outD, lvD, isNon])
theorem mapD_cln {ws : Nat → List D} (h : ∀ g, clnL (ws g) = true) (ds : List D) : clnL (mapD ws ds) = true := clnL_iff.mpr fun e he => by
  obtain ⟨d, _, hd⟩ := List.mem_flatMap.mp he
  cases hgr : grO "table" d with
  | some g => rw [hgr] at hd; exact clnL_iff.mp (h _) e hd
  | none => rw [hgr] at hd; rw [List.eq_of_mem_replicate hd]; rfl
theorem grO_rng {nm : Str} {d : D} {g : Int} (h : grO nm d = some g) : 0 ≤ g ∧ g < 24 := by
  unfold grO at h
  split at h
  · rename_i k i
    by_cases c : k = nm ∧ 0 ≤ i ∧ i < 24
    · rw [if_pos c] at h; cases h; exact c.2
    · rw [if_neg c] at h; cases h
  · cases h
theorem MeR.fresh {N C l : Addr} {H : Hp} {p : Addr} {a : Ads} {ss : List D} {ws : Nat → List D} {ln : Nat} (M : MeR N C H p a ss ws ln) (hl : H l = none) : l ∉ a.cells := fun z => by
  obtain ⟨sx, hsx, _⟩ := M.hs
  obtain ⟨lx, hlx, _⟩ := M.hl
  unfold Ads.cells at z
  simp only [List.mem_cons] at z
  rcases z with z | z | z | z
  · rw [z, hsx] at hl; cases hl
  · rw [z, M.hw] at hl; cases hl
  · rw [z, hlx] at hl; cases hl
  · obtain ⟨k, hk⟩ := List.mem_iff_getElem?.mp z
    obtain ⟨ys, hy, _⟩ := M.rw k l hk
    rw [hy] at hl; cases hl
section
variable {P : Program} {w : World} {K : PySem.W.Frag} {mg : Str → Option Value} {base : Heap} {f : Addr} {fd : FuncData} {C N : Addr}
abbrev s__is_in_wrong_half : Stmt := top 56
theorem sc__is_in_wrong_half : FnScope ["page", "entry"] ["page", "entry"] (C8.fnScope s__is_in_wrong_half) := C8.fnScope_by (by decide +kernel)
theorem ok__is_in_wrong_half (F : C8.Def K mg "_is_in_wrong_half" s__is_in_wrong_half f fd) (b : Binds K fd ["page", "entry"] []) (T : Txt K mg w C) : C8.Cal P w K mg base 1 "_is_in_wrong_half" (fun vs H Q _ => ∃ pg x d, vs = [.int pg, x] ∧ Is C H x d ∧ entryW d = true ∧ Q (.bl (halfB pg d)) H) [] := by
  refine C8.cal0 F b .nil sc__is_in_wrong_half (fun vs H Q E h => ?_) (fun cdv A outer s H vs Q E hr h => ?_)
  · obtain ⟨pg, x, d, rfl, _⟩ := h; rfl
  obtain ⟨pg, x, d, rfl, hx, he, q⟩ := h
  refine ⟨_, (pss_one (ps_ret (pe_and (pe_cmpR (op_isTyA (C := C)) (pe_callTy (call_typeA (C := C)) rfl T.z_type bt_type (pa_cons (pv 1) pa_nil)) (pe_bltn (v := .ty "tuple") rfl T.z_tuple bt_tuple rfl) (nomark _)) (pe_one (pe_cmpR op_ne (pe_cmpR op_eq (pe_ix ix_tup (pv 1) pe_int (fun _ _ => rfl)) pe_str (nomark _)) (pe_cmpR op_ge (pv 0) (C8.pe_gc rfl T.c_FIRST_SHARED) (nomark _)) (nomark _)))))), ?_⟩
  refine ⟨_, rfl, x, d, rfl, hx, kyV_ok d, .inl ⟨_, rfl⟩, _, rfl, ?_⟩
  by_cases ct : kyV C d = .ty "tuple"
  · obtain ⟨ds, rfl⟩ := kyV_tup.mp ct
    obtain ⟨k, r, rfl⟩ := entry_tup he
    cases hx with
    | @tup b0 xs _ hb hxs =>
    cases hxs with
    | @cons y0 yt _ _ i0 hxs =>
    cases i0
    refine ifT ct ⟨_, rfl, b0, _, 0, _, rfl, rfl, SqT.of hb, atI_nat (j := 0) rfl, rfl, ?_⟩
    refine ⟨_, rfl, _, _, rfl, rfl, rfl, ?_⟩
    have e : decide (V.str k = V.str "shared") = decide (k = "shared") := decide_eq_decide.mpr ⟨fun z => V.str.inj z, fun z => by rw [z]⟩
    rw [e]
    have e2 : ∀ a b : Bool, (!decide (V.bl a = V.bl b)) = (a != b) := by intro a b; cases a <;> cases b <;> simp
    show Q (.bl (!decide (V.bl (decide (k = "shared")) = V.bl (decide (8 ≤ pg))))) H
    rw [e2]
    exact q
  · have e : halfB pg d = false := by cases d <;> first | rfl | exact absurd rfl ct
    rw [e] at q
    exact ifF ct q
abbrev s_map_of : Stmt := top 50
theorem sc_map_of : FnScope ["memory", "root", "found", "word", "leaf"] ["memory", "root"] (C8.fnScope s_map_of) := C8.fnScope_by (by decide +kernel)
theorem ok_map_of (F : C8.Def K mg "map_of" s_map_of f fd) (b : Binds K fd ["memory", "root"] []) (T : Txt K mg w C) (m_words : C8.Met P w K mg base 3 N "words" (spMW N C) []) (c_leaf_of : C8.Cal P w K mg base 4 "leaf_of" (spGr1 C "table") []) : C8.Cal P w K mg base 5 "map_of" (fun vs H Q _ => ∃ (p : Addr) (g : Nat) (a : Ads) (ss : List D) (ws : Nat → List D) (ln : Nat), vs = [.ref p, .int (g : Int)] ∧ MeR N C H p a ss ws ln ∧ g < 24 ∧ ∀ H' l xs, Same H H' → H l = none → H' l = some (.lst xs) → IsA C H' xs (mapD ws (ws g)) → Q (.ref l) H') [] := by
  refine C8.cal0 F b .nil sc_map_of (fun vs H Q E h => ?_) (fun cdv A outer s H vs Q E hr h => ?_)
  · obtain ⟨p, g, a, ss, ws, ln, rfl, _⟩ := h; rfl
  obtain ⟨p, g, a, ss, ws, ln, rfl, M, hg, q⟩ := h
  obtain ⟨dx, hp⟩ := M.ins
  refine ⟨_, (pss_cons (ps_set (i := 2) sc_map_of.nd rfl (Or.inl rfl) (pe_lst pa_nil))
      (pss_cons (ps_for PassesOwn.never rfl (pi_tup (C8.pe_mt m_words hr (by first | decide | omega) (pv 0) (pa_cons (pv 1) pa_nil))) (pg_name (i := 3) sc_map_of.nd rfl (Or.inl rfl))
      (pss_cons (ps_set (i := 4) sc_map_of.nd rfl (Or.inl rfl) (C8.pe_c c_leaf_of hr (by first | decide | omega) rfl (pa_cons (pv 3) pa_nil)))
      (pss_one (ps_if (pt_cmpR op_isN (pv 4) pe_non (nomark _)) (pss_one (ps_expr (pe_bm PySem.F.plainAttrs_list PySem.F.slot_list_extend PySem.F.type_list_extend mt_extend (pv 2) (pa_cons (pe_op op_rep (pe_lst (pa_cons pe_non pa_nil)) (C8.pe_gc rfl T.c_WORDS)) pa_nil)))) (pss_one (ps_expr (pe_bm PySem.F.plainAttrs_list PySem.F.slot_list_extend PySem.F.type_list_extend mt_extendT (pv 2) (pa_cons (C8.pe_mt m_words hr (by first | decide | omega) (pv 0) (pa_cons (pv 4) pa_nil)) pa_nil))))))))
      (pss_one (ps_ret (pv 2))))), ?_⟩
  refine ⟨Nat.zero_le _, fun lb hlb => ?_⟩
  have s1 := same_new (o := .lst []) hlb
  have elb : (upd H lb (.lst [])) lb = some (.lst []) := upd_same
  have M1 := M.same s1
  have hp1 := s1 _ _ hp
  have ncell : lb ∉ a.cells := M.fresh hlb
  generalize upd H lb (.lst []) = H1 at *
  refine ⟨_, rfl, p, dx, _, rfl, hp1, rfl, _, rfl, p, g, a, ss, ws, ln, rfl, M1, hg, fun H2 t s2 ht it => ?_⟩
  have M2 := M1.same s2
  have elb := s2 _ _ elb
  cases it with
  | @tup _ ys _ hta hws =>
  have hl := hws.len
  have l4 : ∀ k, k < 24 → (ws k).length = 4 := fun k hk => by
    obtain ⟨r0, hr0⟩ : ∃ r0, a.rows[k]? = some r0 := ⟨_, List.getElem?_eq_getElem (by rw [M.r24]; exact hk)⟩
    obtain ⟨_, _, _, l4⟩ := M.rw k r0 hr0
    exact l4
  have hg4 := l4 g hg
  have ntl : t ≠ lb := fun z => by rw [z, elb] at hta; cases hta
  have toH : ∀ {H3 : Hp}, (∀ b o, H2 b = some o → b ≠ lb → H3 b = some o) → Same H H3 := fun {H3} h b o e => h b o (s2 _ _ (s1 _ _ e)) (fun z => by rw [z, hlb] at e; cases e)
  refine ⟨t, rfl, ⟨_, SqT.of hta⟩, for_it (walk_tup (xs := ys)) (fun i σ H3 => ∃ v3 v4 acc, σ = [some (.ref p), some (.int (g : Int)), some (.ref lb), v3, v4] ∧ (∀ b o, H2 b = some o → b ≠ lb → H3 b = some o) ∧ H3 lb = some (.lst acc) ∧ IsA C H3 acc (mapD ws ((ws g).take i)) ∧ acc.length = 4 * i) ⟨none, none, [], rfl, fun b o e _ => e, elb, .nil, rfl⟩ (fun i σ H3 _ h => by obtain ⟨_, _, _, _, h2, _⟩ := h; exact SqT.of (h2 _ _ hta ntl)) ?_ ?_⟩
  · rintro i z σ H3x H3 hi ⟨v3, v4, acc, rfl, off, hacc, ia, hal⟩ ⟨rfl, hz⟩
    obtain ⟨e, he, hze⟩ := hws.at hz
    have hem := List.mem_of_getElem? he
    have M3 : MeR N C H3 p a ss ws ln := M2.off elb ncell off
    have hze := Is.keep (off_keep0 elb off) (clnL_iff.mp (M.cw g) e hem) hze
    have hp3 := off _ _ (s2 _ _ hp1) (fun z => by rw [z, hlb] at hp; cases hp)
    have hi2 : i < (ws g).length := by omega
    have et : mapD ws ((ws g).take (i + 1)) = mapD ws ((ws g).take i) ++ mapD ws [e] := by
      rw [List.take_add_one, he, mapD_app]; rfl
    refine ⟨_, rfl, z, e, rfl, hze, ?_⟩
    refine ⟨_, rfl, rfl, _, rfl, ?_⟩
    rw [optV_non]
    cases hgr : grO "table" e with
    | none =>
      have em : mapD ws [e] = List.replicate 4 .non := by simp [mapD, hgr]
      refine bT rfl ?_
      refine ⟨_, rfl, .inl ⟨rfl, _, SqL.of hacc⟩, (by show 1 ≤ sizeLine; decide), fun l5 h5 => ?_⟩
      have s5 := same_new (o := .lst [.non]) h5
      refine ⟨l5, 4, _, rfl, rfl, upd_same, by decide, by decide, (by show 1 * 4 ≤ sizeLine; decide), fun l6 h6 => ?_⟩
      rw [show (4 : Int).toNat = 4 from rfl, repl_flat]
      have s6 := same_new (o := .lst (List.replicate 4 V.non)) h6
      have s56 := s5.trans s6
      have hacc6 := s56 _ _ hacc
      have e6 : (upd (upd H3 l5 (.lst [.non])) l6 (.lst (List.replicate 4 V.non))) l6 = some (.lst (List.replicate 4 V.non)) := upd_same
      generalize upd (upd H3 l5 (.lst [.non])) l6 (.lst (List.replicate 4 V.non)) = H6 at *
      have kk : Keep C H6 (upd H6 lb (.lst (acc ++ List.replicate 4 V.non))) := keep_lst0 hacc6
      refine ⟨lb, l6, acc, _, rfl, rfl, hacc6, e6, Nat.le_of_lt (small1000 (by simp; omega)), ?_⟩
      refine ⟨_, _, acc ++ List.replicate 4 V.non, rfl, fun b o e n => by rw [upd_ne n]; exact s56 _ _ (off b o e n), upd_same, ?_, by simp [hal]; omega⟩
      rw [et, em]
      exact IsA.app (IsA.keep kk (mapD_cln M.cw _) (ia.same s56)) (isA_repl 4 .non)
    | some i3 =>
      refine bF rfl ?_
      obtain ⟨g0, g1⟩ := grO_rng hgr
      obtain ⟨n3, rfl⟩ : ∃ n : Nat, i3 = (n : Int) := ⟨i3.toNat, by omega⟩
      have hn3 : n3 < 24 := by omega
      have em : mapD ws [e] = ws n3 := by simp [mapD, hgr]
      have hw4 := l4 n3 hn3
      refine ⟨_, rfl, .inl ⟨rfl, _, SqL.of hacc⟩, _, rfl, p, dx, _, rfl, hp3, rfl, _, rfl, p, n3, a, ss, ws, ln, rfl, M3, hn3, fun H6 t6 s6 ht6 it6 => ?_⟩
      cases it6 with
      | @tup _ zs _ hz6 hzs =>
      have hzl := hzs.len
      have hacc6 := s6 _ _ hacc
      have kk : Keep C H6 (upd H6 lb (.lst (acc ++ zs))) := keep_lst0 hacc6
      refine ⟨lb, t6, acc, zs, rfl, rfl, hacc6, hz6, Nat.le_of_lt (small1000 (by omega)), ?_⟩
      refine ⟨_, _, acc ++ zs, rfl, fun b o e n => by rw [upd_ne n]; exact s6 _ _ (off b o e n), upd_same, ?_, by simp [hal]; omega⟩
      rw [et, em]
      exact IsA.app (IsA.keep kk (mapD_cln M.cw _) (ia.same s6)) (IsA.keep kk (M.cw n3) hzs)
  · rintro σ H3 ⟨v3, v4, acc, rfl, off, hacc, ia, hal⟩
    rw [List.take_of_length_le (by omega)] at ia
    exact ⟨_, rfl, q H3 lb acc (toH off) hlb hacc ia⟩
end
end Hc

set_option maxHeartbeats 8000000
namespace Hc
open PySem PySem.Spec PyProof.Rows L2 Hr
theorem room64 {k : Nat} {A : Around} (hr : Room k A) : A.units + 64 < cLine := by
  have := hr.un
  omega
theorem inVab (k p q : Str) : inV (.str k) [.str p, .str q] = (decide (k = p) || decide (k = q)) := by
  show (eqV (.str p) (.str k) || (eqV (.str q) (.str k) || false)) = _
  have h : ∀ z : Str, eqV (.str z) (.str k) = decide (k = z) := fun z => by
    simp only [eqV]
    by_cases h : k = z
    · subst h; simp
    · rw [decide_eq_false h]; exact beq_eq_false_iff_ne.mpr (fun y => h y.symm)
  rw [h, h, Bool.or_false]
def dataOf (d : D) : Option Nat := match d with | .tup (.str k :: _) => if k = "data" ∨ k = "leaving" then some (leafOf d) else none | _ => none
def oP : D → PyData | .int i => .int i | _ => .none
theorem st_dp {K : PySem.W.Frag} {C : Addr} {H H0 : Hp} {x : V} {o : D} (i : Is C H0 x o) (h : o = .non ∨ ∃ i, o = .int i) : Dp K H x (oP o) ∧ PyData.canLay0 (oP o) = true := by
  rcases h with rfl | ⟨i, rfl⟩ <;> cases i
  · exact ⟨.non, rfl⟩
  · exact ⟨.int _, rfl⟩
theorem st_ok : ∀ s ∈ statesL, PyData.strOk s = true := by
  have h : (statesL.all fun s => PyData.strOk s) = true := by decide +kernel
  exact fun s hs => List.all_eq_true.mp h s hs
theorem st_shaped {s : Str} {o : PyData} (hs : s ∈ statesL) (ho : PyData.canLay0 o = true) (hd : PyData.depth o = 0) : SeqAt.shaped (.tuple [.str s, o]) = true := by
  unfold SeqAt.shaped
  simp only [PyData.canLay0, PyData.canLayAll0, st_ok s hs, ho, PyData.depth, PyData.depthAll, hd]
  rfl
theorem oP_depth (o : D) : PyData.depth (oP o) = 0 := by cases o <;> rfl
theorem st_eqv {s1 s2 : Str} {o1 o2 : D} (h1 : o1 = .non ∨ ∃ i, o1 = .int i) (h2 : o2 = .non ∨ ∃ i, o2 = .int i) : PyData.eqv (.tuple [.str s1, oP o1]) (.tuple [.str s2, oP o2]) = (decide (s1 = s2) && eqO o1 o2) := by
  rcases h1 with rfl | ⟨i, rfl⟩ <;> rcases h2 with rfl | ⟨j, rfl⟩ <;> simp [PyData.eqv, PyData.eqvAll, eqO, oP] <;> rfl
theorem entry_data {k : Str} {r : List D} (h : entryW (.tup (.str k :: r)) = true) (hk : k = "data" ∨ k = "leaving") : ∃ (g : Nat) (rr : List D), r = .int ((g : Nat) : Int) :: rr ∧ g < 24 ∧ leafOf (.tup (.str k :: .int ((g : Nat) : Int) :: rr)) = g := by
  have go : ∀ (i : Int) (rr : List D), 0 ≤ i → i < 24 → r = .int i :: rr → ∃ (g : Nat) (rr : List D), r = .int ((g : Nat) : Int) :: rr ∧ g < 24 ∧ leafOf (.tup (.str k :: .int ((g : Nat) : Int) :: rr)) = g := fun i rr h0 h1 e =>
    ⟨i.toNat, rr, by rw [e, Int.toNat_of_nonneg h0], by omega, by show ((i.toNat : Nat) : Int).toNat = i.toNat; exact Int.toNat_natCast _⟩
  have n1 : ¬ (k = "shared") := fun z => by subst z; exact absurd hk (by decide +kernel)
  have n2 : ¬ (k = "out") := fun z => by subst z; exact absurd hk (by decide +kernel)
  simp only [entryW, Bool.or_eq_true] at h
  rcases h with (((h | h) | h) | h) | h
  · unfold grO at h
    split at h
    · rename_i k' g e
      cases e
      by_cases c : k = "data" ∧ 0 ≤ g ∧ g < 24
      · exact go g [] c.2.1 c.2.2 rfl
      · rw [if_neg c] at h; cases h
    · cases h
  · unfold grO at h
    split at h
    · rename_i k' g e
      cases e
      rw [if_neg (fun z => n1 z.1)] at h; cases h
    · cases h
  · unfold outD at h
    split at h
    · rename_i k' e' e
      cases e
      rw [decide_eq_false n2] at h; cases h
    · cases h
  · simp [isNon] at h
  · unfold lvD at h
    split at h
    · rename_i k' g e' e
      cases e
      simp only [Bool.and_eq_true, decide_eq_true_eq] at h
      exact go g [e'] h.1.2.1 h.1.2.2 rfl
    · cases h
def pagesF (ss : List D) (ow : D) : Nat → List D → List Nat → Str
  | _, [], _ => ""
  | pg, d :: ds, bef => if halfB (pg : Int) d then "half" else match dataOf d with
    | none => pagesF ss ow (pg + 1) ds bef
    | some g => if bef.any (fun b => decide (b = g)) || !(decide (stOf ss g = "data") && eqO (owOf ss g) ow) then "data" else pagesF ss ow (pg + 1) ds (bef ++ [g])
def spFP2 (N C : Addr) : Sp := fun vs H Q _ => ∃ (p : Addr) (g : Nat) (a : Ads) (ss : List D) (ws : Nat → List D) (ln : Nat), vs = [.ref p, .int (g : Int)] ∧ MeR N C H p a ss ws ln ∧ g < 24 ∧ StOk ss ∧ (∀ e ∈ mapD ws (ws g), entryW e = true) ∧ ∀ H', Same H H' → Q (.str (pagesF ss (owOf ss g) 0 (mapD ws (ws g)) [])) H'
section
variable {P : Program} {w : World} {K : PySem.W.Frag} {mg : Str → Option Value} {base : Heap} {f : Addr} {fd : FuncData} {C N : Addr}
abbrev s__fault_of_pages : Stmt := top 55
theorem sc__fault_of_pages : FnScope ["memory", "root", "owner", "before", "page", "entry", "g"] ["memory", "root"] (C8.fnScope s__fault_of_pages) := C8.fnScope_by (by decide +kernel)
theorem ok__fault_of_pages (F : C8.Def K mg "_fault_of_pages" s__fault_of_pages f fd) (b : Binds K fd ["memory", "root"] []) (T : Txt K mg w C) (m_status : C8.Met P w K mg base 3 N "status" (spMS N C) []) (c_map_of : C8.Cal P w K mg base 5 "map_of" (fun vs H Q _ => ∃ (p : Addr) (g : Nat) (a : Ads) (ss : List D) (ws : Nat → List D) (ln : Nat), vs = [.ref p, .int (g : Int)] ∧ MeR N C H p a ss ws ln ∧ g < 24 ∧ ∀ H' l xs, Same H H' → H l = none → H' l = some (.lst xs) → IsA C H' xs (mapD ws (ws g)) → Q (.ref l) H') [])
    (c__is_in_wrong_half : C8.Cal P w K mg base 1 "_is_in_wrong_half" (fun vs H Q _ => ∃ pg x d, vs = [.int pg, x] ∧ Is C H x d ∧ entryW d = true ∧ Q (.bl (halfB pg d)) H) []) : C8.Cal P w K mg base 6 "_fault_of_pages" (spFP2 N C) [] := by
  refine C8.cal0 F b .nil sc__fault_of_pages (fun vs H Q E h => ?_) (fun cdv A outer s H vs Q E hr h => ?_)
  · obtain ⟨p, g, a, ss, ws, ln, rfl, _⟩ := h; rfl
  obtain ⟨p, g, a, ss, ws, ln, rfl, M, hg, hso, hent, q⟩ := h
  refine ⟨_, (pss_cons (ps_set (i := 2) sc__fault_of_pages.nd rfl (Or.inl rfl) (pe_ix ix_tup (C8.pe_mt m_status hr (by first | decide | omega) (pv 0) (pa_cons (pv 1) pa_nil)) pe_int (fun _ _ => rfl)))
      (pss_cons (ps_set (i := 3) sc__fault_of_pages.nd rfl (Or.inl rfl) (pe_lst pa_nil))
      (pss_cons (ps_for PassesOwn.never rfl (pi_enum rfl T.z_enumerate (pa_cons (C8.pe_c c_map_of hr (by first | decide | omega) rfl (pa_cons (pv 0) (pa_cons (pv 1) pa_nil))) pa_nil)) (pg_tup rfl (pgs_cons (pg_name (i := 4) sc__fault_of_pages.nd rfl (Or.inl rfl)) (pgs_cons (pg_name (i := 5) sc__fault_of_pages.nd rfl (Or.inl rfl)) pgs_nil)))
      (pss_cons (ps_if (pt_val (C8.pe_c c__is_in_wrong_half hr (by first | decide | omega) rfl (pa_cons (pv 4) (pa_cons (pv 5) pa_nil)))) (pss_one (ps_ret pe_str)) pss_nil)
      (pss_one (ps_if (PW.pt (pw_and (pt_cmpR (op_isTyA (C := C)) (pe_callTy (call_typeA (C := C)) rfl T.z_type bt_type (pa_cons (pv 5) pa_nil)) (pe_bltn (v := .ty "tuple") rfl T.z_tuple bt_tuple rfl) (nomark _)) (pw_and1 (pt_cmpR op_in_seq (pe_ix ix_tup (pv 5) pe_int (fun _ _ => rfl)) (pe_tup (pa_cons pe_str (pa_cons pe_str pa_nil))) (by with_unfolding_all rfl))))) (pss_cons (ps_set (i := 6) sc__fault_of_pages.nd rfl (Or.inl rfl) (pe_ix ix_tup (pv 5) pe_int (fun _ _ => rfl)))
      (pss_cons (ps_if (PW.pt (pw_or (pt_cmpR op_in_seq (pv 6) (pv 3) (by with_unfolding_all rfl)) (pw_or1 (pt_cmpR (op_neD (room64 hr)) (pe_slice sl_tupA (C8.pe_mt m_status hr (by first | decide | omega) (pv 0) (pa_cons (pv 6) pa_nil)) po_none (po_some pe_int)) (pe_tup (pa_cons pe_str (pa_cons (pv 2) pa_nil))) (nomark _))))) (pss_one (ps_ret pe_str)) pss_nil)
      (pss_one (ps_expr (pe_bm PySem.F.plainAttrs_list PySem.F.slot_list_append PySem.F.type_list_append mt_append (pv 3) (pa_cons (pv 6) pa_nil)))))) pss_nil))))
      (pss_one (ps_ret pe_str))))), ?_⟩
  obtain ⟨dx, hp⟩ := M.ins
  have s24 := M.s24
  have stat : ∀ k, k < 24 → ∃ st ow ho, ss[k]? = some (.tup [.str st, ow, ho]) ∧ stOf ss k = st ∧ owOf ss k = ow ∧ (ow = .non ∨ ∃ i, ow = .int i) ∧ st ∈ statesL := fun k hk => by
    have hk' : k < ss.length := by omega
    obtain ⟨st, ow, ho, e, hsl, hf⟩ := hso _ (List.getElem_mem hk')
    have h1 : ss[k]? = some (.tup [.str st, ow, ho]) := by rw [List.getElem?_eq_getElem hk', e]
    exact ⟨st, ow, ho, h1, by unfold stOf; rw [h1], by unfold owOf; rw [h1], hf, hsl⟩
  obtain ⟨st, ow, ho, hst, _, eow, fow, _⟩ := stat g hg
  refine ⟨_, rfl, p, dx, _, rfl, hp, rfl, _, rfl, p, g, _, a, ss, ws, ln, rfl, M, hg, hst, fun x hx => ?_⟩
  cases hx with
  | @tup b0 xs _ hb hxs =>
  cases hxs with
  | @cons y0 _ _ _ i0 hxs => cases hxs with
  | @cons yo _ _ _ i1 hxs =>
  refine ⟨b0, _, 1, _, rfl, rfl, SqT.of hb, atI_nat (j := 1) rfl, ?_⟩
  refine ⟨Nat.zero_le _, fun lb hlb => ?_⟩
  have s1 := same_new (o := .lst []) hlb
  have elb : (upd H lb (.lst [])) lb = some (.lst []) := upd_same
  have M1 := M.same s1
  have hp1 := s1 _ _ hp
  have ncell : lb ∉ a.cells := M.fresh hlb
  generalize upd H lb (.lst []) = H1 at *
  refine ⟨_, rfl, _, rfl, p, g, a, ss, ws, ln, rfl, M1, hg, fun H2 lm ys s2 hlm elm iys => ?_⟩
  have nml : lm ≠ lb := fun z => by rw [z, elb] at hlm; cases hlm
  have M2 := M1.same s2
  have elb := s2 _ _ elb
  have hl := iys.len
  have l4 : ∀ k, k < 24 → (ws k).length = 4 := fun k hk => by
    obtain ⟨r0, hr0⟩ : ∃ r0, a.rows[k]? = some r0 := ⟨_, List.getElem?_eq_getElem (by rw [M.r24]; exact hk)⟩
    obtain ⟨_, _, _, l4⟩ := M.rw k r0 hr0
    exact l4
  have toH : ∀ {H3 : Hp}, (∀ b o, H2 b = some o → b ≠ lb → H3 b = some o) → Same H H3 := fun {H3} h b o e => h b o (s2 _ _ (s1 _ _ e)) (fun z => by rw [z, hlb] at e; cases e)
  have hcl := mapD_cln M.cw (ws g)
  generalize hmd : mapD ws (ws g) = md at *
  have hm16 : md.length ≤ 1000 := by
    rw [← hmd]
    have h4 := l4 g hg
    have : ∀ ds : List D, (mapD ws ds).length ≤ 4 * ds.length := fun ds => by
      induction ds with
      | nil => simp [mapD]
      | cons d ds ih =>
        have e : mapD ws (d :: ds) = mapD ws [d] ++ mapD ws ds := mapD_app ws [d] ds
        rw [e, List.length_append, List.length_cons]
        have h1 : (mapD ws [d]).length ≤ 4 := by
          cases hgr : grO "table" d with
          | none => simp [mapD, hgr]
          | some i => 
            obtain ⟨g0, g1⟩ := grO_rng hgr
            have := l4 i.toNat (by omega)
            simp [mapD, hgr, this]
        omega
    have := this (ws g)
    omega
  refine ⟨lm, ys, rfl, SqL.of elm, for_it (walk_enum (xs := ys)) (fun i σ H3 => ∃ v4 v5 v6 bef, σ = [some (.ref p), some (.int (g : Int)), some yo, some (.ref lb), v4, v5, v6] ∧ (∀ b o, H2 b = some o → b ≠ lb → H3 b = some o) ∧ H3 lb = some (.lst (bef.map fun b : Nat => V.int (b : Int))) ∧ bef.length ≤ i ∧ pagesF ss ow 0 md [] = pagesF ss ow i (md.drop i) bef) ⟨none, none, none, [], rfl, fun b o e _ => e, elb, Nat.le_refl _, rfl⟩ (fun i σ H3 _ h => by obtain ⟨_, _, _, _, _, h2, _⟩ := h; exact SqL.of (h2 _ _ elm nml)) ?_ ?_⟩
  · rintro i z σ H3x H3 hi ⟨v4, v5, v6, bef, rfl, off, hbef, hbl, heq⟩ hy
    obtain ⟨tt, x0, x1, rfl, nt, rfl, ex, ey⟩ := hy
    have ex : some (V.int ((i : Nat) : Int)) = some x0 := ex
    cases ex
    have ey : ys[i]? = some x1 := ey
    obtain ⟨e, he, hze⟩ := iys.at ey
    have hem := List.mem_of_getElem? he
    have hwe : entryW e = true := hent e hem
    have hi2 : i < md.length := by omega
    have hdrop : md.drop i = e :: md.drop (i + 1) := by
      rw [List.drop_eq_getElem_cons hi2]
      congr 1
      rw [List.getElem?_eq_getElem hi2] at he
      exact Option.some.inj he
    rw [hdrop] at heq
    have s3 := same_new (o := .tup [.int ((i : Nat) : Int), x1]) nt
    have M3 : MeR N C (upd H3x tt (.tup [.int ((i : Nat) : Int), x1])) p a ss ws ln := (M2.off elb ncell off).same s3
    have hze := (Is.keep (off_keep0 elb off) (clnL_iff.mp hcl e hem) hze).same s3
    have hp3 := s3 _ _ (off _ _ (s2 _ _ hp1) (fun z => by rw [z, hlb] at hp; cases hp))
    have hbef3 := s3 _ _ hbef
    have off3 : ∀ b o, H2 b = some o → b ≠ lb → (upd H3x tt (.tup [.int ((i : Nat) : Int), x1])) b = some o := fun b o e n => s3 _ _ (off b o e n)
    refine ⟨tt, _, rfl, SqT.of upd_same, rfl, _, _, rfl, _, _, rfl, rfl, ?_⟩
    generalize upd H3x tt (.tup [.int ((i : Nat) : Int), x1]) = H3 at *
    refine ⟨_, rfl, _, rfl, ((i : Nat) : Int), x1, e, rfl, hze, hwe, _, rfl, ?_⟩
    cases hhf : halfB ((i : Nat) : Int) e with
    | true =>
      have q1 := q H3 (toH off3)
      rw [eow, heq] at q1
      simp only [pagesF, hhf, if_true] at q1
      exact bT rfl q1
    | false =>
    refine bF rfl ?_
    unfold tNext
    dsimp only
    refine ⟨_, rfl, x1, e, rfl, hze, kyV_ok e, .inl ⟨_, rfl⟩, _, rfl, ?_⟩
    have skip : dataOf e = none → ∀ H5, Same H3 H5 → ∃ w4 w5 w6 bef, ([some (.ref p), some (.int (g : Int)), some yo, some (.ref lb), some (.int ((i : Nat) : Int)), some x1, v6] : L2.St) = [some (.ref p), some (.int (g : Int)), some yo, some (.ref lb), w4, w5, w6] ∧ (∀ b o, H2 b = some o → b ≠ lb → H5 b = some o) ∧ H5 lb = some (.lst (bef.map fun b : Nat => V.int (b : Int))) ∧ bef.length ≤ i + 1 ∧ pagesF ss ow 0 md [] = pagesF ss ow (i + 1) (md.drop (i + 1)) bef := fun hd H5 s5 => ⟨_, _, _, bef, rfl, fun b o e n => s5 _ _ (off3 b o e n), s5 _ _ hbef3, by omega, by rw [heq]; simp only [pagesF, hhf, hd]; rfl⟩
    by_cases ct : kyV C e = .ty "tuple"
    · obtain ⟨ds, rfl⟩ := kyV_tup.mp ct
      obtain ⟨k, r, rfl⟩ := entry_tup hwe
      cases hze with
      | @tup b2 xs2 _ hb2 hxs2 =>
      cases hxs2 with
      | @cons y2 yt _ _ m0 hxs2 =>
      cases m0
      refine ifT ct ⟨_, rfl, b2, _, 0, _, rfl, rfl, SqT.of hb2, atI_nat (j := 0) rfl, (by show 2 ≤ sizeLine; decide), fun m hm => ?_⟩
      have s5 := same_new (o := .tup [.str "data", .str "leaving"]) hm
      refine ⟨m, _, rfl, .inr (SqT.of upd_same), rfl, rfl, _, rfl, ?_⟩
      show (if (inV (.str k) [.str "data", .str "leaving"]) = true then _ else _)
      rw [inVab]
      by_cases ck : k = "data" ∨ k = "leaving"
      · refine bT (by simpa using ck) ?_
        obtain ⟨gl, rr, rfl, hgl, elf⟩ := entry_data hwe ck
        cases hxs2 with
        | @cons y3 yt3 _ _ m1 hxs3 =>
        cases m1
        have M5 := M3.same s5
        have hp5 := s5 _ _ hp3
        have hbef5 := s5 _ _ hbef3
        have hb25 := s5 _ _ hb2
        have off5 : ∀ b o, H2 b = some o → b ≠ lb → (upd H3 m (.tup [.str "data", .str "leaving"])) b = some o := fun b o e n => s5 _ _ (off3 b o e n)
        generalize upd H3 m (.tup [.str "data", .str "leaving"]) = H5 at *
        have hdo : dataOf (.tup (.str k :: .int ((gl : Nat) : Int) :: rr)) = some gl := by simp only [dataOf, if_pos ck, elf]
        have neg : (bef.any (fun b => decide (b = gl)) || !(decide (stOf ss gl = "data") && eqO (owOf ss gl) ow)) = true → ∀ H6, Same H5 H6 → Q (.str "data") H6 := fun c H6 s6 => by
          have q1 := q H6 ((toH off5).trans s6)
          rw [eow, heq] at q1
          simp only [pagesF, hhf, hdo] at q1
          rw [c] at q1
          exact q1
        refine ⟨_, rfl, b2, _, 1, _, rfl, rfl, SqT.of hb25, atI_nat (j := 1) rfl, ?_⟩
        refine ⟨_, rfl, _, rfl, lb, _, rfl, .inl (SqL.of hbef5), rfl, (by rw [List.all_map]; exact List.all_eq_true.mpr fun _ _ => rfl), _, rfl, ?_⟩
        show (if (inV (.int (gl : Int)) (bef.map fun b : Nat => V.int (b : Int))) = true then _ else _)
        rw [inInts]
        cases c1 : bef.any (fun b => decide (b = gl)) with
        | true => exact iteT (neg (by rw [c1]; rfl) H5 (Same.refl H5))
        | false =>
        refine iteF ?_
        obtain ⟨st2, ow2, ho2, hst2, est2, eow2, fow2, hsl2⟩ := stat gl hgl
        refine ⟨_, rfl, p, dx, _, rfl, hp5, rfl, _, rfl, p, gl, _, a, ss, ws, ln, rfl, M5, hgl, hst2, fun x hx => ?_⟩
        cases hx with
        | @tup b3 xs3 _ hb3 hxs3 =>
        cases hxs3 with
        | @cons y4 _ _ _ n0 hxs3 => cases hxs3 with
        | @cons yo2 _ _ _ n1 hxs3 => cases hxs3 with
        | @cons y6 _ _ _ n2 hxs3 =>
        cases hxs3
        cases n0
        refine ⟨2, rfl, ?_⟩
        refine sl_go hb3 fun H6 p6 s6 ep6 => ?_
        rw [show (2 : Int) = ((2 : Nat) : Int) from rfl, cut_to] at ep6
        have ep6 : H6 p6 = some (.tup [.str st2, yo2]) := ep6
        refine ⟨_, rfl, (by show 2 ≤ sizeLine; decide), fun m2 hm2 => ?_⟩
        have s7 := same_new (o := .tup [.str "data", yo]) hm2
        have ep7 := s7 _ _ ep6
        have em2 : (upd H6 m2 (.tup [.str "data", yo])) m2 = some (.tup [.str "data", yo]) := upd_same
        have s67 := s6.trans s7
        generalize upd H6 m2 (.tup [.str "data", yo]) = H7 at *
        obtain ⟨d1, d2⟩ := st_dp (K := K) (H := H7) n1 fow2
        obtain ⟨d3, d4⟩ := st_dp (K := K) (H := H7) i1 fow
        refine ⟨.tuple [.str st2, oP ow2], .tuple [.str "data", oP ow], .tup (SqT.of ep7) (.cons (.str _) (.cons d1 .nil)), .tup (SqT.of em2) (.cons (.str _) (.cons d3 .nil)), st_shaped hsl2 d2 (oP_depth _), st_shaped (by decide +kernel) d4 (oP_depth _), _, rfl, ?_⟩
        rw [st_eqv fow2 fow]
        cases c2 : (decide (st2 = "data") && eqO ow2 ow) with
        | false => exact bT rfl (neg (by rw [est2, eow2, c1, c2]; rfl) H7 s67)
        | true =>
          refine bF rfl ?_
          dsimp only
          have hbef7 := s67 _ _ hbef5
          refine ⟨_, rfl, .inl ⟨rfl, _, SqL.of hbef7⟩, _, rfl, lb, _, _, rfl, rfl, hbef7, Nat.lt_of_le_of_lt (show _ ≤ 1000 by rw [List.length_map]; omega) (by decide), ?_⟩
          refine ⟨_, _, _, bef ++ [gl], rfl, fun b o e n => by rw [upd_ne n]; exact s67 _ _ (off5 b o e n), by rw [upd_same, List.map_append]; rfl, by simp; omega, ?_⟩
          rw [heq]
          simp only [pagesF, hhf, hdo, c1, est2, eow2, c2]
          rfl
      · exact bF (by simpa using ck) (skip (by simp only [dataOf, if_neg ck]) _ s5)
    · exact ifF ct (skip (by cases e <;> first | rfl | exact absurd rfl ct) _ (Same.refl _))
  · rintro σ H3 ⟨v4, v5, v6, bef, rfl, off, hbef, hbl, heq⟩
    rw [List.drop_eq_nil_of_le (by omega)] at heq
    have q1 := q H3 (toH off)
    rw [eow, heq] at q1
    exact q1
end
end Hc

set_option maxHeartbeats 8000000
namespace Hc
open PySem PySem.Spec PyProof.Rows L2 Hr
def faultD (ss : List D) (ws : Nat → List D) (g : Nat) : Str :=
  if tabB ss ws g rootW = false then "root" else if leavesB ss ws (owOf ss g) (ws g) [g] = false then "leaf" else pagesF ss (owOf ss g) 0 (mapD ws (ws g)) []
theorem leaves_tab {ss : List D} {ws : Nat → List D} {ow : D} : ∀ {ds : List D} {bef : List Nat}, leavesB ss ws ow ds bef = true → ∀ d ∈ ds, isNon d = false → tabB ss ws (leafOf d) entryW = true
  | [], _, _, d, h, _ => by cases h
  | x :: ds, bef, hl, d, h, hn => by
    simp only [leavesB] at hl
    by_cases cn : isNon x = true
    · rw [if_pos cn] at hl
      rcases List.mem_cons.mp h with rfl | h
      · rw [cn] at hn; cases hn
      · exact leaves_tab hl d h hn
    · rw [if_neg cn] at hl
      by_cases c : (bef.any (fun b => decide (b = leafOf x)) || !eqO (owOf ss (leafOf x)) ow || !tabB ss ws (leafOf x) entryW) = true
      · rw [if_pos c] at hl; cases hl
      · rw [if_neg c] at hl
        rcases List.mem_cons.mp h with rfl | h
        · cases ht : tabB ss ws (leafOf d) entryW with
          | true => rfl
          | false => exact absurd (by rw [ht]; simp) c
        · exact leaves_tab hl d h hn
theorem map_entry {ss : List D} {ws : Nat → List D} {g : Nat} (hl : leavesB ss ws (owOf ss g) (ws g) [g] = true) : ∀ e ∈ mapD ws (ws g), entryW e = true := fun e he => by
  obtain ⟨d, hd, hm⟩ := List.mem_flatMap.mp he
  cases hgr : grO "table" d with
  | none => rw [hgr] at hm; rw [List.eq_of_mem_replicate hm]; rfl
  | some i =>
    rw [hgr] at hm
    have hf : isNon d = false ∧ leafOf d = i.toNat := by
      unfold grO at hgr
      split at hgr
      · rename_i k j
        by_cases c : k = "table" ∧ 0 ≤ j ∧ j < 24
        · rw [if_pos c] at hgr; cases hgr; exact ⟨rfl, rfl⟩
        · rw [if_neg c] at hgr; cases hgr
      · cases hgr
    have := leaves_tab hl d hd hf.1
    rw [hf.2] at this
    unfold tabB at this
    rw [Bool.and_eq_true] at this
    exact List.all_eq_true.mp this.2 e hm
def spTF (N C : Addr) : Sp := fun vs H Q _ => ∃ (p : Addr) (g : Nat) (a : Ads) (ss : List D) (ws : Nat → List D) (ln : Nat), vs = [.ref p, .int (g : Int)] ∧ MeR N C H p a ss ws ln ∧ g < 24 ∧ StOk ss ∧ ∀ H', Same H H' → Q (.str (faultD ss ws g)) H'
section
variable {P : Program} {w : World} {K : PySem.W.Frag} {mg : Str → Option Value} {base : Heap} {f : Addr} {fd : FuncData} {C N fR fE : Addr}
abbrev s_tables_fault : Stmt := top 51
theorem sc_tables_fault : FnScope ["memory", "root"] ["memory", "root"] (C8.fnScope s_tables_fault) := C8.fnScope_by (by decide +kernel)
theorem ok_tables_fault (F : C8.Def K mg "tables_fault" s_tables_fault f fd) (b : Binds K fd ["memory", "root"] []) (T : Txt K mg w C) (gR : ∃ u, mg "is_root_word" = some u ∧ RelV (.ref fR) u) (c__is_table : C8.Cal P w K mg base 6 "_is_table" (spIT N C fR fE) []) (c__are_leaves_right : C8.Cal P w K mg base 7 "_are_leaves_right" (spLR2 N C) []) (c__fault_of_pages : C8.Cal P w K mg base 6 "_fault_of_pages" (spFP2 N C) []) : C8.Cal P w K mg base 8 "tables_fault" (spTF N C) [] := by
  refine C8.cal0 F b .nil sc_tables_fault (fun vs H Q E h => ?_) (fun cdv A outer s H vs Q E hr h => ?_)
  · obtain ⟨p, g, a, ss, ws, ln, rfl, _⟩ := h; rfl
  obtain ⟨p, g, a, ss, ws, ln, rfl, M, hg, hso, q⟩ := h
  have s24 := M.s24
  have hk' : g < ss.length := by omega
  obtain ⟨st, ow, ho, e, hsl, hf⟩ := hso _ (List.getElem_mem hk')
  have hst : ss[g]? = some (.tup [.str st, ow, ho]) := by rw [List.getElem?_eq_getElem hk', e]
  have est : stOf ss g = st := by unfold stOf; rw [hst]
  refine ⟨_, (pss_cons (ps_if (pt_not (pt_val (C8.pe_c c__is_table hr (by first | decide | omega) rfl (pa_cons (pv 0) (pa_cons (pv 1) (pa_cons (C8.pe_gc rfl gR) pa_nil)))))) (pss_one (ps_ret pe_str)) pss_nil)
      (pss_cons (ps_if (pt_not (pt_val (C8.pe_c c__are_leaves_right hr (by first | decide | omega) rfl (pa_cons (pv 0) (pa_cons (pv 1) pa_nil))))) (pss_one (ps_ret pe_str)) pss_nil)
      (pss_one (ps_ret (C8.pe_c c__fault_of_pages hr (by first | decide | omega) rfl (pa_cons (pv 0) (pa_cons (pv 1) pa_nil))))))), ?_⟩
  refine ⟨_, rfl, _, rfl, p, fR, g, rootW, st, [ow, ho], a, ss, ws, ln, rfl, M, hg, .inl ⟨rfl, rfl⟩, hst, fun H1 s1 => ⟨_, rfl, ?_⟩⟩
  have et : (decide (st = "table") && (ws g).all rootW) = tabB ss ws g rootW := by unfold tabB; rw [est]
  rw [et]
  cases c1 : tabB ss ws g rootW with
  | false =>
    have q1 := q H1 s1
    simp only [faultD, c1, if_true] at q1
    exact bT rfl q1
  | true =>
  refine bF rfl ?_
  unfold tNext
  dsimp only
  have hroot : (ws g).all rootW = true := by
    unfold tabB at c1
    rw [Bool.and_eq_true] at c1
    exact c1.2
  refine ⟨_, rfl, _, rfl, p, g, a, ss, ws, ln, rfl, M.same s1, hg, hso, hroot, fun H2 s2 => ⟨_, rfl, ?_⟩⟩
  have s12 := s1.trans s2
  cases c2 : leavesB ss ws (owOf ss g) (ws g) [g] with
  | false =>
    have q1 := q H2 s12
    simp only [faultD, c1, c2] at q1
    exact bT rfl q1
  | true =>
  refine bF rfl ?_
  dsimp only
  refine ⟨_, rfl, _, rfl, p, g, a, ss, ws, ln, rfl, M.same s12, hg, hso, map_entry c2, fun H3 s3 => ?_⟩
  have q1 := q H3 (s12.trans s3)
  simp only [faultD, c1, c2] at q1
  exact q1
end
end Hc

/-! .get of a written dict; a def known by another name -/
namespace Hr
open PySem PySem.Spec PyProof.Rows L2
/-- G.get(e), G a written dict at g -/
def tGetW (K : PySem.W.Frag) (g : Addr) (td ty : TE) : TE := fun σ H Q => td σ H fun x H1 => x = .ref g ∧ ty σ H1 fun y H2 => ∃ (z : Str) (r : Option Value), y = .str z ∧ PySem.W.nsIn K g z = some r ∧ (r = none → Q .non H2) ∧ ∀ u, r = some u → ∃ v, RelV v u ∧ Q v H2
theorem pe_getW {X : Cx} {g : Addr} {es : Array DictEntry} {n : Nat} {o e : Expr} {apos cpos : Pos} {td ty : TE} (D : KDict X.K X.w g es n) (ho : PE X o td) (he : PE X e ty) (m : M1 X o "get" apos e cpos := by constructor <;> rfl) : PE X (.Call (.Attribute o "get" apos) [e] [] cpos) (tGetW X.K g td ty) := by
  refine ⟨fun pins s σ H Q I h => wpAny_Call_method m.base m.few m.line PySem.F.plainAttrs_dict PySem.F.slot_dict_get PySem.F.type_dict_get (thn (ho.run pins s σ H _ I h) fun u s1 hh => ?_)⟩
  obtain ⟨x, H1, J, rx, ex, q1⟩ := hh
  subst ex
  cases rx
  refine ⟨kd_type D J, fun b q => ?_, ?_⟩
  · cases q
    exact ⟨_, J.kIn _ _ D.at_, rfl⟩
  rw [m.trees]
  refine Calls.callWith_builtin rfl (Calls.evalArgs_plain (Calls.spliced_cons (thn (he.run pins s1 σ H1 _ J q1) fun iv s2 hk => Calls.spliced_nil ?_)))
  obtain ⟨y, H2, J2, ry, z, r, ez, hr, hn, hs⟩ := hk
  subst ez
  obtain ⟨t, rfl⟩ := ry
  refine call_meetsIn PySem.F.slot_dict_get (kd_type D J2) PySem.F.entry_dict_get (PySem.F.args_dict_get_2 _ _) (meets_dict_get (PySem.strKind X.prog X.w) g (PySem.strKind_is X.prog X.w z t) D.low) ⟨_, PySem.W.mapOf_K (prog := X.prog) J2.kIn D.at_ D.lit, ?_⟩
  rw [PySem.W.find_K D.at_ hr]
  cases r with
  | none => exact ⟨.non, H2, J2.tok _, rfl, hn rfl⟩
  | some v0 =>
    obtain ⟨v, rv, q⟩ := hs v0 rfl
    exact ⟨v, H2, J2.tok _, rv, q⟩
/-- a call without arguments -/
theorem pe_c0 {X : Cx} {k j : Nat} {x : Str} {sp : Sp} {dvs : List V} {q1 q2 : Pos} (c : C8.Cal X.prog X.w X.K X.mg X.base k x sp dvs) (hr : Room j X.A) (hk : k ≤ j) (hg : Gl X x) (hdb : (x == ("__debug__" : Str)) = false := by decide) : PE X (.Call (.Name x q1) [] [] q2) (tCall sp dvs C8.E0 tNil) := by
  obtain ⟨f, fd, ps, ds, F, hm, kp, b, d⟩ := c.ex
  exact pe_call0 F (hr.mono hk) hg hm kp b d C8.pass0 hdb
/-- a def under another name -/
theorem calA {P : Program} {w : World} {K : PySem.W.Frag} {mg : Str → Option Value} {base : Heap} {x y qual : Str} {st : Stmt} {f : Addr} {fd : FuncData} {N ps : List Str} {ds : List Value} {dvs : List V} {k : Nat} {sp : Sp} (F : C8.Fun K x qual st f fd) (hm : mg y = some (.ref f)) (kp : PySem.W.keepIn K (.ref f) = true) (b : Binds K fd ps ds) (d : Vals dvs ds) (S : FnScope N ps (C8.fnScope st)) (len : ∀ vs H Q E, sp vs H Q E → vs.length = ps.length)
    (go : ∀ (cdv : Value) (A : Around) (outer : List Env) (s : Shared) (H : Hp) (vs : List V) (Q : VK) (E : XK), Room k (A.deeper (envOfC qual (C8.fnScope st) s.heap.objs.size f cdv)) → sp vs H Q E →
      ∃ t, PSs (cxOf C8.CX0 P w K mg base N qual (C8.fnScope st) f cdv A outer s H E).nox (C8.fnBody st) t ∧ t { nx := fun _ H' => Q .non H', rt := Q } (L2.start N vs) H) : C8.Cal P w K mg base (k + 1) y sp dvs :=
  ⟨f, fd, ps, ds, C8.fn0 F S len go, hm, kp, b, d⟩
end Hr

set_option maxHeartbeats 8000000
namespace Hc
open PySem PySem.Spec PyProof.Rows L2 Hr
theorem bum_keep {N C : Addr} {H H' : Hp} {p : Addr} {a : Ads} {ss : List D} {ws : Nat → List D} {ln : Nat} (M : MeR N C H p a ss ws ln) (b : Bum a H H') : Keep C H H' := by
  have cell : ∀ c ∈ a.cells, ∃ zs, H c = some (.lst zs) := fun c hc => by
    unfold Ads.cells at hc
    simp only [List.mem_cons] at hc
    rcases hc with rfl | rfl | rfl | hc
    · obtain ⟨sx, h, _⟩ := M.hs; exact ⟨_, h⟩
    · exact ⟨_, M.hw⟩
    · obtain ⟨lx, h, _⟩ := M.hl; exact ⟨_, h⟩
    · obtain ⟨k, hk⟩ := List.mem_iff_getElem?.mp hc
      obtain ⟨ys, hy, _⟩ := M.rw k c hk
      exact ⟨_, hy⟩
  exact ⟨fun x _ e => b x _ e (fun z => by obtain ⟨zs, h⟩ := cell x z; rw [h] at e; cases e), fun x _ _ e => b x _ e (fun z => by obtain ⟨zs, h⟩ := cell x z; rw [h] at e; cases e)⟩
theorem txl_st : ∀ s ∈ statesL, txl (.str s) := by
  have h : (statesL.all fun s => decide (s.length ≤ 100)) = true := by decide +kernel
  intro s hs
  have := List.all_eq_true.mp h s hs
  simp only [txl]
  exact Nat.le_trans (of_decide_eq_true this) (by decide)
def WOk (e : D) : Prop := okW 40 40 0 e = true ∧ Fit e ∧ cln e = true
def putW (ws : Nat → List D) (g : Nat) (ds : List D) : Nat → List D := fun k => if k = g then ds else ws k
def spPut (N C : Addr) : Sp := fun vs H Q _ => ∃ (p wl : Addr) (g : Nat) (st : Str) (xo : V) (o : D) (xs : List V) (ds : List D) (a : Ads) (ss : List D) (ws : Nat → List D) (ln : Nat) (s0 : Str) (o0 : D), vs = [.ref p, .int (g : Int), .ref wl, .str st, xo] ∧ MeR N C H p a ss ws ln ∧ g < 24 ∧ H wl = some (.lst xs) ∧ wl ∉ a.cells ∧ IsA C H xs ds ∧ ds.length = 4 ∧ (∀ e ∈ ds, WOk e) ∧ st ∈ statesL ∧ Is C H xo o ∧ (isNon o || belD o 24) = true ∧ ss[g]? = some (.tup [.str s0, o0, .non]) ∧ ln < 90000 ∧
  ∀ H', MeR N C H' p a (ss.set g (.tup [.str st, o, .non])) (putW ws g ds) (ln + 6) → Bum a H H' → Q .non H'
section
variable {P : Program} {w : World} {K : PySem.W.Frag} {mg : Str → Option Value} {base : Heap} {f : Addr} {fd : FuncData} {C N : Addr}
abbrev s__law_monitor : Stmt := top 59
theorem sc__law_monitor : FnScope [] [] (C8.fnScope s__law_monitor) := C8.fnScope_by (by decide +kernel)
theorem ok__law_monitor (F : C8.Def K mg "_law_monitor" s__law_monitor f fd) (b : Binds K fd [] []) (T : Txt K mg w C) : C8.Cal P w K mg base 1 "_law_monitor" (fun vs H Q _ => vs = [] ∧ ∀ a, H a = none → Q (.ref a) (upd H a (.tup [.str "monitor", .int 0]))) [] := by
  refine C8.cal0 F b .nil sc__law_monitor (fun vs H Q E h => ?_) (fun cdv A outer s H vs Q E hr h => ?_)
  · obtain ⟨rfl, _⟩ := h; rfl
  obtain ⟨rfl, q⟩ := h
  refine ⟨_, (pss_one (ps_ret (pe_tup (pa_cons pe_str (pa_cons pe_int pa_nil))))), ?_⟩
  exact ⟨(by show 2 ≤ sizeLine; decide), q⟩
abbrev s__law_put : Stmt := top 60
theorem sc__law_put : FnScope ["memory", "granule", "words", "state", "owner", "index"] ["memory", "granule", "words", "state", "owner"] (C8.fnScope s__law_put) := C8.fnScope_by (by decide +kernel)
theorem ok__law_put (F : C8.Def K mg "_law_put" s__law_put f fd) (b : Binds K fd ["memory", "granule", "words", "state", "owner"] []) (T : Txt K mg w C) (c__law_monitor : C8.Cal P w K mg base 1 "_law_monitor" (fun vs H Q _ => vs = [] ∧ ∀ a, H a = none → Q (.ref a) (upd H a (.tup [.str "monitor", .int 0]))) []) (m_access : C8.Met P w K mg base 6 N "access" (spMA N C) []) : C8.Cal P w K mg base 7 "_law_put" (spPut N C) [] := by
  refine C8.cal0 F b .nil sc__law_put (fun vs H Q E h => ?_) (fun cdv A outer s H vs Q E hr h => ?_)
  · obtain ⟨p, wl, g, st, xo, o, xs, ds, a, ss, ws, ln, s0, o0, rfl, _⟩ := h; rfl
  obtain ⟨p, wl, g, st, xo, o, xs, ds, a, ss, ws, ln, s0, o0, rfl, M, hg, hwl, ncw, hxs, hl4, hds, hst, hxo, hob, hs0, hln, q⟩ := h
  obtain ⟨dx, hp⟩ := M.ins
  refine ⟨_, (pss_cons (ps_expr (C8.pe_mt m_access hr (by first | decide | omega) (pv 0) (pa_cons (Hr.pe_c0 c__law_monitor hr (by first | decide | omega) rfl) (pa_cons (pe_tup (pa_cons pe_str (pa_cons (pv 1) pa_nil))) pa_nil))))
      (pss_cons (ps_for PassesOwn.never rfl (pi_range1 rfl T.z_range (pa_cons pe_int pa_nil)) (pg_name (i := 5) sc__law_put.nd rfl (Or.inl rfl))
      (pss_one (ps_expr (C8.pe_mt m_access hr (by first | decide | omega) (pv 0) (pa_cons (Hr.pe_c0 c__law_monitor hr (by first | decide | omega) rfl) (pa_cons (pe_tup (pa_cons pe_str (pa_cons (pv 1) (pa_cons (pv 5) (pa_cons (pe_ix ix_list (pv 2) (pv 5) (fun _ _ => rfl)) pa_nil))))) pa_nil))))))
      (pss_one (ps_expr (C8.pe_mt m_access hr (by first | decide | omega) (pv 0) (pa_cons (Hr.pe_c0 c__law_monitor hr (by first | decide | omega) rfl) (pa_cons (pe_tup (pa_cons pe_str (pa_cons (pv 1) (pa_cons (pv 3) (pa_cons (pv 4) pa_nil))))) pa_nil))))))), ?_⟩
  have s24 := M.s24
  refine ⟨_, rfl, p, dx, _, rfl, hp, rfl, rfl, fun ar har => ⟨_, rfl, (by show 2 ≤ sizeLine; decide), fun rr hrr => ?_⟩⟩
  have sA := same_new (o := .tup [.str "monitor", .int 0]) har
  have eA : (upd H ar (.tup [.str "monitor", .int 0])) ar = some (.tup [.str "monitor", .int 0]) := upd_same
  generalize upd H ar (.tup [.str "monitor", .int 0]) = H1 at *
  have sB := same_new (o := .tup [.str "hold", .int (g : Int)]) hrr
  have iB : Is C (upd H1 rr (.tup [.str "hold", .int (g : Int)])) (.ref rr) (.tup [.str "hold", .int (g : Int)]) := .tup upd_same (.cons (.str _) (.cons (.int _) .nil))
  have eA := sB _ _ eA
  have sAB := sA.trans sB
  generalize upd H1 rr (.tup [.str "hold", .int (g : Int)]) = H2 at *
  have fitI : ∀ i : Int, Fit (.int i) := fun i => ⟨by simp [sz], by simp only [txl]⟩
  have fG : belD (.int (g : Int)) 24 = true := by simp [belD]; omega
  refine ⟨p, ar, rr, .hold g, a, ss, ws, ln, rfl, M.same sAB, eA, iB, ⟨hg, s0, o0, hs0⟩, (by intro e he; simp [MOp.ds] at he; rw [he]; exact fitI _), (by simp [MOp.ds, MOp.fs, fitsD, fG]), by omega, fun H3 x M3 b3 => ?_⟩
  have e1 : MOp.ss ss (.hold g) = ss.set g (.tup [.str s0, o0, .int 0]) := by simp only [MOp.ss, hs0]
  rw [e1] at M3
  have kAB := Keep.of (C := C) sAB
  have k3 := bum_keep (M.same sAB) b3
  have hwl3 := b3 _ _ (sAB _ _ hwl) ncw
  have hcd : clnL ds = true := clnL_iff.mpr fun e he => (hds e he).2.2
  have hco : cln o = true := by cases o <;> first | rfl | (simp [isNon, belD] at hob; done)
  have hxs3 := IsA.keep k3 hcd (hxs.same sAB)
  have hxo3 := Is.keep k3 hco (hxo.same sAB)
  have B3 := (Bum.of (a := a) sAB).trans b3
  clear eA iB sA sB har hrr
  have w4 : (ws g).length = 4 := by
    obtain ⟨r0, hr0⟩ : ∃ r0, a.rows[g]? = some r0 := ⟨_, List.getElem?_eq_getElem (by rw [M.r24]; exact hg)⟩
    obtain ⟨_, _, _, l4⟩ := M.rw g r0 hr0
    exact l4
  have hxl := hxs.len
  have e0 : putW ws g (ds.take 0 ++ (ws g).drop 0) = ws := funext fun k => by
    unfold putW
    by_cases c : k = g
    · rw [if_pos c, c]; rfl
    · rw [if_neg c]
  refine ⟨4, rfl, by decide, by decide, for_it (walk_range (lo := 0) (n := 4)) (fun i σ H' => ∃ v5, σ = [some (.ref p), some (.int (g : Int)), some (.ref wl), some (.str st), some xo, v5] ∧ MeR N C H' p a (ss.set g (.tup [.str s0, o0, .int 0])) (putW ws g (ds.take i ++ (ws g).drop i)) (ln + 1 + i) ∧ Bum a H H' ∧ H' wl = some (.lst xs) ∧ IsA C H' xs ds ∧ Is C H' xo o) ⟨none, rfl, by rw [e0]; exact M3, B3, hwl3, hxs3, hxo3⟩ (fun _ _ _ _ _ => trivial) ?_ ?_⟩
  · rintro i y σ H4x H4 hi ⟨v5, rfl, M4, B4, hwl4, hxs4, hxo4⟩ ⟨rfl, rfl⟩
    simp only [Int.zero_add]
    obtain ⟨dx4, hp4⟩ := M4.ins
    have hi2 : i < xs.length := by omega
    have hv := List.getElem?_eq_getElem hi2
    obtain ⟨e, he, ie⟩ := hxs4.at hv
    have hem := List.mem_of_getElem? he
    obtain ⟨w1, w2, w3⟩ := hds e hem
    generalize xs[i] = v at hv ie
    refine ⟨_, rfl, p, dx4, _, rfl, hp4, rfl, rfl, fun ar har => ⟨_, rfl, _, rfl, _, rfl, _, rfl, wl, xs, (i : Int), _, rfl, rfl, SqL.of (same_new har _ _ hwl4), atI_nat hv, (by show 4 ≤ sizeLine; decide), fun rr hrr => ?_⟩⟩
    have sA := same_new (o := .tup [.str "monitor", .int 0]) har
    have eA : (upd H4 ar (.tup [.str "monitor", .int 0])) ar = some (.tup [.str "monitor", .int 0]) := upd_same
    generalize upd H4 ar (.tup [.str "monitor", .int 0]) = H5 at *
    have sB := same_new (o := .tup [.str "write", .int (g : Int), .int (i : Int), v]) hrr
    have iB : Is C (upd H5 rr (.tup [.str "write", .int (g : Int), .int (i : Int), v])) (.ref rr) (.tup [.str "write", .int (g : Int), .int (i : Int), e]) := .tup upd_same (.cons (.str _) (.cons (.int _) (.cons (.int _) (.cons (ie.same (sA.trans sB)) .nil))))
    have eA := sB _ _ eA
    have sAB := sA.trans sB
    generalize upd H5 rr (.tup [.str "write", .int (g : Int), .int (i : Int), v]) = H6 at *
    have fI : belD (.int (i : Int)) 4 = true := by simp [belD]; omega
    refine ⟨p, ar, rr, .write g i e, a, _, _, ln + 1 + i, rfl, M4.same sAB, eA, iB, ⟨hg, hi, w3⟩, (by intro u hu; simp [MOp.ds] at hu; rcases hu with rfl | rfl | rfl; exact fitI _; exact fitI _; exact w2), ?_, by omega, fun H7 x M7 b7 => ?_⟩
    · have : fitsD e "word" = okW 40 40 0 e := by
        unfold fitsD
        rw [if_neg (by decide +kernel), if_neg (by decide +kernel), if_neg (by decide +kernel), if_neg (by decide +kernel), if_neg (by decide +kernel), if_neg (by decide +kernel)]
      have f2 : fitsD (.int (i : Int)) "index" = true := by
        unfold fitsD
        rw [if_neg (by decide +kernel), if_neg (by decide +kernel), if_pos rfl]; exact fI
      have f1 : fitsD (.int (g : Int)) "granule" = true := by unfold fitsD; rw [if_pos rfl]; exact fG
      simp [MOp.ds, MOp.fs, f1, f2, this, w1]
    · have k7 := bum_keep (M4.same sAB) b7
      have ew : MOp.ws (putW ws g (ds.take i ++ (ws g).drop i)) (.write g i e) = putW ws g (ds.take (i + 1) ++ (ws g).drop (i + 1)) := funext fun k => by
        simp only [MOp.ws, putW]
        by_cases c : k = g
        · subst c
          simp only [if_true]
          have hi3 : i < ds.length := by omega
          have hde : ds[i] = e := by rw [List.getElem?_eq_getElem hi3] at he; exact Option.some.inj he
          rw [List.set_append_right _ _ (by rw [List.length_take]; omega), List.length_take, Nat.min_eq_left (by omega), Nat.sub_self, List.drop_eq_getElem_cons (by omega), List.set_cons_zero, List.take_succ_eq_append_getElem hi3, hde, List.append_assoc]
          rfl
        · simp only [if_neg c]
      rw [ew] at M7
      exact ⟨_, rfl, M7, (B4.trans (Bum.of sAB)).trans b7, b7 _ _ (sAB _ _ hwl4) ncw, IsA.keep k7 hcd (hxs4.same sAB), Is.keep k7 hco (hxo4.same sAB)⟩
  · rintro σ H4 ⟨v5, rfl, M4, B4, hwl4, hxs4, hxo4⟩
    obtain ⟨dx4, hp4⟩ := M4.ins
    have e4 : ds.take 4 ++ (ws g).drop 4 = ds := by rw [List.take_of_length_le (by omega), List.drop_eq_nil_of_le (by omega), List.append_nil]
    rw [e4] at M4
    refine ⟨_, rfl, p, dx4, _, rfl, hp4, rfl, rfl, fun ar har => ⟨_, rfl, _, rfl, _, rfl, (by show 4 ≤ sizeLine; decide), fun rr hrr => ?_⟩⟩
    have sA := same_new (o := .tup [.str "monitor", .int 0]) har
    have eA : (upd H4 ar (.tup [.str "monitor", .int 0])) ar = some (.tup [.str "monitor", .int 0]) := upd_same
    generalize upd H4 ar (.tup [.str "monitor", .int 0]) = H5 at *
    have sB := same_new (o := .tup [.str "leave", .int (g : Int), .str st, xo]) hrr
    have iB : Is C (upd H5 rr (.tup [.str "leave", .int (g : Int), .str st, xo])) (.ref rr) (.tup [.str "leave", .int (g : Int), .str st, o]) := .tup upd_same (.cons (.str _) (.cons (.int _) (.cons (.str _) (.cons (hxo4.same (sA.trans sB)) .nil))))
    have eA := sB _ _ eA
    have sAB := sA.trans sB
    generalize upd H5 rr (.tup [.str "leave", .int (g : Int), .str st, xo]) = H6 at *
    have fO : Fit o := by
      have : o = .non ∨ ∃ i, o = .int i := by
        cases o with
        | non => exact .inl rfl
        | int i => exact .inr ⟨i, rfl⟩
        | _ => simp [isNon, belD] at hob
      rcases this with rfl | ⟨i, rfl⟩
      · exact ⟨by simp [sz], by simp only [txl]⟩
      · exact fitI i
    have fS : Fit (.str st) := ⟨by simp [sz], txl_st st hst⟩
    have f1 : fitsD (.int (g : Int)) "granule" = true := by unfold fitsD; rw [if_pos rfl]; exact fG
    have f2 : fitsD (.str st) "state" = true := by
      unfold fitsD
      rw [if_neg (by decide +kernel), if_neg (by decide +kernel), if_neg (by decide +kernel), if_neg (by decide +kernel), if_neg (by decide +kernel), if_pos rfl]
      exact List.any_eq_true.mpr ⟨st, hst, decide_eq_true rfl⟩
    have f3 : fitsD o "owner" = true := by
      unfold fitsD
      rw [if_neg (by decide +kernel), if_pos rfl]; exact hob
    refine ⟨p, ar, rr, .leave g st o, a, _, _, ln + 1 + 4, rfl, M4.same sAB, eA, iB, ⟨hg, hco⟩, (by intro u hu; simp [MOp.ds] at hu; rcases hu with rfl | rfl | rfl; exact fitI _; exact fS; exact fO), (by simp [MOp.ds, MOp.fs, f1, f2, f3]), by omega, fun H7 x M7 b7 => ?_⟩
    have es : MOp.ss (ss.set g (.tup [.str s0, o0, .int 0])) (.leave g st o) = ss.set g (.tup [.str st, o, .non]) := by simp only [MOp.ss, List.set_set]
    rw [es] at M7
    exact q H7 M7 ((B4.trans (Bum.of sAB)).trans b7)
end
end Hc

namespace Hc
open PySem PySem.Spec PyProof.Rows L2 Hr
section
variable {X : Cx}
/-- xs[i] of a list, by values, for xs[i] op= e -/
def rGetL (K : PySem.W.Frag) : V → V → Hp → VK → Prop := fun x y H Q => ∃ p xs j v, x = .ref p ∧ y = .int ((j : Nat) : Int) ∧ SqL K H p xs ∧ xs[j]? = some v ∧ Q v H
theorem pget_list : PGet X (rGetL X.K) := by
  intro pins s σ H o i ov iv Q I ro ri h
  obtain ⟨p, xs, j, v, rfl, rfl, hq, he, q⟩ := h
  cases ro
  obtain ⟨t, rfl⟩ := ri
  obtain ⟨its, r, pl, hz⟩ := I.list hq
  obtain ⟨w, ew, rw'⟩ := r.get he
  have hj := (List.getElem?_eq_some_iff.mp he).1
  have hn := line63
  exact wpAny_getItem_list pl.isList (by omega) (by omega) (by simpa using ew) ⟨v, H, I, rw', q⟩

end
/-- the tape at p: the script's ints at s, a place in them, what is left of a number, a number -/
def TapeIs (H : Hp) (p s : Addr) (ns : List Int) (pos : Nat) (rest mix : Int) : Prop :=
  H p = some (.lst [.ref s, .int (pos : Int), .int rest, .int mix]) ∧ H s = some (.lst (ns.map V.int)) ∧ p ≠ s ∧ pos ≤ ns.length
def Tape (H : Hp) (p s : Addr) : Prop := ∃ ns pos rest mix, TapeIs H p s ns pos rest mix
theorem Tape.s {H : Hp} {p s : Addr} (t : Tape H p s) : ∃ ns : List Int, H s = some (.lst (ns.map V.int)) := by
  obtain ⟨ns, pos, rest, mix, _, h2, _⟩ := t
  exact ⟨ns, h2⟩
theorem Tape.put {H : Hp} {p s l : Addr} {o : HO} (t : Tape H p s) (h1 : l ≠ p) (h2 : l ≠ s) : Tape (L2.upd H l o) p s := by
  obtain ⟨ns, pos, rest, mix, a1, a2, a3, a4⟩ := t
  exact ⟨ns, pos, rest, mix, by rw [upd_ne h1.symm]; exact a1, by rw [upd_ne h2.symm]; exact a2, a3, a4⟩
/-- all but p is as it was -/
def Off (p : Addr) (H H' : Hp) : Prop := ∀ b o, H b = some o → b ≠ p → H' b = some o
theorem Off.refl (p : Addr) (H : Hp) : Off p H H := fun _ _ h _ => h
theorem Off.trans {p : Addr} {H H1 H2 : Hp} (a : Off p H H1) (b : Off p H1 H2) : Off p H H2 := fun c o h n => b c o (a c o h n) n
theorem Off.upd {p : Addr} {H H1 : Hp} {o : HO} (a : Off p H H1) : Off p H (upd H1 p o) := fun c x h n => by rw [upd_ne n]; exact a c x h n
theorem Off.new {p q : Addr} {H : Hp} {o : HO} (h : H q = none) : Off p H (L2.upd H q o) := fun c x e n => by rw [upd_ne (ne_of_none e h)]; exact e
theorem Same.off {p : Addr} {H H1 : Hp} (h : Same H H1) : Off p H H1 := fun c x e _ => h c x e
theorem Tape.same {H H1 : Hp} {p s : Addr} (t : Tape H p s) (h : Same H H1) : Tape H1 p s := by
  obtain ⟨ns, pos, rest, mix, h1, h2, h3, h4⟩ := t
  exact ⟨ns, pos, rest, mix, h _ _ h1, h _ _ h2, h3, h4⟩
theorem Tape.upd {H : Hp} {p s : Addr} {ns : List Int} {pos pos' : Nat} {rest mix rest' mix' : Int} (t : TapeIs H p s ns pos rest mix) (hp : pos' ≤ ns.length) : TapeIs (L2.upd H p (.lst [.ref s, .int (pos' : Int), .int rest', .int mix'])) p s ns pos' rest' mix' := by
  obtain ⟨h1, h2, h3, h4⟩ := t
  exact ⟨upd_same, by rw [upd_ne h3.symm]; exact h2, h3, hp⟩
theorem Tape.ne {H : Hp} {p s q : Addr} (t : Tape H p s) (h : H q = none) : q ≠ p := fun z => by
  obtain ⟨ns, pos, rest, mix, h1, _⟩ := t
  rw [z, h1] at h; cases h
def spNext : Sp := fun vs H Q _ => ∃ p s m, vs = [.ref p, .int m] ∧ Tape H p s ∧ 0 < m ∧ m < 2 ^ 60 ∧ ∀ H' r, Tape H' p s → Off p H H' → 0 ≤ r → r < m → Q (.int r) H'
section
variable {P : Program} {w : World} {K : PySem.W.Frag} {mg : Str → Option Value} {base : Heap} {f : Addr} {fd : FuncData} {C : Addr}
abbrev s__law_next : Stmt := top 58
theorem sc__law_next : FnScope ["tape", "many", "rest", "cell"] ["tape", "many"] (C8.fnScope s__law_next) := C8.fnScope_by (by decide +kernel)
theorem ok__law_next (F : C8.Def K mg "_law_next" s__law_next f fd) (b : Binds K fd ["tape", "many"] []) (T : Txt K mg w C) : C8.Cal P w K mg base 1 "_law_next" spNext [] := by
  refine C8.cal0 F b .nil sc__law_next (fun vs H Q E h => ?_) (fun cdv A outer s H vs Q E hr h => ?_)
  · obtain ⟨p, sa, m, rfl, _⟩ := h; rfl
  obtain ⟨p, sa, m, rfl, ⟨ns, pos, rest, mix, t⟩, hm, hm2, q⟩ := h
  refine ⟨_, (pss_cons (ps_set (i := 2) sc__law_next.nd rfl (Or.inl rfl) (pe_ix ix_list (pv 0) pe_int (fun _ _ => rfl)))
      (pss_cons (ps_if (pt_cmpR op_gt (pv 2) pe_int (nomark _)) (pss_cons (ps_asg (pe_op op_fdivW (pv 2) (pv 1)) (pg_sub (pv 0) pe_int set_list))
      (pss_one (ps_ret (pe_op op_mod (pe_callTy call_int1 rfl T.z_int bt_int (pa_cons (pv 2) pa_nil)) (pv 1))))) pss_nil)
      (pss_cons (ps_set (i := 3) sc__law_next.nd rfl (Or.inl rfl) pe_int)
      (C8.pss_cut (ps_if (pt_cmpR op_lt (pe_ix ix_list (pv 0) pe_int (fun _ _ => rfl)) (pe_callB call_lenS rfl T.z_len bt_len (pa_cons (pe_ix ix_list (pv 0) pe_int (fun _ _ => rfl)) pa_nil)) (nomark _)) (pss_cons (ps_set (i := 3) sc__law_next.nd rfl (Or.inl rfl) (pe_callB call_abs rfl T.z_abs bt_abs (pa_cons (pe_ix ix_list (pe_ix ix_list (pv 0) pe_int (fun _ _ => rfl)) (pe_ix ix_list (pv 0) pe_int (fun _ _ => rfl)) (fun _ _ => rfl)) pa_nil)))
      (pss_one (ps_augS (pv 0) pe_int pget_list pe_int ip_add set_list))) pss_nil)
      (pss_cons (ps_if (pt_cmpR op_ge (pv 3) (pe_op op_pow pe_int pe_int) (nomark _)) (pss_cons (ps_asg (pe_op op_fdivW (pv 3) (pv 1)) (pg_sub (pv 0) pe_int set_list))
      (pss_one (ps_ret (pe_op op_mod (pe_callTy call_int1 rfl T.z_int bt_int (pa_cons (pv 3) pa_nil)) (pv 1))))) pss_nil)
      (pss_cons (ps_asg (pe_op op_mod (pe_callTy call_int1 rfl T.z_int bt_int (pa_cons (pe_op op_add (pe_op op_add (pe_op op_mul (pe_ix ix_list (pv 0) pe_int (fun _ _ => rfl)) pe_int) (pe_op op_mul (pv 3) pe_int)) pe_int) pa_nil)) pe_int) (pg_sub (pv 0) pe_int set_list))
      (pss_one (ps_ret (pe_op op_mod (pe_callTy call_int1 rfl T.z_int bt_int (pa_cons (pe_op op_fdiv (pe_op op_mod (pe_op op_mul (pe_ix ix_list (pv 0) pe_int (fun _ _ => rfl)) pe_int) pe_int) pe_int) pa_nil)) (pv 1)))))))))), ?_⟩
  obtain ⟨hp, hs, hne, hpos⟩ := id t
  refine ⟨_, rfl, p, _, 2, _, rfl, rfl, SqL.of hp, atI_nat (j := 2) rfl, ?_⟩
  refine ⟨_, rfl, _, _, rfl, rfl, _, rfl, ite2 (fun c => ?_) (fun c => ?_)⟩
  · refine ⟨_, rfl, _, rfl, _, _, rfl, rfl, wide_div hm (b := 60) (by have := hm2; omega) (by decide) (by decide), _, rfl, p, _, 2, 2, rfl, rfl, hp, rfl, ?_⟩
    refine ⟨_, rfl, .inl ⟨_, rfl, _, rfl, _, _, rfl, rfl, hm, ?_⟩⟩
    exact q _ _ ⟨ns, pos, _, mix, Tape.upd t hpos⟩ (Off.upd (Off.refl p H)) (Int.emod_nonneg _ (by omega)) (Int.emod_lt_of_pos _ hm)
  refine ⟨fun σ' H' => ∃ cell pos', σ' = [some (.ref p), some (.int m), some (.int rest), some (.int cell)] ∧ TapeIs H' p sa ns pos' rest mix ∧ Off p H H', ?_, ?_⟩
  · refine ⟨_, rfl, p, _, 1, _, rfl, rfl, SqL.of hp, atI_nat (j := 1) rfl, _, rfl, p, _, 0, _, rfl, rfl, SqL.of hp, atI_nat (j := 0) rfl, sa, _, rfl, .inl (SqL.of hs), _, _, rfl, rfl, _, rfl, ite2 (fun c1 => ?_) (fun c1 => ?_)⟩
    · have c2 : (pos : Int) < ((ns.map V.int).length : Int) := of_decide_eq_true c1
      rw [List.length_map] at c2
      have c3 : pos < ns.length := by omega
      have hz : (ns.map V.int)[pos]? = some (.int ns[pos]) := by rw [List.getElem?_map, List.getElem?_eq_getElem c3]; rfl
      refine ⟨_, rfl, p, _, 0, _, rfl, rfl, SqL.of hp, atI_nat (j := 0) rfl, _, rfl, p, _, 1, _, rfl, rfl, SqL.of hp, atI_nat (j := 1) rfl, sa, _, _, _, rfl, rfl, SqL.of hs, atI_nat hz, _, rfl, ?_⟩
      refine ⟨_, rfl, p, _, 1, _, rfl, rfl, SqL.of hp, rfl, _, _, rfl, rfl, p, _, 1, 1, rfl, rfl, hp, rfl, ?_⟩
      exact ⟨_, pos + 1, rfl, Tape.upd (pos' := pos + 1) (rest' := rest) (mix' := mix) t c3, Off.upd (Off.refl p H)⟩
    · exact ⟨0, pos, rfl, t, Off.refl p H⟩
  rintro σ' H' ⟨cell, pos', rfl, t', off⟩
  obtain ⟨hp', hs', hne', hpos'⟩ := id t'
  refine ⟨_, rfl, _, _, rfl, rfl, ⟨by decide, by decide, by decide⟩, _, _, rfl, rfl, _, rfl, ite2 (fun c => ?_) (fun c => ?_)⟩
  · refine ⟨_, rfl, _, rfl, _, _, rfl, rfl, wide_div hm (b := 60) (by have := hm2; omega) (by decide) (by decide), _, rfl, p, _, 2, 2, rfl, rfl, hp', rfl, ?_⟩
    refine ⟨_, rfl, .inl ⟨_, rfl, _, rfl, _, _, rfl, rfl, hm, ?_⟩⟩
    exact q _ _ ⟨ns, pos', _, mix, Tape.upd t' hpos'⟩ (Off.upd off) (Int.emod_nonneg _ (by omega)) (Int.emod_lt_of_pos _ hm)
  · refine ⟨_, rfl, p, _, 3, _, rfl, rfl, SqL.of hp', atI_nat (j := 3) rfl, _, _, rfl, rfl, .inr ⟨by decide, by decide⟩, _, rfl, _, _, rfl, rfl, .inr ⟨by decide, by decide⟩, _, _, rfl, rfl, _, _, rfl, rfl, .inl ⟨_, rfl, _, _, rfl, rfl, (by show (0 : Int) < 2147483647; decide), _, rfl, p, _, 3, 3, rfl, rfl, hp', rfl, ?_⟩⟩
    refine ⟨_, rfl, p, _, 3, _, rfl, rfl, SqL.of upd_same, atI_nat (j := 3) rfl, _, _, rfl, rfl, .inr ⟨by decide, by decide⟩, _, _, rfl, rfl, (by show (0 : Int) < 2147483647; decide), _, _, rfl, rfl, ⟨by decide, by decide⟩, .inl ⟨_, rfl, _, rfl, _, _, rfl, rfl, hm, ?_⟩⟩
    exact q _ _ ⟨ns, pos', rest, _, Tape.upd t' hpos'⟩ (Off.upd off) (Int.emod_nonneg _ (by omega)) (Int.emod_lt_of_pos _ hm)
end
end Hc

set_option maxHeartbeats 8000000
namespace Hc
open PySem PySem.Spec PyProof.Rows L2 Hr
mutual
def txb : D → Bool
  | .tup ds => txbL ds
  | .lst ds => txbL ds
  | .atom _ ds => txbL ds
  | .str s => decide (s.length ≤ 100)
  | _ => true
def txbL : List D → Bool
  | [] => true
  | d :: ds => txb d && txbL ds
end
mutual
theorem txb_txl : ∀ {d : D}, txb d = true → txl d
  | .tup ds, h => by simp only [txl]; exact txbL_txl (by simpa [txb] using h)
  | .lst ds, h => by simp only [txl]; exact txbL_txl (by simpa [txb] using h)
  | .atom _ ds, h => by simp only [txl]; exact txbL_txl (by simpa [txb] using h)
  | .str s, h => by
    simp only [txb, decide_eq_true_eq] at h
    simp only [txl]; exact Nat.le_trans h (by decide)
  | .non, _ => by simp only [txl]
  | .bl _, _ => by simp only [txl]
  | .int _, _ => by simp only [txl]
  | .dct, _ => by simp only [txl]
theorem txbL_txl : ∀ {ds : List D}, txbL ds = true → txlL ds
  | [], _ => by simp only [txlL]
  | d :: ds, h => by
    simp only [txbL, Bool.and_eq_true] at h
    simp only [txlL]; exact ⟨txb_txl h.1, txbL_txl h.2⟩
end
def isBl : D → Bool | .bl _ => true | _ => false
def isIn : D → Bool | .int _ => true | .bl _ => true | _ => false
def isSt : D → Bool | .str _ => true | _ => false
def isTu : D → Bool | .tup _ => true | _ => false
/-- the words that the law writes -/
def strs3 : List Str := ["x", "no", "destroyed"]
def kinds4 : List Str := ["out", "data", "shared", "table"]
inductive Wsh : D → Prop
  | non : Wsh .non
  | int (i : Nat) (h : i < 8) : Wsh (.int (i : Int))
  | str (s : Str) (h : s ∈ strs3) : Wsh (.str s)
  | pr : Wsh (.tup [.int 1, .int 2])
  | two (k : Str) (g : Nat) (hk : k ∈ kinds4) (hg : g < 24) : Wsh (.tup [.str k, .int (g : Int)])
  | lv (g : Nat) (e : D) (hg : g < 24) (he : e = .non ∨ ∃ i : Nat, i < 5 ∧ e = .int (i : Int)) : Wsh (.tup [.str "leaving", .int (g : Int), e])
def poolL : List D := .non :: .tup [.int 1, .int 2] :: ((List.range 8).map fun i => D.int ((i : Nat) : Int)) ++ strs3.map D.str ++ (kinds4.flatMap fun k => (List.range 24).map fun g => .tup [.str k, .int ((g : Nat) : Int)]) ++ ((List.range 24).flatMap fun g => .tup [.str "leaving", .int ((g : Nat) : Int), .non] :: (List.range 5).map fun i => .tup [.str "leaving", .int ((g : Nat) : Int), .int ((i : Nat) : Int)])
theorem Wsh.pool {d : D} (h : Wsh d) : d ∈ poolL := by
  unfold poolL
  simp only [List.mem_cons, List.mem_append, List.mem_map, List.mem_flatMap, List.mem_range]
  cases h with
  | non => exact .inl (.inl (.inl (.inl rfl)))
  | int i h => exact .inl (.inl (.inl (.inr (.inr ⟨i, h, rfl⟩))))
  | str s h => exact .inl (.inl (.inr ⟨s, h, rfl⟩))
  | pr => exact .inl (.inl (.inl (.inr (.inl rfl))))
  | two k g hk hg => exact .inl (.inr ⟨k, hk, g, hg, rfl⟩)
  | lv g e hg he =>
    rcases he with rfl | ⟨i, hi, rfl⟩
    · exact .inr ⟨g, hg, .inl rfl⟩
    · exact .inr ⟨g, hg, .inr ⟨i, hi, rfl⟩⟩
theorem Wsh.all {f : D → Bool} (h : poolL.all f = true) {d : D} (w : Wsh d) : f d = true := List.all_eq_true.mp h d w.pool
def inKs (ks : List Str) (k : Str) : Bool := ks.any fun z => decide (k = z)
def lawF (ks : List Str) (d : D) : Bool := match d with
  | .non => true
  | .tup [.str k, .int g] => if k = "out" then inKs ks "data" && decide (0 < g) else (decide (0 ≤ g) && decide (g < 24)) && inKs ks k
  | .tup [.str _, .int g, e] => (decide (0 ≤ g) && decide (g < 24)) && (isNon e || match e with | .int i => decide (1 ≤ i) | _ => false)
  | _ => false
def isDes (d : D) : Bool := match d with | .str s => decide (s = "destroyed") | _ => false
theorem lawF_root {d : D} (w : Wsh d) : lawF ["table"] d = rootW d := by
  have := Wsh.all (f := fun d => lawF ["table"] d == rootW d) (by decide +kernel) w
  exact eq_of_beq this
theorem lawF_entry {d : D} (w : Wsh d) : (isDes d || lawF ["data", "shared"] d) = entryW d := by
  have := Wsh.all (f := fun d => (isDes d || lawF ["data", "shared"] d) == entryW d) (by decide +kernel) w
  exact eq_of_beq this
theorem Wsh.ok {d : D} (w : Wsh d) : WOk d := by
  have := Wsh.all (f := fun d => okW 40 40 0 d && (decide (sz d ≤ 1000) && txb d) && cln d) (by decide +kernel) w
  simp only [Bool.and_eq_true, decide_eq_true_eq] at this
  exact ⟨this.1.1, ⟨Nat.le_trans this.1.2.1 (by decide), txb_txl this.1.2.2⟩, this.2⟩
theorem inV_txts (k : Str) (zs : List Str) : inV (.str k) (zs.map V.str) = inKs zs k := by
  show ((zs.map V.str).any fun y => eqV y (.str k)) = _
  unfold inKs
  rw [List.any_map]
  refine congrArg (List.any zs) (funext fun z => ?_)
  show eqV (.str z) (.str k) = decide (k = z)
  simp only [eqV]
  by_cases h : z = k
  · subst h; simp
  · rw [decide_eq_false (fun y => h y.symm)]; exact beq_eq_false_iff_ne.mpr (fun y => h (by first | exact y | exact y.symm))
def spLGr (C : Addr) : Sp := fun vs H Q _ => ∃ i : Int, vs = [.int i] ∧ Q (.bl (decide (0 ≤ i) && decide (i < 24))) H
def spLFo (C : Addr) : Sp := fun vs H Q _ => ∃ x d l ks, vs = [x, .ref l] ∧ Is C H x d ∧ Wsh d ∧ H l = some (.lst (ks.map V.str)) ∧ Q (.bl (lawF ks d)) H
def spLSt (N C : Addr) : Sp := fun vs H Q _ => ∃ (p : Addr) (g : Nat) (st : Str) (yo : V) (ow : D) (a : Ads) (ss : List D) (ws : Nat → List D) (ln : Nat), vs = [.ref p, .int (g : Int), .str st, yo] ∧ MeR N C H p a ss ws ln ∧ g < 24 ∧ StOk ss ∧ st ∈ statesL ∧ Is C H yo ow ∧ (ow = .non ∨ ∃ i, ow = .int i) ∧ ∀ H', Same H H' → Q (.bl (decide (stOf ss g = st) && eqO (owOf ss g) ow)) H'
section
variable {P : Program} {w : World} {K : PySem.W.Frag} {mg : Str → Option Value} {base : Heap} {f : Addr} {fd : FuncData} {C N : Addr}
theorem kitBo (T : Txt K mg w C) (d : D) : PySem.W.kitOne K (kyU C d) (.type "bool") = some (isBl d) := by rw [T.kit d "bool" (by simp)]; cases d <;> simp [isBl]
theorem kitIn (T : Txt K mg w C) (d : D) : PySem.W.kitOne K (kyU C d) (.type "int") = some (isIn d) := by rw [T.kit d "int" (by simp)]; cases d <;> simp [isIn]
theorem kitSt (T : Txt K mg w C) (d : D) : PySem.W.kitOne K (kyU C d) (.type "str") = some (isSt d) := by rw [T.kit d "str" (by simp)]; cases d <;> simp [isSt]
theorem kitTu (T : Txt K mg w C) (d : D) : PySem.W.kitOne K (kyU C d) (.type "tuple") = some (isTu d) := by rw [T.kit d "tuple" (by simp)]; cases d <;> simp [isTu]
abbrev s__law_granule : Stmt := top 64
theorem sc__law_granule : FnScope ["value"] ["value"] (C8.fnScope s__law_granule) := C8.fnScope_by (by decide +kernel)
theorem ok__law_granule (F : C8.Def K mg "_law_granule" s__law_granule f fd) (b : Binds K fd ["value"] []) (T : Txt K mg w C) : C8.Cal P w K mg base 1 "_law_granule" (spLGr C) [] := by
  refine C8.cal0 F b .nil sc__law_granule (fun vs H Q E h => ?_) (fun cdv A outer s H vs Q E hr h => ?_)
  · obtain ⟨i, rfl, _⟩ := h; rfl
  obtain ⟨i, rfl, q⟩ := h
  refine ⟨_, (pss_one (ps_ret (pe_and (pe_callB (call_isiA T.cl) rfl T.z_isinstance bt_isinstance (pa_cons (pv 0) (pa_cons (pe_bltn (v := .ty "int") rfl T.z_int bt_int rfl) pa_nil))) (pe_and (pe_not (pe_callB (call_isiA T.cl) rfl T.z_isinstance bt_isinstance (pa_cons (pv 0) (pa_cons (pe_bltn (v := .ty "bool") rfl T.z_bool bt_bool rfl) pa_nil)))) (pe_one (pe_chain op_le op_lt pe_int (pv 0) pe_int)))))), ?_⟩
  refine ⟨_, rfl, _, .int i, _, _, _, rfl, .int i, .ty _, kitIn T _, _, rfl, bT rfl ?_⟩
  refine ⟨_, rfl, _, .int i, _, _, _, rfl, .int i, .ty _, kitBo T _, _, rfl, _, rfl, bT rfl ?_⟩
  refine ⟨_, rfl, _, _, rfl, rfl, _, rfl, ite2 (fun c => ?_) (fun c => ?_)⟩
  · refine ⟨_, _, rfl, rfl, ?_⟩
    rw [show decide (0 ≤ i) = true from c, Bool.true_and] at q
    exact q
  · rw [show decide (0 ≤ i) = false by simpa using c, Bool.false_and] at q
    exact q
abbrev s__law_form : Stmt := top 65
theorem sc__law_form : FnScope ["word", "kinds"] ["word", "kinds"] (C8.fnScope s__law_form) := C8.fnScope_by (by decide +kernel)
theorem ok__law_form (F : C8.Def K mg "_law_form" s__law_form f fd) (b : Binds K fd ["word", "kinds"] []) (T : Txt K mg w C) (c__law_granule : C8.Cal P w K mg base 1 "_law_granule" (spLGr C) []) : C8.Cal P w K mg base 2 "_law_form" (spLFo C) [] := by
  refine C8.cal0 F b .nil sc__law_form (fun vs H Q E h => ?_) (fun cdv A outer s H vs Q E hr h => ?_)
  · obtain ⟨x, d, l, ks, rfl, _⟩ := h; rfl
  obtain ⟨x, d, l, ks, rfl, hx, hw, hl, q⟩ := h
  refine ⟨_, (pss_cons (ps_if (pt_cmpR op_isN (pv 0) pe_non (nomark _)) (pss_one (ps_ret pe_bl)) pss_nil)
      (pss_cons (ps_if (PW.pt (pw_and (pt_val (pe_callB (call_isiA T.cl) rfl T.z_isinstance bt_isinstance (pa_cons (pv 0) (pa_cons (pe_bltn (v := .ty "tuple") rfl T.z_tuple bt_tuple rfl) pa_nil)))) (pw_and (pt_cmpR op_eq (pe_callB call_lenS rfl T.z_len bt_len (pa_cons (pv 0) pa_nil)) pe_int (nomark _)) (pw_and (pt_val (pe_callB (call_isiA T.cl) rfl T.z_isinstance bt_isinstance (pa_cons (pe_ix ix_tup (pv 0) pe_int (fun _ _ => rfl)) (pa_cons (pe_bltn (v := .ty "str") rfl T.z_str bt_str rfl) pa_nil)))) (pw_and1 (pt_cmpR op_eq (pe_ix ix_tup (pv 0) pe_int (fun _ _ => rfl)) pe_str (nomark _))))))) (pss_one (ps_ret (pe_and (pe_cmpR op_in_seq pe_str (pv 1) (by with_unfolding_all rfl)) (pe_and (pe_callB (call_isiA T.cl) rfl T.z_isinstance bt_isinstance (pa_cons (pe_ix ix_tup (pv 0) pe_int (fun _ _ => rfl)) (pa_cons (pe_bltn (v := .ty "int") rfl T.z_int bt_int rfl) pa_nil))) (pe_one (pe_cmpR op_gt (pe_ix ix_tup (pv 0) pe_int (fun _ _ => rfl)) pe_int (nomark _))))))) pss_nil)
      (pss_cons (ps_if (PW.pt (pw_or (pt_not (pt_val (pe_callB (call_isiA T.cl) rfl T.z_isinstance bt_isinstance (pa_cons (pv 0) (pa_cons (pe_bltn (v := .ty "tuple") rfl T.z_tuple bt_tuple rfl) pa_nil))))) (pw_or (pt_cmpR op_lt (pe_callB call_lenS rfl T.z_len bt_len (pa_cons (pv 0) pa_nil)) pe_int (nomark _)) (pw_or (pt_not (pt_val (pe_callB (call_isiA T.cl) rfl T.z_isinstance bt_isinstance (pa_cons (pe_ix ix_tup (pv 0) pe_int (fun _ _ => rfl)) (pa_cons (pe_bltn (v := .ty "str") rfl T.z_str bt_str rfl) pa_nil))))) (pw_or1 (pt_not (pt_val (C8.pe_c c__law_granule hr (by first | decide | omega) rfl (pa_cons (pe_ix ix_tup (pv 0) pe_int (fun _ _ => rfl)) pa_nil))))))))) (pss_one (ps_ret pe_bl)) pss_nil)
      (pss_cons (ps_if (pt_cmpR op_eq (pe_ix ix_tup (pv 0) pe_int (fun _ _ => rfl)) pe_str (nomark _)) (pss_one (ps_ret (pe_and (pe_cmpR op_eq (pe_callB call_lenS rfl T.z_len bt_len (pa_cons (pv 0) pa_nil)) pe_int (nomark _)) (pe_one (pe_or (pe_cmpR op_isN (pe_ix ix_tup (pv 0) pe_int (fun _ _ => rfl)) pe_non (nomark _)) (pe_one (pe_and (pe_callB (call_isiA T.cl) rfl T.z_isinstance bt_isinstance (pa_cons (pe_ix ix_tup (pv 0) pe_int (fun _ _ => rfl)) (pa_cons (pe_bltn (v := .ty "int") rfl T.z_int bt_int rfl) pa_nil))) (pe_one (pe_cmpR op_ge (pe_ix ix_tup (pv 0) pe_int (fun _ _ => rfl)) pe_int (nomark _)))))))))) pss_nil)
      (pss_one (ps_ret (pe_and (pe_cmpR op_eq (pe_callB call_lenS rfl T.z_len bt_len (pa_cons (pv 0) pa_nil)) pe_int (nomark _)) (pe_one (pe_cmpR op_in_seq (pe_ix ix_tup (pv 0) pe_int (fun _ _ => rfl)) (pv 1) (by with_unfolding_all rfl)))))))))), ?_⟩
  refine ⟨_, rfl, rfl, _, rfl, ?_⟩
  rw [is_non hx]
  cases hw with
  | non => exact iteT q
  | int i hi =>
    refine iteF ?_
    unfold tNext
    dsimp only
    refine ⟨_, rfl, x, _, _, _, _, rfl, hx, .ty _, kitTu T _, _, rfl, bF rfl ?_⟩
    dsimp only
    exact ⟨_, rfl, x, _, _, _, _, rfl, hx, .ty _, kitTu T _, _, rfl, bT rfl q⟩
  | str s hs =>
    refine iteF ?_
    unfold tNext
    dsimp only
    refine ⟨_, rfl, x, _, _, _, _, rfl, hx, .ty _, kitTu T _, _, rfl, bF rfl ?_⟩
    dsimp only
    exact ⟨_, rfl, x, _, _, _, _, rfl, hx, .ty _, kitTu T _, _, rfl, bT rfl q⟩
  | pr =>
    refine iteF ?_
    have hx0 := hx
    cases hx with
    | @tup ax xs _ hax hxs =>
    cases hxs with
    | @cons y0 _ _ _ i0 hxs => cases hxs with
    | @cons y1 _ _ _ i1 hxs =>
    cases hxs
    unfold tNext
    dsimp only
    refine ⟨_, rfl, .ref ax, _, _, _, _, rfl, hx0, .ty _, kitTu T _, _, rfl, bT rfl ?_⟩
    refine ⟨_, rfl, ax, _, rfl, .inr (SqT.of hax), rfl, _, rfl, ifT rfl ?_⟩
    refine ⟨_, rfl, ax, _, 0, _, rfl, rfl, SqT.of hax, atI_nat (j := 0) rfl, y0, _, _, _, _, rfl, i0, .ty _, kitSt T _, _, rfl, bF rfl ?_⟩
    dsimp only
    refine ⟨_, rfl, .ref ax, _, _, _, _, rfl, hx0, .ty _, kitTu T _, _, rfl, bF rfl ?_⟩
    refine ⟨_, rfl, ax, _, rfl, .inr (SqT.of hax), _, _, rfl, rfl, _, rfl, bF rfl ?_⟩
    exact ⟨_, rfl, ax, _, 0, _, rfl, rfl, SqT.of hax, atI_nat (j := 0) rfl, y0, _, _, _, _, rfl, i0, .ty _, kitSt T _, _, rfl, bT rfl q⟩
  | two k g hk hg =>
    refine iteF ?_
    have hx0 := hx
    cases hx with
    | @tup ax xs _ hax hxs =>
    cases hxs with
    | @cons y0 _ _ _ i0 hxs => cases hxs with
    | @cons y1 _ _ _ i1 hxs =>
    cases hxs
    have i00 := i0
    have i11 := i1
    cases i0
    cases i1
    unfold tNext
    dsimp only
    refine ⟨_, rfl, .ref ax, _, _, _, _, rfl, hx0, .ty _, kitTu T _, _, rfl, bT rfl ?_⟩
    refine ⟨_, rfl, ax, _, rfl, .inr (SqT.of hax), rfl, _, rfl, ifT rfl ?_⟩
    refine ⟨_, rfl, ax, _, 0, _, rfl, rfl, SqT.of hax, atI_nat (j := 0) rfl, _, _, _, _, _, rfl, i00, .ty _, kitSt T _, _, rfl, bT rfl ?_⟩
    refine ⟨_, rfl, ax, _, 0, _, rfl, rfl, SqT.of hax, atI_nat (j := 0) rfl, rfl, _, rfl, ?_⟩
    by_cases ck : k = "out"
    · subst ck
      have flt : (ks.map V.str).all flatV = true := by rw [List.all_map]; exact List.all_eq_true.mpr fun _ _ => rfl
      refine ifT rfl ⟨_, rfl, l, _, rfl, .inl (SqL.of hl), rfl, flt, _, rfl, ?_⟩
      show (if (inV (.str "data") (ks.map V.str)) = true then _ else _)
      rw [inV_txts]
      have e : lawF ks (.tup [.str "out", .int (g : Int)]) = (inKs ks "data" && decide ((0 : Int) < (g : Int))) := by simp [lawF]
      rw [e] at q
      cases h : inKs ks "data" with
      | false =>
        rw [h] at q
        exact bF rfl q
      | true =>
        rw [h] at q
        refine bT rfl ⟨_, rfl, ax, _, 1, _, rfl, rfl, SqT.of hax, atI_nat (j := 1) rfl, _, _, _, _, _, rfl, i11, .ty _, kitIn T _, _, rfl, bT rfl ?_⟩
        exact ⟨_, rfl, ax, _, 1, _, rfl, rfl, SqT.of hax, atI_nat (j := 1) rfl, _, _, rfl, rfl, q⟩
    · refine ifF (fun z => ck (V.str.inj z)) ?_
      dsimp only
      refine ⟨_, rfl, .ref ax, _, _, _, _, rfl, hx0, .ty _, kitTu T _, _, rfl, bF rfl ?_⟩
      refine ⟨_, rfl, ax, _, rfl, .inr (SqT.of hax), _, _, rfl, rfl, _, rfl, bF rfl ?_⟩
      refine ⟨_, rfl, ax, _, 0, _, rfl, rfl, SqT.of hax, atI_nat (j := 0) rfl, _, _, _, _, _, rfl, i00, .ty _, kitSt T _, _, rfl, bF rfl ?_⟩
      refine ⟨_, rfl, ax, _, 1, _, rfl, rfl, SqT.of hax, atI_nat (j := 1) rfl, _, rfl, _, rfl, bF (by rw [decide_eq_true (show (0 : Int) ≤ (g : Int) by omega), decide_eq_true (show (g : Int) < 24 by omega)]; rfl) ?_⟩
      dsimp only
      refine ⟨_, rfl, ax, _, 0, _, rfl, rfl, SqT.of hax, atI_nat (j := 0) rfl, rfl, _, rfl, ifF (fun z => absurd (V.str.inj z) (fun z => by subst z; exact absurd hk (by decide +kernel))) ?_⟩
      dsimp only
      refine ⟨_, rfl, ax, _, rfl, .inr (SqT.of hax), rfl, _, rfl, ifT rfl ?_⟩
      have flt : (ks.map V.str).all flatV = true := by rw [List.all_map]; exact List.all_eq_true.mpr fun _ _ => rfl
      refine ⟨_, rfl, ax, _, 0, _, rfl, rfl, SqT.of hax, atI_nat (j := 0) rfl, _, rfl, l, _, rfl, .inl (SqL.of hl), rfl, flt, ?_⟩
      show Q (.bl (inV (.str k) (ks.map V.str))) H
      rw [inV_txts]
      have e : lawF ks (.tup [.str k, .int (g : Int)]) = inKs ks k := by
        show (if k = "out" then _ else _) = _
        rw [if_neg ck, decide_eq_true (show (0 : Int) ≤ (g : Int) by omega), decide_eq_true (show (g : Int) < 24 by omega)]; rfl
      rw [e] at q
      exact q
  | lv g e hg he =>
    refine iteF ?_
    have hx0 := hx
    cases hx with
    | @tup ax xs _ hax hxs =>
    cases hxs with
    | @cons y0 _ _ _ i0 hxs => cases hxs with
    | @cons y1 _ _ _ i1 hxs => cases hxs with
    | @cons y2 _ _ _ i2 hxs =>
    cases hxs
    have i00 := i0
    have i11 := i1
    cases i0
    cases i1
    unfold tNext
    dsimp only
    refine ⟨_, rfl, .ref ax, _, _, _, _, rfl, hx0, .ty _, kitTu T _, _, rfl, bT rfl ?_⟩
    refine ⟨_, rfl, ax, _, rfl, .inr (SqT.of hax), rfl, _, rfl, ifF (fun z => by simp at z) ?_⟩
    dsimp only
    refine ⟨_, rfl, .ref ax, _, _, _, _, rfl, hx0, .ty _, kitTu T _, _, rfl, bF rfl ?_⟩
    refine ⟨_, rfl, ax, _, rfl, .inr (SqT.of hax), _, _, rfl, rfl, _, rfl, bF rfl ?_⟩
    refine ⟨_, rfl, ax, _, 0, _, rfl, rfl, SqT.of hax, atI_nat (j := 0) rfl, _, _, _, _, _, rfl, i00, .ty _, kitSt T _, _, rfl, bF rfl ?_⟩
    refine ⟨_, rfl, ax, _, 1, _, rfl, rfl, SqT.of hax, atI_nat (j := 1) rfl, _, rfl, _, rfl, bF (by rw [decide_eq_true (show (0 : Int) ≤ (g : Int) by omega), decide_eq_true (show (g : Int) < 24 by omega)]; rfl) ?_⟩
    dsimp only
    refine ⟨_, rfl, ax, _, 0, _, rfl, rfl, SqT.of hax, atI_nat (j := 0) rfl, rfl, _, rfl, ifT rfl ?_⟩
    refine ⟨_, rfl, ax, _, rfl, .inr (SqT.of hax), rfl, _, rfl, ifT rfl ?_⟩
    refine ⟨_, rfl, ax, _, 2, _, rfl, rfl, SqT.of hax, atI_nat (j := 2) rfl, rfl, _, rfl, ?_⟩
    have e1 : ∀ e, lawF ks (.tup [.str "leaving", .int (g : Int), e]) = (isNon e || match e with | .int i => decide (1 ≤ i) | _ => false) := fun e => by
      show ((decide ((0 : Int) ≤ (g : Int)) && decide ((g : Int) < 24)) && _) = _
      rw [decide_eq_true (show (0 : Int) ≤ (g : Int) by omega), decide_eq_true (show (g : Int) < 24 by omega)]; rfl
    rw [e1] at q
    rcases he with rfl | ⟨i, hi, rfl⟩
    · cases i2
      exact ifT rfl q
    · have i22 := i2
      cases i2
      refine ifF (fun z => by cases z) ⟨_, rfl, ax, _, 2, _, rfl, rfl, SqT.of hax, atI_nat (j := 2) rfl, _, _, _, _, _, rfl, i22, .ty _, kitIn T _, _, rfl, bT rfl ?_⟩
      exact ⟨_, rfl, ax, _, 2, _, rfl, rfl, SqT.of hax, atI_nat (j := 2) rfl, _, _, rfl, rfl, q⟩
abbrev s__law_status : Stmt := top 66
theorem sc__law_status : FnScope ["memory", "granule", "state", "owner"] ["memory", "granule", "state", "owner"] (C8.fnScope s__law_status) := C8.fnScope_by (by decide +kernel)
theorem ok__law_status (F : C8.Def K mg "_law_status" s__law_status f fd) (b : Binds K fd ["memory", "granule", "state", "owner"] []) (T : Txt K mg w C) (m_status : C8.Met P w K mg base 3 N "status" (spMS N C) []) : C8.Cal P w K mg base 4 "_law_status" (spLSt N C) [] := by
  refine C8.cal0 F b .nil sc__law_status (fun vs H Q E h => ?_) (fun cdv A outer s H vs Q E hr h => ?_)
  · obtain ⟨p, g, st, yo, ow, a, ss, ws, ln, rfl, _⟩ := h; rfl
  obtain ⟨p, g, st, yo, ow, a, ss, ws, ln, rfl, M, hg, hso, hst, hyo, how, q⟩ := h
  obtain ⟨dx, hp⟩ := M.ins
  have s24 := M.s24
  obtain ⟨st2, ow2, ho2, hst2, est2, eow2, fow2, hsl2⟩ : ∃ st ow ho, ss[g]? = some (.tup [.str st, ow, ho]) ∧ stOf ss g = st ∧ owOf ss g = ow ∧ (ow = .non ∨ ∃ i, ow = .int i) ∧ st ∈ statesL := by
    have hk' : g < ss.length := by omega
    obtain ⟨st, ow, ho, e, hsl, hf⟩ := hso _ (List.getElem_mem hk')
    have h1 : ss[g]? = some (.tup [.str st, ow, ho]) := by rw [List.getElem?_eq_getElem hk', e]
    exact ⟨st, ow, ho, h1, by unfold stOf; rw [h1], by unfold owOf; rw [h1], hf, hsl⟩
  refine ⟨_, (pss_one (ps_ret (pe_cmpR (op_eqD (room64 hr)) (pe_slice sl_tupA (C8.pe_mt m_status hr (by first | decide | omega) (pv 0) (pa_cons (pv 1) pa_nil)) po_none (po_some pe_int)) (pe_tup (pa_cons (pv 2) (pa_cons (pv 3) pa_nil))) (nomark _)))), ?_⟩
  refine ⟨_, rfl, p, dx, _, rfl, hp, rfl, _, rfl, p, g, _, a, ss, ws, ln, rfl, M, hg, hst2, fun x hx => ?_⟩
  cases hx with
  | @tup b3 xs3 _ hb3 hxs3 =>
  cases hxs3 with
  | @cons y4 _ _ _ n0 hxs3 => cases hxs3 with
  | @cons yo2 _ _ _ n1 hxs3 => cases hxs3 with
  | @cons y6 _ _ _ n2 hxs3 =>
  cases hxs3
  cases n0
  refine ⟨2, rfl, ?_⟩
  refine sl_go hb3 fun H6 p6 s6 ep6 => ?_
  rw [show (2 : Int) = ((2 : Nat) : Int) from rfl, cut_to] at ep6
  have ep6 : H6 p6 = some (.tup [.str st2, yo2]) := ep6
  refine ⟨_, rfl, _, rfl, (by show 2 ≤ sizeLine; decide), fun m2 hm2 => ?_⟩
  have s7 := same_new (o := .tup [.str st, yo]) hm2
  have ep7 := s7 _ _ ep6
  have em2 : (upd H6 m2 (.tup [.str st, yo])) m2 = some (.tup [.str st, yo]) := upd_same
  have s67 := s6.trans s7
  generalize upd H6 m2 (.tup [.str st, yo]) = H7 at *
  obtain ⟨d1, d2⟩ := st_dp (K := K) (H := H7) n1 fow2
  obtain ⟨d3, d4⟩ := st_dp (K := K) (H := H7) hyo how
  refine ⟨.tuple [.str st2, oP ow2], .tuple [.str st, oP ow], .tup (SqT.of ep7) (.cons (.str _) (.cons d1 .nil)), .tup (SqT.of em2) (.cons (.str _) (.cons d3 .nil)), st_shaped hsl2 d2 (oP_depth _), st_shaped hst d4 (oP_depth _), ?_⟩
  rw [st_eqv fow2 how, ← est2, ← eow2]
  exact q H7 s67
end
end Hc

set_option maxHeartbeats 8000000
namespace Hc
open PySem PySem.Spec PyProof.Rows L2 Hr
theorem mapD_len {ws : Nat → List D} (h : ∀ g, g < 24 → (ws g).length = 4) : ∀ ds : List D, (mapD ws ds).length = 4 * ds.length := fun ds => by
  induction ds with
  | nil => simp [mapD]
  | cons d ds ih =>
    have e : mapD ws (d :: ds) = mapD ws [d] ++ mapD ws ds := mapD_app ws [d] ds
    rw [e, List.length_append, List.length_cons, ih]
    have h1 : (mapD ws [d]).length = 4 := by
      cases hgr : grO "table" d with
      | none => simp [mapD, hgr]
      | some i =>
        obtain ⟨g0, g1⟩ := grO_rng hgr
        have := h i.toNat (by omega)
        simp [mapD, hgr, this]
    omega
theorem mapD_at {ws : Nat → List D} (h : ∀ g, g < 24 → (ws g).length = 4) : ∀ (ds : List D) (i : Nat), i < 4 * ds.length → (mapD ws ds)[i]? = (ds[i / 4]?).bind fun d => (mapD ws [d])[i % 4]? := fun ds => by
  induction ds with
  | nil => intro i hi; simp at hi
  | cons d ds ih =>
    intro i hi
    have e : mapD ws (d :: ds) = mapD ws [d] ++ mapD ws ds := mapD_app ws [d] ds
    have l1 : (mapD ws [d]).length = 4 := mapD_len h [d]
    rw [e]
    by_cases c : i < 4
    · rw [List.getElem?_append_left (by omega), Nat.div_eq_of_lt c, Nat.mod_eq_of_lt c]; rfl
    · rw [List.getElem?_append_right (by omega), l1]
      rw [List.length_cons] at hi
      have i1 := ih (i - 4) (by omega)
      have d1 : i / 4 = (i - 4) / 4 + 1 := by omega
      have d2 : i % 4 = (i - 4) % 4 := by omega
      rw [i1, d1, d2, List.getElem?_cons_succ]
theorem root_wsh {d : D} (w : Wsh d) (h : rootW d = true) (hn : isNon d = false) : (∃ g : Nat, g < 24 ∧ d = .tup [.str "table", .int (g : Int)]) ∨ (∃ (g : Nat) (e : D), g < 24 ∧ d = .tup [.str "leaving", .int (g : Int), e]) := by
  cases w with
  | non => cases hn
  | int i hi => simp [rootW, isNon, grO, lvD] at h
  | str s hs => simp [rootW, isNon, grO, lvD] at h
  | pr => simp [rootW, isNon, grO, lvD] at h
  | two k g hk hg =>
    simp only [rootW, isNon, grO, lvD, Bool.false_or, Bool.or_false] at h
    split at h
    · rename_i c; exact .inl ⟨g, hg, by rw [c.1]⟩
    · cases h
  | lv g e hg he => exact .inr ⟨g, e, hg, rfl⟩
def spLDue (N C : Addr) : Sp := fun vs H Q _ => ∃ (p : Addr) (a : Ads) (ss : List D) (ws : Nat → List D) (ln : Nat), vs = [.ref p] ∧ MeR N C H p a ss ws ln ∧ StOk ss ∧ (∀ g, ∀ e ∈ ws g, Wsh e) ∧ ∀ H', Same H H' → Q (.str (faultD ss ws 1)) H'
section
variable {P : Program} {w : World} {K : PySem.W.Frag} {mg : Str → Option Value} {base : Heap} {f : Addr} {fd : FuncData} {C N : Addr}
abbrev s__law_due : Stmt := top 67
theorem sc__law_due : FnScope ["memory", "owner", "root", "word", "met", "entry", "page"] ["memory"] (C8.fnScope s__law_due) := C8.fnScope_by (by decide +kernel)
theorem ok__law_due (F : C8.Def K mg "_law_due" s__law_due f fd) (b : Binds K fd ["memory"] []) (T : Txt K mg w C) (m_status : C8.Met P w K mg base 3 N "status" (spMS N C) []) (m_words : C8.Met P w K mg base 3 N "words" (spMW N C) []) (c__law_form : C8.Cal P w K mg base 2 "_law_form" (spLFo C) []) (c__law_status : C8.Cal P w K mg base 4 "_law_status" (spLSt N C) []) : C8.Cal P w K mg base 5 "_law_due" (spLDue N C) [] := by
  refine C8.cal0 F b .nil sc__law_due (fun vs H Q E h => ?_) (fun cdv A outer s H vs Q E hr h => ?_)
  · obtain ⟨p, a, ss, ws, ln, rfl, _⟩ := h; rfl
  obtain ⟨p, a, ss, ws, ln, rfl, M, hso, hwsh, q⟩ := h
  obtain ⟨dx, hp⟩ := M.ins
  have s24 := M.s24
  have stat : ∀ k, k < 24 → ∃ st ow ho, ss[k]? = some (.tup [.str st, ow, ho]) ∧ stOf ss k = st ∧ owOf ss k = ow ∧ (ow = .non ∨ ∃ i, ow = .int i) ∧ st ∈ statesL := fun k hk => by
    have hk' : k < ss.length := by omega
    obtain ⟨st, ow, ho, e, hsl, hf⟩ := hso _ (List.getElem_mem hk')
    have h1 : ss[k]? = some (.tup [.str st, ow, ho]) := by rw [List.getElem?_eq_getElem hk', e]
    exact ⟨st, ow, ho, h1, by unfold stOf; rw [h1], by unfold owOf; rw [h1], hf, hsl⟩
  obtain ⟨st, ow, ho, hst, est, eow, fow, hsl⟩ := stat 1 (by decide)
  have l4 : ∀ k, k < 24 → (ws k).length = 4 := fun k hk => by
    obtain ⟨r0, hr0⟩ : ∃ r0, a.rows[k]? = some r0 := ⟨_, List.getElem?_eq_getElem (by rw [M.r24]; exact hk)⟩
    obtain ⟨_, _, _, l4⟩ := M.rw k r0 hr0
    exact l4
  have h14 := l4 1 (by decide)
  refine ⟨_, (pss_cons (ps_set (i := 1) sc__law_due.nd rfl (Or.inl rfl) (pe_ix ix_tup (C8.pe_mt m_status hr (by first | decide | omega) (pv 0) (pa_cons pe_int pa_nil)) pe_int (fun _ _ => rfl)))
      (pss_cons (ps_set (i := 2) sc__law_due.nd rfl (Or.inl rfl) (C8.pe_mt m_words hr (by first | decide | omega) (pv 0) (pa_cons pe_int pa_nil)))
      (C8.pss_cut (ps_if (PW.pt (pw_or (pt_cmpR op_ne (pe_ix ix_tup (C8.pe_mt m_status hr (by first | decide | omega) (pv 0) (pa_cons pe_int pa_nil)) pe_int (fun _ _ => rfl)) pe_str (nomark _)) (pw_or1 (pt_cmpR op_gt (pe_callB call_lenS rfl T.z_len bt_len (pa_cons (pe_lc (own := [("word", 3)]) (te := tVar 3) (tt := tNot (tB (tCall (spLFo C) [] C8.E0 (tCons (tVar 3) (tCons (tLst (tCons (tC (.str "table")) tNil)) tNil))))) (g := gName 3) rfl sc__law_due.nd (pi_tup (pv 2)) (blkOk_by (own := [("word", 3)]) (N := ["memory", "owner", "root", "word", "met", "entry", "page"]) (sc := C8.fnScope s__law_due) (by decide +kernel)) (fun _ _ _ _ _ => (pg_name (i := 3) sc__law_due.nd rfl (Or.inl rfl))) (fun _ _ _ _ _ => (pts_one (pt_not (pt_val (C8.pe_c c__law_form hr (by first | decide | omega) rfl (pa_cons (pv 3) (pa_cons (pe_lst (pa_cons pe_str pa_nil)) pa_nil))))))) (fun _ _ _ _ _ => (pv 3))) pa_nil)) pe_int (nomark _))))) (pss_one (ps_ret pe_str)) pss_nil)
      (pss_cons (ps_set (i := 4) sc__law_due.nd rfl (Or.inl rfl) (pe_lst (pa_cons pe_int pa_nil)))
      (C8.pss_cut (ps_for PassesOwn.never rfl (pi_tup (pv 2)) (pg_name (i := 3) sc__law_due.nd rfl (Or.inl rfl))
      (pss_one (ps_if (pt_cmpR op_notN (pv 3) pe_non (nomark _)) (pss_cons (ps_if (PW.pt (pw_or (pt_not (pt_val (C8.pe_c c__law_status hr (by first | decide | omega) rfl (pa_cons (pv 0) (pa_cons (pe_ix ix_tup (pv 3) pe_int (fun _ _ => rfl)) (pa_cons pe_str (pa_cons (pv 1) pa_nil))))))) (pw_or1 (pt_cmpR op_in_seq (pe_ix ix_tup (pv 3) pe_int (fun _ _ => rfl)) (pv 4) (by with_unfolding_all rfl))))) (pss_one (ps_ret pe_str)) pss_nil)
      (pss_cons (ps_expr (pe_bm PySem.F.plainAttrs_list PySem.F.slot_list_append PySem.F.type_list_append mt_append (pv 4) (pa_cons (pe_ix ix_tup (pv 3) pe_int (fun _ _ => rfl)) pa_nil)))
      (pss_one (ps_for PassesOwn.never rfl (pi_tup (C8.pe_mt m_words hr (by first | decide | omega) (pv 0) (pa_cons (pe_ix ix_tup (pv 3) pe_int (fun _ _ => rfl)) pa_nil))) (pg_name (i := 5) sc__law_due.nd rfl (Or.inl rfl))
      (pss_one (ps_if (PW.pt (pw_and (pt_not (PW.pt (pw_and (pt_val (pe_callB (call_isiA T.cl) rfl T.z_isinstance bt_isinstance (pa_cons (pv 5) (pa_cons (pe_bltn (v := .ty "str") rfl T.z_str bt_str rfl) pa_nil)))) (pw_and1 (pt_cmpR op_eq (pv 5) pe_str (nomark _)))))) (pw_and1 (pt_not (pt_val (C8.pe_c c__law_form hr (by first | decide | omega) rfl (pa_cons (pv 5) (pa_cons (pe_lst (pa_cons pe_str (pa_cons pe_str pa_nil))) pa_nil)))))))) (pss_one (ps_ret pe_str)) pss_nil)))))) pss_nil)))
      (pss_cons (ps_set (i := 4) sc__law_due.nd rfl (Or.inl rfl) (pe_lst pa_nil))
      (pss_cons (ps_for PassesOwn.never rfl (pi_range1 rfl T.z_range (pa_cons pe_int pa_nil)) (pg_name (i := 6) sc__law_due.nd rfl (Or.inl rfl))
      (pss_cons (ps_set (i := 3) sc__law_due.nd rfl (Or.inl rfl) (pe_ix ix_tup (pv 2) (pe_op op_fdiv (pv 6) pe_int) (fun _ _ => rfl)))
      (pss_cons (ps_set (i := 5) sc__law_due.nd rfl (Or.inl rfl) pe_non)
      (C8.pss_cut (ps_if (PW.pt (pw_and (pt_cmpR op_notN (pv 3) pe_non (nomark _)) (pw_and1 (pt_cmpR op_eq (pe_ix ix_tup (pv 3) pe_int (fun _ _ => rfl)) pe_str (nomark _))))) (pss_one (ps_set (i := 5) sc__law_due.nd rfl (Or.inl rfl) (pe_ix ix_tup (C8.pe_mt m_words hr (by first | decide | omega) (pv 0) (pa_cons (pe_ix ix_tup (pv 3) pe_int (fun _ _ => rfl)) pa_nil)) (pe_callTy call_int1 rfl T.z_int bt_int (pa_cons (pe_op op_mod (pv 6) pe_int) pa_nil)) (fun _ _ => rfl)))) pss_nil)
      (pss_one (ps_if (pt_val (pe_callB (call_isiA T.cl) rfl T.z_isinstance bt_isinstance (pa_cons (pv 5) (pa_cons (pe_bltn (v := .ty "tuple") rfl T.z_tuple bt_tuple rfl) pa_nil)))) (pss_cons (ps_if (pt_cmpR op_ne (pe_cmpR op_eq (pe_ix ix_tup (pv 5) pe_int (fun _ _ => rfl)) pe_str (nomark _)) (pe_cmpR op_gt (pv 6) pe_int (nomark _)) (nomark _)) (pss_one (ps_ret pe_str)) pss_nil)
      (pss_one (ps_if (pt_cmpR op_in_seq (pe_ix ix_tup (pv 5) pe_int (fun _ _ => rfl)) (pe_tup (pa_cons pe_str (pa_cons pe_str pa_nil))) (by with_unfolding_all rfl)) (pss_cons (ps_if (PW.pt (pw_or (pt_not (pt_val (C8.pe_c c__law_status hr (by first | decide | omega) rfl (pa_cons (pv 0) (pa_cons (pe_ix ix_tup (pv 5) pe_int (fun _ _ => rfl)) (pa_cons pe_str (pa_cons (pv 1) pa_nil))))))) (pw_or1 (pt_cmpR op_in_seq (pe_ix ix_tup (pv 5) pe_int (fun _ _ => rfl)) (pv 4) (by with_unfolding_all rfl))))) (pss_one (ps_ret pe_str)) pss_nil)
      (pss_one (ps_expr (pe_bm PySem.F.plainAttrs_list PySem.F.slot_list_append PySem.F.type_list_append mt_append (pv 4) (pa_cons (pe_ix ix_tup (pv 5) pe_int (fun _ _ => rfl)) pa_nil))))) pss_nil))) pss_nil))))))
      (pss_one (ps_ret pe_str))))))))), ?_⟩
  refine ⟨_, rfl, p, dx, _, rfl, hp, rfl, p, 1, _, a, ss, ws, ln, rfl, M, by decide, hst, fun x hx => ?_⟩
  cases hx with
  | @tup b0 xs _ hb hxs =>
  cases hxs with
  | @cons y0 _ _ _ i0 hxs => cases hxs with
  | @cons yo _ _ _ i1 hxs =>
  cases i0
  refine ⟨b0, _, 1, _, rfl, rfl, SqT.of hb, atI_nat (j := 1) rfl, ?_⟩
  refine ⟨_, rfl, p, dx, _, rfl, hp, rfl, p, 1, a, ss, ws, ln, rfl, M, by decide, fun H2 t s2 ht it => ?_⟩
  have M2 := M.same s2
  have hp2 := s2 _ _ hp
  have i12 := i1.same s2
  refine ⟨fun σ' H' => ∃ v3, σ' = [some (.ref p), some yo, some (.ref t), v3, none, none, none] ∧ Same H2 H' ∧ tabB ss ws 1 rootW = true, ?_, ?_⟩
  · obtain ⟨b1, xs1, hb1, h1x⟩ : ∃ b1 xs1, H2 b1 = some (.tup xs1) ∧ True := ⟨_, _, s2 _ _ hb, trivial⟩
    refine ⟨_, rfl, p, dx, _, rfl, hp2, rfl, p, 1, _, a, ss, ws, ln, rfl, M2, by decide, hst, fun x hx => ?_⟩
    cases hx with
    | @tup b3 xs3 _ hb3 hxs3 =>
    cases hxs3 with
    | @cons y4 _ _ _ n0 hxs3 =>
    cases n0
    refine ⟨b3, _, 0, _, rfl, rfl, SqT.of hb3, atI_nat (j := 0) rfl, rfl, _, rfl, ?_⟩
    have neg : tabB ss ws 1 rootW = false → ∀ H', Same H2 H' → Q (.str "root") H' := fun e H' s' => by
      have q1 := q H' (s2.trans s')
      simp only [faultD, e, if_true] at q1
      exact q1
    by_cases cs : st = "table"
    · subst cs
      refine bF (by simp) ?_
      cases it with
      | @tup _ ys _ hta hys =>
      have hl := hys.len
      refine ⟨_, rfl, t, rfl, ⟨_, SqT.of hta⟩, fun Dl hD => ?_⟩
      refine lc_it (walk_tup (xs := ys)) (fun i H' => Same H2 H' ∧ ∃ zs, H' Dl = some (.lst zs) ∧ zs.length ≤ i ∧ decide (zs.length = 0) = ((ws 1).take i).all rootW) ⟨same_new hD, [], upd_same, Nat.zero_le _, rfl⟩ (fun i H3 _ h => SqT.of (h.1 _ _ hta)) ?_ ?_
      · rintro i x H4 H5 hi ⟨s4, zs, hz, hzl, hzz⟩ ⟨rfl, hx⟩
        obtain ⟨e, he, hxe⟩ := hys.at hx
        have hwe := hwsh 1 e (List.mem_of_getElem? he)
        refine ⟨rfl, ?_⟩
        refine ⟨_, rfl, (by show 1 ≤ sizeLine; decide), fun kl hkl => ?_⟩
        have s5 := same_new (o := .lst [.str "table"]) hkl
        refine ⟨x, e, kl, ["table"], rfl, hxe.same (s4.trans s5), hwe, upd_same, _, rfl, ?_⟩
        have hall : ((ws 1).take (i + 1)).all rootW = (decide (zs.length = 0) && rootW e) := by
          rw [List.take_add_one, he, List.all_append, hzz]
          simp
        rw [lawF_root hwe]
        have hz6 := s5 _ _ hz
        cases hfd : rootW e with
        | true =>
          refine iteF ⟨s4.trans s5, zs, hz6, by omega, ?_⟩
          rw [hall, hfd, Bool.and_true]
        | false =>
          refine iteT ⟨_, rfl, zs, hz6, small1000 (by omega), same_put (s4.trans s5) hD, zs ++ [_], upd_same, by simp; omega, ?_⟩
          rw [hall, hfd, Bool.and_false]
          simp
      · rintro H4 ⟨s4, zs, hz, hzl, hzz⟩
        rw [List.take_of_length_le (by omega)] at hzz
        have etb : tabB ss ws 1 rootW = decide (zs.length = 0) := by unfold tabB; rw [est, hzz]; rfl
        refine ⟨Dl, zs, rfl, .inl (SqL.of hz), _, _, rfl, rfl, _, rfl, ?_⟩
        by_cases hz0 : zs.length = 0
        · refine ifF (by omega) ⟨_, rfl, s4, ?_⟩
          rw [etb, decide_eq_true hz0]
        · refine ifT (by omega) (neg ?_ H4 s4)
          rw [etb, decide_eq_false hz0]
    · refine bT (by simp [cs]) (neg ?_ H2 (Same.refl H2))
      unfold tabB; rw [est, decide_eq_false cs]; rfl
  rintro σ' H3 ⟨v3, rfl, s3, htab⟩
  have s23 := s2.trans s3
  have M3 := M.same s23
  have hp3 := s23 _ _ hp
  have i13 := i1.same s23
  have it3 := it.same s3
  have hroot : ∀ e ∈ ws 1, rootW e = true := by
    unfold tabB at htab
    rw [Bool.and_eq_true] at htab
    exact List.all_eq_true.mp htab.2
  clear s3 M2 hp2 i12 it
  dsimp only
  refine ⟨(by show 1 ≤ sizeLine; decide), fun lb hlb => ?_⟩
  have s4 := same_new (o := .lst [.int 1]) hlb
  have elb : (upd H3 lb (.lst [.int 1])) lb = some (.lst [.int 1]) := upd_same
  have M4 := M3.same s4
  have hp4 := s4 _ _ hp3
  have i14 := i13.same s4
  have it4 := it3.same s4
  have ncell : lb ∉ a.cells := M3.fresh hlb
  have hfr : H lb = none := by
    cases e : H lb with
    | none => rfl
    | some o => have := s23 _ _ e; rw [hlb] at this; cases this
  have s24' := s23.trans s4
  generalize upd H3 lb (.lst [.int 1]) = H4 at *
  have toH : ∀ {H5 : Hp}, (∀ b o, H4 b = some o → b ≠ lb → H5 b = some o) → Same H H5 := fun {H5} h b o e => h b o (s24' _ _ e) (fun z => by rw [z, hfr] at e; cases e)
  have neg : leavesB ss ws ow (ws 1) [1] = false → ∀ H', Same H H' → Q (.str "leaf") H' := fun e H' s' => by
    have q1 := q H' s'
    simp only [faultD, htab, eow, e] at q1
    exact q1
  refine ⟨fun σ' H' => ∃ v3 v4 v5, σ' = [some (.ref p), some yo, some (.ref t), v3, v4, v5, none] ∧ Same H H' ∧ Is C H' (.ref t) (.tup (ws 1)) ∧ leavesB ss ws ow (ws 1) [1] = true, ?_, ?_⟩
  · cases it4 with
    | @tup _ ys _ hta hws =>
    have hl := hws.len
    have ntl : t ≠ lb := fun z => by rw [z, elb] at hta; cases hta
    refine ⟨_, rfl, t, rfl, ⟨_, SqT.of hta⟩, for_it (walk_tup (xs := ys)) (fun i σ H5 => ∃ v3 v5 bef, σ = [some (.ref p), some yo, some (.ref t), v3, some (.ref lb), v5, none] ∧ (∀ b o, H4 b = some o → b ≠ lb → H5 b = some o) ∧ H5 lb = some (.lst (bef.map fun b => V.int ((b : Nat) : Int))) ∧ bef.length ≤ i + 1 ∧ leavesB ss ws ow (ws 1) [1] = leavesB ss ws ow ((ws 1).drop i) bef) ⟨v3, none, [1], rfl, fun b o e _ => e, elb, Nat.le_refl _, rfl⟩ (fun i σ H5 _ h => by obtain ⟨_, _, _, _, h2, _⟩ := h; exact SqT.of (h2 _ _ hta ntl)) ?_ ?_⟩
    · rintro i z σ H5x H5 hi ⟨v3, v5, bef, rfl, off, hbef, hbl, heq⟩ ⟨rfl, hz⟩
      obtain ⟨e, he, hze⟩ := hws.at hz
      have hem := List.mem_of_getElem? he
      have hrw := hroot e hem
      have hi2 : i < (ws 1).length := by omega
      have hdrop : (ws 1).drop i = e :: (ws 1).drop (i + 1) := by
        rw [List.drop_eq_getElem_cons hi2]
        congr 1
        rw [List.getElem?_eq_getElem hi2] at he
        exact Option.some.inj he
      have M5 : MeR N C H5 p a ss ws ln := M4.off elb ncell off
      have hze := Is.keep (off_keep0 elb off) (clnL_iff.mp (M.cw 1) e hem) hze
      have hp5 := off _ _ hp4 (fun z => by rw [z, elb] at hp4; cases hp4)
      have fow' : cln ow = true := by rcases fow with rfl | ⟨_, rfl⟩ <;> rfl
      have i15 := Is.keep (off_keep0 elb off) fow' i14
      rw [hdrop] at heq
      refine ⟨_, rfl, rfl, _, rfl, ?_⟩
      rw [is_non hze]
      cases hn : isNon e with
      | true =>
        refine bF rfl ⟨_, _, bef, rfl, off, hbef, by omega, ?_⟩
        rw [heq]; simp only [leavesB, hn, if_true]
      | false =>
      obtain ⟨kk, gl, rr, rfl, hgl, elf⟩ := root_leaf hrw hn
      refine bT rfl ?_
      cases hze with
      | @tup az zs _ haz hzs =>
      cases hzs with
      | @cons z0 _ _ _ k0 hzs => cases hzs with
      | @cons z1 zt _ _ k1 hzs =>
      cases k0
      cases k1
      have neg2 : (bef.any (fun b => decide (b = gl)) || !eqO (owOf ss gl) ow || !tabB ss ws gl entryW) = true → ∀ H6, Same H H6 → Q (.str "leaf") H6 := fun c H6 s6 => by
        refine neg ?_ H6 s6
        rw [heq]
        simp only [leavesB, hn, elf]
        rw [c]; rfl
      refine ⟨_, rfl, _, rfl, az, _, 1, _, rfl, rfl, SqT.of haz, atI_nat (j := 1) rfl, _, rfl, ?_⟩
      refine ⟨p, gl, "table", yo, ow, a, ss, ws, ln, rfl, M5, hgl, hso, by decide +kernel, i15, fow, fun H6 s6 => ⟨_, rfl, ?_⟩⟩
      cases c0 : (decide (stOf ss gl = "table") && eqO (owOf ss gl) ow) with
      | false =>
        refine bT rfl (neg2 ?_ H6 ((toH off).trans s6))
        unfold tabB
        cases h1 : decide (stOf ss gl = "table") <;> cases h2 : eqO (owOf ss gl) ow <;> simp_all
      | true =>
      rw [Bool.and_eq_true] at c0
      refine bF rfl ?_
      have hbef6 := s6 _ _ hbef
      have haz6 := s6 _ _ haz
      refine ⟨_, rfl, az, _, 1, _, rfl, rfl, SqT.of haz6, atI_nat (j := 1) rfl, _, rfl, lb, _, rfl, .inl (SqL.of hbef6), rfl, (by rw [List.all_map]; exact List.all_eq_true.mpr fun _ _ => rfl), _, rfl, ?_⟩
      show (if (inV (.int (gl : Int)) (bef.map fun b : Nat => V.int (b : Int))) = true then _ else _)
      rw [inInts]
      cases c1 : bef.any (fun b => decide (b = gl)) with
      | true => exact iteT (neg2 (by rw [c1]; rfl) H6 ((toH off).trans s6))
      | false =>
      refine iteF ?_
      dsimp only
      have off6 : ∀ b o, H4 b = some o → b ≠ lb → (upd H6 lb (.lst (bef.map (fun b : Nat => V.int (b : Int)) ++ [.int (gl : Int)]))) b = some o := fun b o e n => by rw [upd_ne n]; exact s6 _ _ (off b o e n)
      refine ⟨_, rfl, .inl ⟨rfl, _, SqL.of hbef6⟩, _, rfl, az, _, 1, _, rfl, rfl, SqT.of haz6, atI_nat (j := 1) rfl, lb, _, _, rfl, rfl, hbef6, small1000 (by rw [List.length_map]; omega), ?_⟩
      have hb7 : (upd H6 lb (.lst (bef.map (fun b : Nat => V.int (b : Int)) ++ [.int (gl : Int)]))) lb = some (.lst ((bef ++ [gl]).map fun b : Nat => V.int (b : Int))) := by rw [upd_same, List.map_append]; rfl
      have naz : az ≠ lb := fun z => by rw [z, hbef6] at haz6; cases haz6
      have haz7 : (upd H6 lb (.lst (bef.map (fun b : Nat => V.int (b : Int)) ++ [.int (gl : Int)]))) az = some (.tup (.str kk :: .int (gl : Int) :: zt)) := by rw [upd_ne naz]; exact haz6
      generalize upd H6 lb (.lst (bef.map (fun b : Nat => V.int (b : Int)) ++ [.int (gl : Int)])) = H7 at *
      have M7 : MeR N C H7 p a ss ws ln := M4.off elb ncell off6
      have hp7 := off6 _ _ hp4 (fun z => by rw [z, elb] at hp4; cases hp4)
      have hg4 := l4 gl hgl
      refine ⟨_, rfl, p, dx, _, rfl, hp7, rfl, _, rfl, az, _, 1, _, rfl, rfl, SqT.of haz7, atI_nat (j := 1) rfl, p, gl, a, ss, ws, ln, rfl, M7, hgl, fun H8 t8 s8 ht8 it8 => ?_⟩
      cases it8 with
      | @tup _ es _ hta8 hes =>
      have hel := hes.len
      refine ⟨t8, rfl, ⟨_, SqT.of hta8⟩, for_it (walk_tup (xs := es)) (fun j σ H9 => ∃ v5, σ = [some (.ref p), some yo, some (.ref t), some (.ref az), some (.ref lb), v5, none] ∧ Same H8 H9 ∧ ((ws gl).take j).all entryW = true) ⟨v5, rfl, Same.refl _, rfl⟩ (fun j σ H9 _ h => by obtain ⟨_, _, h2, _⟩ := h; exact SqT.of (h2 _ _ hta8)) ?_ ?_⟩
      · rintro j z9 σ H9x H9 hj ⟨v5, rfl, s9, hall⟩ ⟨rfl, hz9⟩
        obtain ⟨e9, he9, hze9⟩ := hes.at hz9
        have hze9 := hze9.same s9
        have hw9 := hwsh gl e9 (List.mem_of_getElem? he9)
        have eE := lawF_entry hw9
        have hall' : ((ws gl).take (j + 1)).all entryW = entryW e9 := by
          rw [List.take_add_one, he9, List.all_append, hall]
          simp
        have leaf2 : entryW e9 = false → ∀ H6, Same H H6 → Q (.str "leaf") H6 := fun c => neg2 (by
          have : tabB ss ws gl entryW = false := by
            unfold tabB
            rw [Bool.and_eq_false_iff]
            refine .inr (List.all_eq_false.mpr ⟨e9, List.mem_of_getElem? he9, by rw [c]; simp⟩)
          rw [this]; simp)
        have toH9 : Same H H9 := (toH off6).trans (s8.trans s9)
        have form : isDes e9 = false → ∀ kl, H9 kl = none → entryW e9 = lawF ["data", "shared"] e9 := fun h _ _ => by rw [← eE, h]; rfl
        refine ⟨_, rfl, z9, _, _, _, _, rfl, hze9, .ty _, kitSt T _, _, rfl, ?_⟩
        have tail : isDes e9 = false → entryW e9 = lawF ["data", "shared"] e9 := fun h => by rw [← eE, h]; rfl
        cases hs9 : isSt e9 with
        | true =>
          obtain ⟨s, rfl⟩ : ∃ s, e9 = .str s := by cases e9 <;> first | exact ⟨_, rfl⟩ | cases hs9
          cases hze9
          refine bT rfl ⟨_, rfl, rfl, _, rfl, ?_⟩
          dsimp only
          by_cases cd : s = "destroyed"
          · refine bF (by simp [cd]) ?_
            refine ⟨_, rfl, s9, ?_⟩
            rw [hall', ← eE]; simp [isDes, cd]
          · refine bT (by simp [cd]) ?_
            have hd : isDes (.str s) = false := decide_eq_false cd
            refine ⟨_, rfl, (by show 2 ≤ sizeLine; decide), fun kl hkl => ?_⟩
            have s10 := same_new (o := .lst [.str "data", .str "shared"]) hkl
            refine ⟨_, _, kl, ["data", "shared"], rfl, .str s, hw9, upd_same, _, rfl, ?_⟩
            rw [← tail hd]
            cases c9 : entryW (.str s) with
            | true => exact bF (by first | rfl | trivial) ⟨_, rfl, s9.trans s10, by rw [hall', c9]⟩
            | false => exact bT (by first | rfl | trivial) (leaf2 c9 _ (toH9.trans s10))
        | false =>
          have hd : isDes e9 = false := by cases e9 <;> first | rfl | cases hs9
          refine bF rfl ?_
          dsimp only
          refine bT rfl ?_
          refine ⟨_, rfl, (by show 2 ≤ sizeLine; decide), fun kl hkl => ?_⟩
          have s10 := same_new (o := .lst [.str "data", .str "shared"]) hkl
          refine ⟨_, _, kl, ["data", "shared"], rfl, hze9.same s10, hw9, upd_same, _, rfl, ?_⟩
          rw [← tail hd]
          cases c9 : entryW e9 with
          | true => exact bF (by first | rfl | trivial) ⟨_, rfl, s9.trans s10, by rw [hall', c9]⟩
          | false => exact bT (by first | rfl | trivial) (leaf2 c9 _ (toH9.trans s10))
      · rintro σ H9 ⟨v5, rfl, s9, hall⟩
        rw [List.take_of_length_le (by omega)] at hall
        have s89 := s8.trans s9
        refine ⟨_, _, bef ++ [gl], rfl, fun b o e n => s89 _ _ (off6 b o e n), s89 _ _ hb7, by simp; omega, ?_⟩
        rw [heq]
        have ht : tabB ss ws gl entryW = true := by unfold tabB; rw [c0.1, hall]; rfl
        simp only [leavesB, hn, elf, c1, c0.2, ht]
        rfl
    · rintro σ H5 ⟨v3, v5, bef, rfl, off, hbef, hbl, heq⟩
      rw [List.drop_eq_nil_of_le (by omega)] at heq
      exact ⟨_, _, _, rfl, toH off, .tup (off _ _ hta ntl) (IsA.keep (off_keep0 elb off) (M.cw 1) hws), heq⟩
  rintro σ' H5 ⟨v3, v4, v5, rfl, s5, it5, hlv⟩
  clear neg toH M4 hp4 i14 it4 ncell hfr s24' elb hlb hp3 M3 i13 it3 s4 s2
  have hmd16 := mapD_len l4 (ws 1)
  have hmap := mapD_at l4 (ws 1)
  have hent : ∀ e ∈ mapD ws (ws 1), entryW e = true := map_entry (ss := ss) (g := 1) (by rw [eow]; exact hlv)
  have hcl := mapD_cln M.cw (ws 1)
  rw [h14] at hmd16 hmap
  generalize hmd : mapD ws (ws 1) = md at *
  have efin : ∀ H', Same H H' → Q (.str (pagesF ss ow 0 md [])) H' := fun H' s' => by
    have q1 := q H' s'
    simp only [faultD, htab, eow, hlv, hmd] at q1
    exact q1
  have M5 := M.same s5
  have hp5 := s5 _ _ hp
  have i15 := i1.same s5
  refine ⟨Nat.zero_le _, fun lb hlb => ?_⟩
  have s6 := same_new (o := .lst []) hlb
  have elb : (upd H5 lb (.lst [])) lb = some (.lst []) := upd_same
  have M6 := M5.same s6
  have hp6 := s6 _ _ hp5
  have i16 := i15.same s6
  have it6 := it5.same s6
  have ncell : lb ∉ a.cells := M5.fresh hlb
  have hfr : H lb = none := by
    cases e : H lb with
    | none => rfl
    | some o => have := s5 _ _ e; rw [hlb] at this; cases this
  have s56 := s5.trans s6
  generalize upd H5 lb (.lst []) = H6 at *
  have toH : ∀ {H7 : Hp}, (∀ b o, H6 b = some o → b ≠ lb → H7 b = some o) → Same H H7 := fun {H7} h b o e => h b o (s56 _ _ e) (fun z => by rw [z, hfr] at e; cases e)
  cases it6 with
  | @tup _ ys _ hta hws =>
  have hl := hws.len
  have ntl : t ≠ lb := fun z => by rw [z, elb] at hta; cases hta
  refine ⟨16, rfl, by decide, by decide, for_it (walk_range (lo := 0) (n := 16)) (fun i σ H7 => ∃ v3 v5 v6 bef, σ = [some (.ref p), some yo, some (.ref t), v3, some (.ref lb), v5, v6] ∧ (∀ b o, H6 b = some o → b ≠ lb → H7 b = some o) ∧ H7 lb = some (.lst (bef.map fun b : Nat => V.int (b : Int))) ∧ bef.length ≤ i ∧ pagesF ss ow 0 md [] = pagesF ss ow i (md.drop i) bef) ⟨v3, v5, none, [], rfl, fun b o e _ => e, elb, Nat.le_refl _, rfl⟩ (fun _ _ _ _ _ => trivial) ?_ ?_⟩
  · rintro i y σ H7x H7 hi ⟨v3, v5, v6, bef, rfl, off, hbef, hbl, heq⟩ ⟨rfl, rfl⟩
    have M7 : MeR N C H7 p a ss ws ln := M6.off elb ncell off
    have hp7 := off _ _ hp6 (fun z => by rw [z, elb] at hp6; cases hp6)
    have fow' : cln ow = true := by rcases fow with rfl | ⟨_, rfl⟩ <;> rfl
    have i17 := Is.keep (off_keep0 elb off) fow' i16
    have hta7 := off _ _ hta ntl
    have hws7 := IsA.keep (off_keep0 elb off) (M.cw 1) hws
    obtain ⟨e, he⟩ : ∃ e, md[i]? = some e := ⟨_, List.getElem?_eq_getElem (by omega)⟩
    have hem := List.mem_of_getElem? he
    have hwe : entryW e = true := hent e hem
    have hdrop : md.drop i = e :: md.drop (i + 1) := by
      rw [List.drop_eq_getElem_cons (by omega)]
      congr 1
      rw [List.getElem?_eq_getElem (by omega)] at he
      exact Option.some.inj he
    rw [hdrop] at heq
    have hq4 : i / 4 < ys.length := by omega
    obtain ⟨e1, he1, ie1⟩ := hws7.at (List.getElem?_eq_getElem hq4)
    have hw1 := hwsh 1 e1 (List.mem_of_getElem? he1)
    have hr1 := hroot e1 (List.mem_of_getElem? he1)
    have hm1 := hmap i (by omega)
    rw [he, he1] at hm1
    have hm1 : some e = (mapD ws [e1])[i % 4]? := hm1
    generalize hyv : ys[i / 4] = yv at *
    have hyat : ys[i / 4]? = some yv := by rw [List.getElem?_eq_getElem hq4, hyv]
    have ei : (0 + (i : Int)) / 4 = ((i / 4 : Nat) : Int) := by omega
    refine ⟨_, rfl, _, rfl, _, _, rfl, rfl, ⟨by decide, by decide⟩, t, ys, _, yv, rfl, rfl, SqT.of hta7, (show atI ys ((0 + (i : Int)) / 4) = some yv by rw [ei]; exact atI_nat hyat), ?_⟩
    refine ⟨fun σ' H' => ∃ xe, σ' = [some (.ref p), some yo, some (.ref t), some yv, some (.ref lb), some xe, some (.int (0 + (i : Int)))] ∧ Same H7 H' ∧ Is C H' xe e, ?_, ?_⟩
    · refine ⟨_, rfl, rfl, _, rfl, ?_⟩
      rw [is_non ie1]
      have rep : grO "table" e1 = none → e = .non := fun h => by
        have h1 : mapD ws [e1] = List.replicate 4 .non := by simp [mapD, h]
        rw [h1, List.getElem?_replicate, if_pos (Nat.mod_lt _ (by decide))] at hm1
        exact Option.some.inj hm1
      cases hn : isNon e1 with
      | true =>
        have hnn : e1 = .non := by cases e1 <;> first | rfl | cases hn
        have h0 : e = .non := rep (by rw [hnn]; rfl)
        exact bF rfl ⟨.non, rfl, Same.refl _, by rw [h0]; exact .non⟩
      | false =>
      refine bT rfl ?_
      rcases root_wsh hw1 hr1 hn with ⟨g, hg, rfl⟩ | ⟨g, e2, hg, rfl⟩
      · cases ie1 with
        | @tup az zs _ haz hzs =>
        cases hzs with
        | @cons z0 _ _ _ k0 hzs => cases hzs with
        | @cons z1 zt _ _ k1 hzs =>
        cases hzs
        cases k0
        cases k1
        have h1 : mapD ws [.tup [.str "table", .int (g : Int)]] = ws g := by
          have : grO "table" (.tup [.str "table", .int (g : Int)]) = some (g : Int) := by
            show (if _ then _ else _) = _
            rw [if_pos ⟨rfl, by omega, by omega⟩]
          simp [mapD, this]
        rw [h1] at hm1
        have hg4 := l4 g hg
        refine ⟨_, rfl, az, _, 0, _, rfl, rfl, SqT.of haz, atI_nat (j := 0) rfl, rfl, _, rfl, ifT rfl ?_⟩
        refine ⟨_, rfl, p, dx, _, rfl, hp7, rfl, _, rfl, az, _, 1, _, rfl, rfl, SqT.of haz, atI_nat (j := 1) rfl, p, g, a, ss, ws, ln, rfl, M7, hg, fun H8 t8 s8 ht8 it8 => ?_⟩
        cases it8 with
        | @tup _ es _ hta8 hes =>
        obtain ⟨xe, hxe, ixe⟩ := hes.get hm1.symm
        have e4 : (0 + (i : Int)) % 4 = ((i % 4 : Nat) : Int) := by omega
        refine ⟨_, rfl, _, _, rfl, rfl, (by show (0 : Int) < 4; decide), .inl ⟨_, rfl, t8, es, _, xe, rfl, rfl, SqT.of hta8, (show atI es ((0 + (i : Int)) % 4) = some xe by rw [e4]; exact atI_nat hxe), ?_⟩⟩
        exact ⟨xe, rfl, s8, ixe⟩
      · cases ie1 with
        | @tup az zs _ haz hzs =>
        cases hzs with
        | @cons z0 _ _ _ k0 hzs =>
        cases k0
        have hgr : grO "table" (.tup [.str "leaving", .int (g : Int), e2]) = none := rfl
        have h0 : e = .non := rep hgr
        refine ⟨_, rfl, az, _, 0, _, rfl, rfl, SqT.of haz, atI_nat (j := 0) rfl, rfl, _, rfl, ifF (fun z => absurd (V.str.inj z) (by decide +kernel)) ?_⟩
        exact ⟨.non, rfl, Same.refl _, by rw [h0]; exact .non⟩
    · rintro σ' H8 ⟨xe, rfl, s8, ixe⟩
      have off8 : ∀ b o, H6 b = some o → b ≠ lb → H8 b = some o := fun b o e n => s8 _ _ (off b o e n)
      have hbef8 := s8 _ _ hbef
      have M8 := M7.same s8
      have hp8 := s8 _ _ hp7
      have i18 := i17.same s8
      clear hws7 hyat hyv hm1 he1 ie1 hw1 hr1 M7 hp7 i17 hta7 hbef s8 off
      refine ⟨_, rfl, xe, _, _, _, _, rfl, ixe, .ty _, kitTu T _, _, rfl, ?_⟩
      have skip : halfB ((i : Nat) : Int) e = false → dataOf e = none → ∀ H9, Same H8 H9 → ∃ v3 v5 v6 bef, ([some (.ref p), some yo, some (.ref t), some yv, some (.ref lb), some xe, some (.int (0 + (i : Int)))] : L2.St) = [some (.ref p), some yo, some (.ref t), v3, some (.ref lb), v5, v6] ∧ (∀ b o, H6 b = some o → b ≠ lb → H9 b = some o) ∧ H9 lb = some (.lst (bef.map fun b : Nat => V.int (b : Int))) ∧ bef.length ≤ i + 1 ∧ pagesF ss ow 0 md [] = pagesF ss ow (i + 1) (md.drop (i + 1)) bef := fun hhf hd H9 s9 => ⟨_, _, _, bef, rfl, fun b o e n => s9 _ _ (off8 b o e n), s9 _ _ hbef8, by omega, by rw [heq]; simp only [pagesF, hhf, hd]; rfl⟩
      cases ht : isTu e with
      | false =>
        exact bF rfl (skip (by cases e <;> first | rfl | cases ht) (by cases e <;> first | rfl | cases ht) H8 (Same.refl H8))
      | true =>
      obtain ⟨ds, rfl⟩ : ∃ ds, e = .tup ds := by cases e <;> first | exact ⟨_, rfl⟩ | cases ht
      obtain ⟨k, r, rfl⟩ := entry_tup hwe
      cases ixe with
      | @tup b2 xs2 _ hb2 hxs2 =>
      cases hxs2 with
      | @cons y2 yt _ _ m0 hxs2 =>
      cases m0
      refine bT rfl ?_
      refine ⟨_, rfl, b2, _, 0, _, rfl, rfl, SqT.of hb2, atI_nat (j := 0) rfl, rfl, ?_⟩
      refine ⟨_, rfl, _, _, rfl, rfl, rfl, _, rfl, ?_⟩
      have eh : (!decide (V.bl (decide (V.str k = V.str "shared")) = V.bl (decide ((7 : Int) < 0 + (i : Int))))) = halfB ((i : Nat) : Int) (.tup (.str k :: r)) := by
        have e : decide (V.str k = V.str "shared") = decide (k = "shared") := decide_eq_decide.mpr ⟨fun z => V.str.inj z, fun z => by rw [z]⟩
        have e2 : ∀ a b : Bool, (!decide (V.bl a = V.bl b)) = (a != b) := by intro a b; cases a <;> cases b <;> simp
        have e3 : decide ((7 : Int) < 0 + (i : Int)) = decide ((8 : Int) ≤ (i : Int)) := decide_eq_decide.mpr (by omega)
        rw [e, e2, e3]; rfl
      show (if (!decide (V.bl (decide (V.str k = V.str "shared")) = V.bl (decide ((7 : Int) < 0 + (i : Int))))) = true then _ else _)
      rw [eh]
      cases hhf : halfB ((i : Nat) : Int) (.tup (.str k :: r)) with
      | true =>
        have q1 := efin H8 (toH off8)
        rw [heq] at q1
        simp only [pagesF, hhf, if_true] at q1
        exact bT rfl q1
      | false =>
      refine bF rfl ?_
      dsimp only
      refine ⟨_, rfl, b2, _, 0, _, rfl, rfl, SqT.of hb2, atI_nat (j := 0) rfl, (by show 2 ≤ sizeLine; decide), fun m hm => ?_⟩
      have s5' := same_new (o := .tup [.str "data", .str "leaving"]) hm
      refine ⟨m, _, rfl, .inr (SqT.of upd_same), rfl, rfl, _, rfl, ?_⟩
      show (if (inV (.str k) [.str "data", .str "leaving"]) = true then _ else _)
      rw [inVab]
      by_cases ck : k = "data" ∨ k = "leaving"
      · refine bT (by simpa using ck) ?_
        obtain ⟨gl, rr, rfl, hgl, elf⟩ := entry_data hwe ck
        cases hxs2 with
        | @cons y3 yt3 _ _ m1 hxs3 =>
        cases m1
        have M5 := M8.same s5'
        have hbef5 := s5' _ _ hbef8
        have hb25 := s5' _ _ hb2
        have i19 := i18.same s5'
        have off5 : ∀ b o, H6 b = some o → b ≠ lb → (upd H8 m (.tup [.str "data", .str "leaving"])) b = some o := fun b o e n => s5' _ _ (off8 b o e n)
        generalize upd H8 m (.tup [.str "data", .str "leaving"]) = H9 at *
        have hdo : dataOf (.tup (.str k :: .int ((gl : Nat) : Int) :: rr)) = some gl := by simp only [dataOf, if_pos ck, elf]
        have neg : (bef.any (fun b => decide (b = gl)) || !(decide (stOf ss gl = "data") && eqO (owOf ss gl) ow)) = true → ∀ H10, Same H9 H10 → Q (.str "data") H10 := fun c H10 s10 => by
          have q1 := efin H10 ((toH off5).trans s10)
          rw [heq] at q1
          simp only [pagesF, hhf, hdo] at q1
          rw [c] at q1
          exact q1
        refine ⟨_, rfl, _, rfl, b2, _, 1, _, rfl, rfl, SqT.of hb25, atI_nat (j := 1) rfl, _, rfl, ?_⟩
        refine ⟨p, gl, "data", yo, ow, a, ss, ws, ln, rfl, M5, hgl, hso, by decide +kernel, i19, fow, fun H10 s10 => ⟨_, rfl, ?_⟩⟩
        cases c0 : (decide (stOf ss gl = "data") && eqO (owOf ss gl) ow) with
        | false => exact bT rfl (neg (by rw [c0]; simp) H10 s10)
        | true =>
        refine bF rfl ?_
        have hbef10 := s10 _ _ hbef5
        have hb10 := s10 _ _ hb25
        refine ⟨_, rfl, b2, _, 1, _, rfl, rfl, SqT.of hb10, atI_nat (j := 1) rfl, _, rfl, lb, _, rfl, .inl (SqL.of hbef10), rfl, (by rw [List.all_map]; exact List.all_eq_true.mpr fun _ _ => rfl), _, rfl, ?_⟩
        show (if (inV (.int (gl : Int)) (bef.map fun b : Nat => V.int (b : Int))) = true then _ else _)
        rw [inInts]
        cases c1 : bef.any (fun b => decide (b = gl)) with
        | true => exact iteT (neg (by rw [c1]; rfl) H10 s10)
        | false =>
        refine iteF ?_
        dsimp only
        refine ⟨_, rfl, .inl ⟨rfl, _, SqL.of hbef10⟩, _, rfl, b2, _, 1, _, rfl, rfl, SqT.of hb10, atI_nat (j := 1) rfl, lb, _, _, rfl, rfl, hbef10, small1000 (by rw [List.length_map]; omega), ?_⟩
        refine ⟨_, _, _, bef ++ [gl], rfl, fun b o e n => by rw [upd_ne n]; exact s10 _ _ (off5 b o e n), by rw [upd_same, List.map_append]; rfl, by simp; omega, ?_⟩
        rw [heq]
        simp only [pagesF, hhf, hdo, c1, c0]
        rfl
      · exact bF (by simpa using ck) (skip hhf (by simp only [dataOf, if_neg ck]) _ s5')
  · rintro σ H7 ⟨v3, v5, v6, bef, rfl, off, hbef, hbl, heq⟩
    rw [List.drop_eq_nil_of_le (by omega)] at heq
    have q1 := efin H7 (toH off)
    rw [heq] at q1
    exact q1
end
end Hc

set_option maxHeartbeats 8000000
namespace Hc
open PySem PySem.Spec PyProof.Rows L2 Hr
def spLMap (N C : Addr) : Sp := fun vs H Q _ => ∃ (p : Addr) (a : Ads) (ss : List D) (ws : Nat → List D) (ln : Nat), vs = [.ref p] ∧ MeR N C H p a ss ws ln ∧ (∀ e ∈ ws 1, Wsh e) ∧ ∀ H' l xs, Same H H' → H' l = some (.lst xs) → IsA C H' xs (mapD ws (ws 1)) → Q (.ref l) H'
section
variable {P : Program} {w : World} {K : PySem.W.Frag} {mg : Str → Option Value} {base : Heap} {f : Addr} {fd : FuncData} {C N : Addr}
abbrev s__law_map : Stmt := top 68
theorem sc__law_map : FnScope ["memory", "found", "word"] ["memory"] (C8.fnScope s__law_map) := C8.fnScope_by (by decide +kernel)
theorem ok__law_map (F : C8.Def K mg "_law_map" s__law_map f fd) (b : Binds K fd ["memory"] []) (T : Txt K mg w C) (m_words : C8.Met P w K mg base 3 N "words" (spMW N C) []) (c__law_granule : C8.Cal P w K mg base 1 "_law_granule" (spLGr C) []) : C8.Cal P w K mg base 4 "_law_map" (spLMap N C) [] := by
  refine C8.cal0 F b .nil sc__law_map (fun vs H Q E h => ?_) (fun cdv A outer s H vs Q E hr h => ?_)
  · obtain ⟨p, a, ss, ws, ln, rfl, _⟩ := h; rfl
  obtain ⟨p, a, ss, ws, ln, rfl, M, hwsh, q⟩ := h
  obtain ⟨dx, hp⟩ := M.ins
  have l4 : ∀ k, k < 24 → (ws k).length = 4 := fun k hk => by
    obtain ⟨r0, hr0⟩ : ∃ r0, a.rows[k]? = some r0 := ⟨_, List.getElem?_eq_getElem (by rw [M.r24]; exact hk)⟩
    obtain ⟨_, _, _, l4⟩ := M.rw k r0 hr0
    exact l4
  have h14 := l4 1 (by decide)
  refine ⟨_, (pss_cons (ps_set (i := 1) sc__law_map.nd rfl (Or.inl rfl) (pe_lst pa_nil))
      (pss_cons (ps_for PassesOwn.never rfl (pi_tup (C8.pe_mt m_words hr (by first | decide | omega) (pv 0) (pa_cons pe_int pa_nil))) (pg_name (i := 2) sc__law_map.nd rfl (Or.inl rfl))
      (pss_one (ps_if (PW.pt (pw_and (pt_val (pe_callB (call_isiA T.cl) rfl T.z_isinstance bt_isinstance (pa_cons (pv 2) (pa_cons (pe_bltn (v := .ty "tuple") rfl T.z_tuple bt_tuple rfl) pa_nil)))) (pw_and (pt_cmpR op_eq (pe_callB call_lenS rfl T.z_len bt_len (pa_cons (pv 2) pa_nil)) pe_int (nomark _)) (pw_and (pt_cmpR op_eq (pe_ix ix_tup (pv 2) pe_int (fun _ _ => rfl)) pe_str (nomark _)) (pw_and1 (pt_val (C8.pe_c c__law_granule hr (by first | decide | omega) rfl (pa_cons (pe_ix ix_tup (pv 2) pe_int (fun _ _ => rfl)) pa_nil)))))))) (pss_one (ps_set (i := 1) sc__law_map.nd rfl (Or.inl rfl) (pe_op op_cat (pv 1) (pe_callTy call_list_of rfl T.z_list bt_list (pa_cons (C8.pe_mt m_words hr (by first | decide | omega) (pv 0) (pa_cons (pe_ix ix_tup (pv 2) pe_int (fun _ _ => rfl)) pa_nil)) pa_nil))))) (pss_one (ps_set (i := 1) sc__law_map.nd rfl (Or.inl rfl) (pe_op op_cat (pv 1) (pe_op op_rep (pe_lst (pa_cons pe_non pa_nil)) pe_int)))))))
      (pss_one (ps_ret (pv 1))))), ?_⟩
  refine ⟨Nat.zero_le _, fun lb hlb => ?_⟩
  have s1 := same_new (o := .lst []) hlb
  have elb : (upd H lb (.lst [])) lb = some (.lst []) := upd_same
  have M1 := M.same s1
  have hp1 := s1 _ _ hp
  generalize upd H lb (.lst []) = H1 at *
  refine ⟨_, rfl, p, dx, _, rfl, hp1, rfl, p, 1, a, ss, ws, ln, rfl, M1, by decide, fun H2 t s2 ht it => ?_⟩
  have s12 := s1.trans s2
  have elb := s2 _ _ elb
  cases it with
  | @tup _ ys _ hta hws =>
  have hl := hws.len
  refine ⟨t, rfl, ⟨_, SqT.of hta⟩, for_it (walk_tup (xs := ys)) (fun i σ H3 => ∃ v2 fl acc, σ = [some (.ref p), some (.ref fl), v2] ∧ Same H2 H3 ∧ H3 fl = some (.lst acc) ∧ IsA C H3 acc (mapD ws ((ws 1).take i)) ∧ acc.length = 4 * i) ⟨none, lb, [], rfl, Same.refl _, elb, .nil, rfl⟩ (fun i σ H3 _ h => by obtain ⟨_, _, _, _, h2, _⟩ := h; exact SqT.of (h2 _ _ hta)) ?_ ?_⟩
  · rintro i z σ H3x H3 hi ⟨v2, fl, acc, rfl, s3, hacc, ia, hal⟩ ⟨rfl, hz⟩
    obtain ⟨e, he, hze⟩ := hws.at hz
    have hem := List.mem_of_getElem? he
    have hze := hze.same s3
    have M3 := M.same (s12.trans s3)
    have hp3 := (s12.trans s3) _ _ hp
    have et : mapD ws ((ws 1).take (i + 1)) = mapD ws ((ws 1).take i) ++ mapD ws [e] := by
      rw [List.take_add_one, he, mapD_app]; rfl
    refine ⟨_, rfl, z, _, _, _, _, rfl, hze, .ty _, kitTu T _, _, rfl, ?_⟩
    cases ht : isTu e with
    | false =>
      have hgr : grO "table" e = none := by cases e <;> first | rfl | cases ht
      refine bF rfl ?_
      have em : mapD ws [e] = List.replicate 4 .non := by simp [mapD, hgr]
      refine ⟨_, rfl, (by show 1 ≤ sizeLine; decide), fun l5 h5 => ?_⟩
      have s5 := same_new (o := .lst [.non]) h5
      refine ⟨l5, 4, _, rfl, rfl, upd_same, by decide, by decide, (by show 1 * 4 ≤ sizeLine; decide), fun l6 h6 => ?_⟩
      rw [show (4 : Int).toNat = 4 from rfl, repl_flat]
      have s6 := same_new (o := .lst (List.replicate 4 V.non)) h6
      have s56 := s5.trans s6
      have hacc6 := s56 _ _ hacc
      have e6 : (upd (upd H3 l5 (.lst [.non])) l6 (.lst (List.replicate 4 V.non))) l6 = some (.lst (List.replicate 4 V.non)) := upd_same
      generalize upd (upd H3 l5 (.lst [.non])) l6 (.lst (List.replicate 4 V.non)) = H6 at *
      refine ⟨fl, l6, acc, _, rfl, rfl, hacc6, e6, Nat.le_of_lt (small1000 (by simp; omega)), fun l7 h7 => ?_⟩
      have s7 := same_new (o := .lst (acc ++ List.replicate 4 V.non)) h7
      refine ⟨_, l7, acc ++ List.replicate 4 V.non, rfl, (s3.trans s56).trans s7, upd_same, ?_, by simp [hal]; omega⟩
      rw [et, em]
      exact (IsA.app (ia.same s56) (isA_repl 4 .non)).same s7
    | true =>
    refine bT rfl ?_
    cases hwsh e hem with
    | non => cases ht
    | int i hi => cases ht
    | str s hs => cases ht
    | pr =>
      generalize he0 : D.tup [.int 1, .int 2] = e at *
      have hgr : grO "table" e = none := by rw [← he0]; rfl
      subst he0
      cases hze with
      | @tup az zs _ haz hzs =>
      cases hzs with
      | @cons z0 _ _ _ k0 hzs => cases hzs with
      | @cons z1 zt _ _ k1 hzs =>
      cases hzs
      cases k0
      refine ⟨_, rfl, az, _, rfl, .inr (SqT.of haz), rfl, _, rfl, ifT rfl ?_⟩
      refine ⟨_, rfl, az, _, 0, _, rfl, rfl, SqT.of haz, atI_nat (j := 0) rfl, rfl, _, rfl, ifF (fun z => by cases z) ?_⟩
      generalize D.tup [.int 1, .int 2] = e at *
      have em : mapD ws [e] = List.replicate 4 .non := by simp [mapD, hgr]
      refine ⟨_, rfl, (by show 1 ≤ sizeLine; decide), fun l5 h5 => ?_⟩
      have s5 := same_new (o := .lst [.non]) h5
      refine ⟨l5, 4, _, rfl, rfl, upd_same, by decide, by decide, (by show 1 * 4 ≤ sizeLine; decide), fun l6 h6 => ?_⟩
      rw [show (4 : Int).toNat = 4 from rfl, repl_flat]
      have s6 := same_new (o := .lst (List.replicate 4 V.non)) h6
      have s56 := s5.trans s6
      have hacc6 := s56 _ _ hacc
      have e6 : (upd (upd H3 l5 (.lst [.non])) l6 (.lst (List.replicate 4 V.non))) l6 = some (.lst (List.replicate 4 V.non)) := upd_same
      generalize upd (upd H3 l5 (.lst [.non])) l6 (.lst (List.replicate 4 V.non)) = H6 at *
      refine ⟨fl, l6, acc, _, rfl, rfl, hacc6, e6, Nat.le_of_lt (small1000 (by simp; omega)), fun l7 h7 => ?_⟩
      have s7 := same_new (o := .lst (acc ++ List.replicate 4 V.non)) h7
      refine ⟨_, l7, acc ++ List.replicate 4 V.non, rfl, (s3.trans s56).trans s7, upd_same, ?_, by simp [hal]; omega⟩
      rw [et, em]
      exact (IsA.app (ia.same s56) (isA_repl 4 .non)).same s7
    | two k g hk hg =>
      cases hze with
      | @tup az zs _ haz hzs =>
      cases hzs with
      | @cons z0 _ _ _ k0 hzs => cases hzs with
      | @cons z1 zt _ _ k1 hzs =>
      cases hzs
      cases k0
      cases k1
      refine ⟨_, rfl, az, _, rfl, .inr (SqT.of haz), rfl, _, rfl, ifT rfl ?_⟩
      refine ⟨_, rfl, az, _, 0, _, rfl, rfl, SqT.of haz, atI_nat (j := 0) rfl, rfl, _, rfl, ?_⟩
      by_cases ck : k = "table"
      · subst ck
        refine ifT rfl ?_
        refine ⟨_, rfl, az, _, 1, _, rfl, rfl, SqT.of haz, atI_nat (j := 1) rfl, _, rfl, _, rfl, bT (by rw [decide_eq_true (show (0 : Int) ≤ (g : Int) by omega), decide_eq_true (show (g : Int) < 24 by omega)]; rfl) ?_⟩
        have em : mapD ws [.tup [.str "table", .int (g : Int)]] = ws g := by
          have : grO "table" (.tup [.str "table", .int (g : Int)]) = some (g : Int) := by
            show (if _ then _ else _) = _
            rw [if_pos ⟨rfl, by omega, by omega⟩]
          simp [mapD, this]
        have hg4 := l4 g hg
        refine ⟨_, rfl, _, rfl, p, dx, _, rfl, hp3, rfl, _, rfl, az, _, 1, _, rfl, rfl, SqT.of haz, atI_nat (j := 1) rfl, p, g, a, ss, ws, ln, rfl, M3, hg, fun H8 t8 s8 ht8 it8 => ?_⟩
        cases it8 with
        | @tup _ es _ hta8 hes =>
        have hel := hes.len
        have hacc8 := s8 _ _ hacc
        refine ⟨t8, es, rfl, .inr (SqT.of hta8), fun l9 h9 => ?_⟩
        have s9 := same_new (o := .lst es) h9
        have hacc9 := s9 _ _ hacc8
        refine ⟨fl, l9, acc, _, rfl, rfl, hacc9, upd_same, Nat.le_of_lt (small1000 (by omega)), fun l7 h7 => ?_⟩
        have s7 := same_new (o := .lst (acc ++ es)) h7
        refine ⟨_, l7, acc ++ es, rfl, ((s3.trans s8).trans s9).trans s7, upd_same, ?_, by simp [hal]; omega⟩
        rw [et, em]
        exact (IsA.app (ia.same (s8.trans s9)) (hes.same s9)).same s7
      · refine ifF (fun z => ck (V.str.inj z)) ?_
        have hgr : grO "table" (.tup [.str k, .int (g : Int)]) = none := by
          show (if _ then _ else _) = _
          rw [if_neg (fun z => ck z.1)]
        generalize D.tup [.str k, .int (g : Int)] = e at *
        have em : mapD ws [e] = List.replicate 4 .non := by simp [mapD, hgr]
        refine ⟨_, rfl, (by show 1 ≤ sizeLine; decide), fun l5 h5 => ?_⟩
        have s5 := same_new (o := .lst [.non]) h5
        refine ⟨l5, 4, _, rfl, rfl, upd_same, by decide, by decide, (by show 1 * 4 ≤ sizeLine; decide), fun l6 h6 => ?_⟩
        rw [show (4 : Int).toNat = 4 from rfl, repl_flat]
        have s6 := same_new (o := .lst (List.replicate 4 V.non)) h6
        have s56 := s5.trans s6
        have hacc6 := s56 _ _ hacc
        have e6 : (upd (upd H3 l5 (.lst [.non])) l6 (.lst (List.replicate 4 V.non))) l6 = some (.lst (List.replicate 4 V.non)) := upd_same
        generalize upd (upd H3 l5 (.lst [.non])) l6 (.lst (List.replicate 4 V.non)) = H6 at *
        refine ⟨fl, l6, acc, _, rfl, rfl, hacc6, e6, Nat.le_of_lt (small1000 (by simp; omega)), fun l7 h7 => ?_⟩
        have s7 := same_new (o := .lst (acc ++ List.replicate 4 V.non)) h7
        refine ⟨_, l7, acc ++ List.replicate 4 V.non, rfl, (s3.trans s56).trans s7, upd_same, ?_, by simp [hal]; omega⟩
        rw [et, em]
        exact (IsA.app (ia.same s56) (isA_repl 4 .non)).same s7
    | lv g e2 hg he2 =>
      cases hze with
      | @tup az zs _ haz hzs =>
      cases hzs with
      | @cons z0 _ _ _ k0 hzs => cases hzs with
      | @cons z1 zt _ _ k1 hzs => cases hzs with
      | @cons z2 zt _ _ k2 hzs =>
      cases hzs
      refine ⟨_, rfl, az, _, rfl, .inr (SqT.of haz), rfl, _, rfl, ifF (fun z => by simp at z) ?_⟩
      have hgr : grO "table" (.tup [.str "leaving", .int (g : Int), e2]) = none := rfl
      generalize D.tup [.str "leaving", .int (g : Int), e2] = e at *
      have em : mapD ws [e] = List.replicate 4 .non := by simp [mapD, hgr]
      refine ⟨_, rfl, (by show 1 ≤ sizeLine; decide), fun l5 h5 => ?_⟩
      have s5 := same_new (o := .lst [.non]) h5
      refine ⟨l5, 4, _, rfl, rfl, upd_same, by decide, by decide, (by show 1 * 4 ≤ sizeLine; decide), fun l6 h6 => ?_⟩
      rw [show (4 : Int).toNat = 4 from rfl, repl_flat]
      have s6 := same_new (o := .lst (List.replicate 4 V.non)) h6
      have s56 := s5.trans s6
      have hacc6 := s56 _ _ hacc
      have e6 : (upd (upd H3 l5 (.lst [.non])) l6 (.lst (List.replicate 4 V.non))) l6 = some (.lst (List.replicate 4 V.non)) := upd_same
      generalize upd (upd H3 l5 (.lst [.non])) l6 (.lst (List.replicate 4 V.non)) = H6 at *
      refine ⟨fl, l6, acc, _, rfl, rfl, hacc6, e6, Nat.le_of_lt (small1000 (by simp; omega)), fun l7 h7 => ?_⟩
      have s7 := same_new (o := .lst (acc ++ List.replicate 4 V.non)) h7
      refine ⟨_, l7, acc ++ List.replicate 4 V.non, rfl, (s3.trans s56).trans s7, upd_same, ?_, by simp [hal]; omega⟩
      rw [et, em]
      exact (IsA.app (ia.same s56) (isA_repl 4 .non)).same s7
  · rintro σ H3 ⟨v2, fl, acc, rfl, s3, hacc, ia, hal⟩
    rw [List.take_of_length_le (by omega)] at ia
    exact ⟨_, rfl, q H3 fl acc (s12.trans s3) hacc ia⟩
end
end Hc

set_option maxHeartbeats 8000000
namespace Hc
open PySem PySem.Spec PyProof.Rows L2 Hr
mutual
/-- the datum in the words of the library -/
def pyd : D → PyData
  | .non => .none | .bl b => .bool b | .int i => .int i | .str s => .str s
  | .tup ds => .tuple (pydL ds)
  | .lst ds => .list (pydL ds)
  | _ => .none
def pydL : List D → List PyData
  | [] => []
  | d :: ds => pyd d :: pydL ds
end
mutual
def pln : D → Bool
  | .tup ds => plnL ds
  | .lst ds => plnL ds
  | .str s => PyData.strOk s
  | .dct => false
  | .atom _ _ => false
  | _ => true
def plnL : List D → Bool
  | [] => true
  | d :: ds => pln d && plnL ds
end
mutual
theorem is_dp {K : PySem.W.Frag} {C : Addr} {H : Hp} : ∀ {x : V} {d : D}, pln d = true → Is C H x d → Dp K H x (pyd d)
  | _, _, _, .non => .non
  | _, _, _, .bl b => .bl b
  | _, _, _, .int i => .int i
  | _, _, _, .str s => .str s
  | _, _, c, .tup h t => .tup (SqT.of h) (isA_dp (by simpa [pln] using c) t)
  | _, _, c, .lst h t => .lst (SqL.of h) (isA_dp (by simpa [pln] using c) t)
  | _, _, c, .dct _ => by simp [pln] at c
  | _, _, c, .atom _ _ _ => by simp [pln] at c
theorem isA_dp {K : PySem.W.Frag} {C : Addr} {H : Hp} : ∀ {xs : List V} {ds : List D}, plnL ds = true → IsA C H xs ds → DpAll K H xs (pydL ds)
  | _, _, _, .nil => .nil
  | _, _, c, .cons h t => by
    simp only [plnL, Bool.and_eq_true] at c
    exact .cons (is_dp c.1 h) (isA_dp c.2 t)
end
mutual
def dpt : D → Nat
  | .tup ds => dptL ds + 1
  | .lst ds => dptL ds + 1
  | _ => 0
def dptL : List D → Nat
  | [] => 0
  | d :: ds => max (dpt d) (dptL ds)
end
mutual
theorem pyd_lay : ∀ d : D, pln d = true → PyData.canLay0 (pyd d) = true ∧ PyData.depth (pyd d) ≤ dpt d
  | .tup ds, h => by
    have := pydL_lay ds (by simpa [pln] using h)
    simp only [pyd, PyData.canLay0, PyData.depth, dpt]; exact ⟨this.1, by omega⟩
  | .lst ds, h => by
    have := pydL_lay ds (by simpa [pln] using h)
    simp only [pyd, PyData.canLay0, PyData.depth, dpt]; exact ⟨this.1, by omega⟩
  | .non, _ => by simp [pyd, PyData.canLay0, PyData.depth]
  | .bl _, _ => by simp [pyd, PyData.canLay0, PyData.depth]
  | .int _, _ => by simp [pyd, PyData.canLay0, PyData.depth]
  | .str s, h => by simp only [pyd, PyData.canLay0, PyData.depth]; exact ⟨by simpa [pln] using h, Nat.zero_le _⟩
  | .dct, h => by simp [pln] at h
  | .atom _ _, h => by simp [pln] at h
theorem pydL_lay : ∀ ds : List D, plnL ds = true → PyData.canLayAll0 (pydL ds) = true ∧ PyData.depthAll (pydL ds) ≤ dptL ds
  | [], _ => by simp [pydL, PyData.canLayAll0, PyData.depthAll]
  | d :: ds, h => by
    simp only [plnL, Bool.and_eq_true] at h
    have h1 := pyd_lay d h.1
    have h2 := pydL_lay ds h.2
    simp only [pydL, PyData.canLayAll0, PyData.depthAll, dptL, Bool.and_eq_true]
    exact ⟨⟨h1.1, h2.1⟩, by omega⟩
end
theorem pyd_shaped {d : D} (h : pln d = true) (k : dpt d ≤ 64) : SeqAt.shaped (pyd d) = true := by
  have := pyd_lay d h
  unfold SeqAt.shaped
  rw [this.1, decide_eq_true (Nat.le_trans this.2 k)]; rfl
theorem eqv_nil (ds : List D) : PyData.eqv (.list (pydL ds)) (.list []) = ds.isEmpty := by
  cases ds <;> simp [pydL, PyData.eqv, PyData.eqvAll]

/-- all but ps stays -/
def Chg (ps : List Addr) (H H' : Hp) : Prop := ∀ b o, H b = some o → b ∉ ps → H' b = some o
theorem Chg.refl (ps : List Addr) (H : Hp) : Chg ps H H := fun _ _ h _ => h
theorem Chg.of {ps : List Addr} {H H' : Hp} (s : Same H H') : Chg ps H H' := fun b o e _ => s b o e
theorem Chg.trans {ps : List Addr} {H H1 H2 : Hp} (x : Chg ps H H1) (y : Chg ps H1 H2) : Chg ps H H2 := fun b o e n => y b o (x b o e n) n
theorem Chg.mono {ps qs : List Addr} {H H' : Hp} (h : ∀ c ∈ ps, c ∈ qs) (x : Chg ps H H') : Chg qs H H' := fun b o e n => x b o e fun z => n (h b z)
theorem Chg.put {ps : List Addr} {H : Hp} {l : Addr} {o : HO} (hl : l ∈ ps) : Chg ps H (upd H l o) := fun b u e n => by rw [upd_ne (show b ≠ l from fun z => n (by rw [z]; exact hl))]; exact e
theorem Chg.off {p : Addr} {H H' : Hp} (o : Off p H H') : Chg [p] H H' := fun b u e n => o b u e fun z => n (by rw [z]; simp)
theorem Chg.bum {a : Ads} {H H' : Hp} (o : Bum a H H') : Chg a.cells H H' := o
def CellP (H : Hp) (c : Addr) : Prop := (∃ zs, H c = some (.lst zs)) ∨ (∃ kv, H c = some (.dK kv))
theorem chg_keep {C : Addr} {ps : List Addr} {H H' : Hp} (h : ∀ c ∈ ps, CellP H c) (x : Chg ps H H') : Keep C H H' :=
  ⟨fun b _ e => x b _ e fun z => by rcases h b z with ⟨_, h⟩ | ⟨_, h⟩ <;> (rw [h] at e; cases e), fun b _ _ e => x b _ e fun z => by rcases h b z with ⟨_, h⟩ | ⟨_, h⟩ <;> (rw [h] at e; cases e)⟩
theorem MeR.chg {N C : Addr} {H H' : Hp} {p : Addr} {a : Ads} {ss : List D} {ws : Nat → List D} {ln : Nat} {ps : List Addr} (h : MeR N C H p a ss ws ln) (hl : ∀ c ∈ ps, CellP H c) (hc : ∀ c ∈ a.cells, c ∉ ps) (b : Chg ps H H') : MeR N C H' p a ss ws ln := by
  obtain ⟨⟨dx, h0⟩, ⟨sx, h1, h2⟩, h3, h4, h5, h6, h7, ⟨lx, h8, h9⟩, h10, h11⟩ := h
  have kk := chg_keep (C := C) hl b
  unfold Ads.cells at hc
  refine ⟨⟨dx, b _ _ h0 fun z => by rcases hl p z with ⟨_, h⟩ | ⟨_, h⟩ <;> (rw [h] at h0; cases h0)⟩, ⟨sx, b _ _ h1 (hc _ (by simp)), IsA.keep kk h10 h2⟩, h3, b _ _ h4 (hc _ (by simp)), h5, h6, fun k r hr => ?_, ⟨lx, b _ _ h8 (hc _ (by simp)), h9⟩, h10, h11⟩
  obtain ⟨ys, e1, e2, e3⟩ := h7 k r hr
  exact ⟨ys, b _ _ e1 (hc _ (by simp [List.mem_of_getElem? hr])), IsA.keep kk (h11 k) e2, e3⟩
theorem Tape.chg {H H' : Hp} {p s : Addr} {ps : List Addr} (t : Tape H p s) (b : Chg ps H H') (h1 : p ∉ ps) (h2 : s ∉ ps) : Tape H' p s := by
  obtain ⟨ns, pos, rest, mix, a1, a2, a3, a4⟩ := t
  exact ⟨ns, pos, rest, mix, b _ _ a1 h1, b _ _ a2 h2, a3, a4⟩
theorem Tape.cell {H : Hp} {p s : Addr} (t : Tape H p s) : CellP H p ∧ CellP H s := by
  obtain ⟨ns, pos, rest, mix, a1, a2, a3, a4⟩ := t
  exact ⟨.inl ⟨_, a1⟩, .inl ⟨_, a2⟩⟩
/-- a row of the law's dict -/
structure Rr where
  g : Nat
  ra : Addr
  wa : Addr
  ds : List D
  st : Str
  ow : D
def rcells (rs : List Rr) : List Addr := rs.flatMap fun r => [r.ra, r.wa]
def dkv (rs : List Rr) : List (Key × V) := rs.map fun r => (.inl (r.g : Int), .ref r.ra)
structure RowAt (C : Addr) (H : Hp) (r : Rr) : Prop where
  ex : ∃ xo xs, H r.ra = some (.lst [.ref r.wa, .str r.st, xo]) ∧ Is C H xo r.ow ∧ H r.wa = some (.lst xs) ∧ IsA C H xs r.ds
  d4 : r.ds.length = 4
  g24 : r.g < 24
  wsh : ∀ e ∈ r.ds, Wsh e
  st : r.st ∈ statesL
  ow : r.ow = .non ∨ ∃ i : Nat, i < 24 ∧ r.ow = .int (i : Int)
structure Rows (C : Addr) (H : Hp) (rd : Addr) (rs : List Rr) : Prop where
  hd : H rd = some (.dK (dkv rs))
  rows : ∀ r ∈ rs, RowAt C H r
  gs : (rs.map (·.g)).Nodup
  cells : (rd :: rcells rs).Nodup
theorem clnL_wsh {ds : List D} (h : ∀ e ∈ ds, Wsh e) : clnL ds = true := clnL_iff.mpr fun e he => (h e he).ok.2.2
theorem RowAt.keep {C : Addr} {H H' : Hp} {r : Rr} {ps : List Addr} (h : RowAt C H r) (k : Keep C H H') (b : Chg ps H H') (h1 : r.ra ∉ ps) (h2 : r.wa ∉ ps) : RowAt C H' r := by
  obtain ⟨⟨xo, xs, e1, e2, e3, e4⟩, d4, g24, w, st, ow⟩ := h
  have co : cln r.ow = true := by rcases ow with h | ⟨_, _, h⟩ <;> rw [h] <;> rfl
  exact ⟨⟨xo, xs, b _ _ e1 h1, Is.keep k co e2, b _ _ e3 h2, IsA.keep k (clnL_wsh w) e4⟩, d4, g24, w, st, ow⟩
theorem mem_rcells {rs : List Rr} {r : Rr} (h : r ∈ rs) : r.ra ∈ rcells rs ∧ r.wa ∈ rcells rs := ⟨List.mem_flatMap.mpr ⟨r, h, by simp⟩, List.mem_flatMap.mpr ⟨r, h, by simp⟩⟩
theorem Rows.chg {C : Addr} {H H' : Hp} {rd : Addr} {rs : List Rr} {ps : List Addr} (h : Rows C H rd rs) (hl : ∀ c ∈ ps, CellP H c) (b : Chg ps H H') (n : ∀ c ∈ rd :: rcells rs, c ∉ ps) : Rows C H' rd rs :=
  ⟨b _ _ h.hd (n _ (by simp)), fun r hr => (h.rows r hr).keep (chg_keep hl b) b (n _ (List.mem_cons_of_mem _ (mem_rcells hr).1)) (n _ (List.mem_cons_of_mem _ (mem_rcells hr).2)), h.gs, h.cells⟩
theorem Rows.same {C : Addr} {H H' : Hp} {rd : Addr} {rs : List Rr} (h : Rows C H rd rs) (s : Same H H') : Rows C H' rd rs := h.chg (ps := []) (by simp) (Chg.of s) (by simp)
theorem Rows.cell {C : Addr} {H : Hp} {rd : Addr} {rs : List Rr} (h : Rows C H rd rs) : ∀ c ∈ rd :: rcells rs, CellP H c := fun c hc => by
  rcases List.mem_cons.mp hc with rfl | hc
  · exact .inr ⟨_, h.hd⟩
  · obtain ⟨r, hr, hm⟩ := List.mem_flatMap.mp hc
    obtain ⟨xo, xs, e1, e2, e3, e4⟩ := (h.rows r hr).ex
    simp only [List.mem_cons, List.not_mem_nil, or_false] at hm
    rcases hm with rfl | rfl
    · exact .inl ⟨_, e1⟩
    · exact .inl ⟨_, e3⟩
/-- the free granules: 6 .. 5 + m -/
def frV (m : Nat) : List V := (List.range m).map fun i => V.int (6 + ((i : Nat) : Int))
theorem frV_succ (m : Nat) : frV (m + 1) = frV m ++ [.int (6 + (m : Int))] := by unfold frV; rw [List.range_succ, List.map_append]; rfl
def EntOk (pg m : Nat) (d : D) (m' : Nat) : Prop :=
  (m' = m ∧ (d = .non ∨ (pg < 8 ∧ (d = .str "destroyed" ∨ d = .tup [.str "out", .int 2])) ∨ (8 ≤ pg ∧ (d = .str "destroyed" ∨ ∃ g : Nat, g < 24 ∧ d = .tup [.str "shared", .int (g : Int)])))) ∨
  (pg < 8 ∧ m' + 1 = m ∧ (d = .tup [.str "data", .int ((6 + m' : Nat) : Int)] ∨ ∃ e, (e = .non ∨ e = .int 1 ∨ e = .int 4) ∧ d = .tup [.str "leaving", .int ((6 + m' : Nat) : Int), e]))
theorem EntOk.wsh {pg m m' : Nat} {d : D} (h : EntOk pg m d m') (hm : m ≤ 16) : Wsh d := by
  rcases h with ⟨_, rfl | ⟨_, rfl | rfl⟩ | ⟨_, rfl | ⟨g, hg, rfl⟩⟩⟩ | ⟨_, h, rfl | ⟨e, he, rfl⟩⟩
  · exact .non
  · exact .str _ (by decide +kernel)
  · exact .two "out" 2 (by decide +kernel) (by decide)
  · exact .str _ (by decide +kernel)
  · exact .two "shared" g (by decide +kernel) hg
  · exact .two "data" (6 + m') (by decide +kernel) (by omega)
  · refine .lv (6 + m') e (by omega) ?_
    rcases he with rfl | rfl | rfl
    · exact .inl rfl
    · exact .inr ⟨1, by decide, rfl⟩
    · exact .inr ⟨4, by decide, rfl⟩
def spEnt (C : Addr) : Sp := fun vs H Q _ => ∃ (tp sa fl : Addr) (pg m : Nat), vs = [.ref tp, .int (pg : Int), .ref fl] ∧ Tape H tp sa ∧ H fl = some (.lst (frV m)) ∧ fl ≠ tp ∧ fl ≠ sa ∧ pg < 16 ∧ m ≤ 16 ∧ ∀ H' x d m', Tape H' tp sa → H' fl = some (.lst (frV m')) → Chg [tp, fl] H H' → Is C H' x d → EntOk pg m d m' → Q x H'
section
variable {P : Program} {w : World} {K : PySem.W.Frag} {mg : Str → Option Value} {base : Heap} {f : Addr} {fd : FuncData} {C N : Addr}
abbrev s__law_entry : Stmt := top 61
theorem sc__law_entry : FnScope ["tape", "page", "free", "kind"] ["tape", "page", "free"] (C8.fnScope s__law_entry) := C8.fnScope_by (by decide +kernel)
theorem ok__law_entry (F : C8.Def K mg "_law_entry" s__law_entry f fd) (b : Binds K fd ["tape", "page", "free"] []) (T : Txt K mg w C) (c__law_next : C8.Cal P w K mg base 1 "_law_next" spNext []) : C8.Cal P w K mg base 2 "_law_entry" (spEnt C) [] := by
  refine C8.cal0 F b .nil sc__law_entry (fun vs H Q E h => ?_) (fun cdv A outer s H vs Q E hr h => ?_)
  · obtain ⟨tp, sa, fl, pg, m, rfl, _⟩ := h; rfl
  obtain ⟨tp, sa, fl, pg, m, rfl, t0, hfl, ntp, nsa, hpg, hm, q⟩ := h
  refine ⟨_, (pss_cons (ps_set (i := 3) sc__law_entry.nd rfl (Or.inl rfl) (C8.pe_c c__law_next hr (by first | decide | omega) rfl (pa_cons (pv 0) (pa_cons pe_int pa_nil))))
      (C8.pss_cut (ps_if (PW.pt (pw_or (pt_cmpR op_eq (pv 3) pe_int (nomark _)) (pw_or1 (PW.pt (pw_and (pt_cmpR op_lt (pv 1) pe_int (nomark _)) (pw_and1 (pt_cmpR (op_eqD (room64 hr)) (pv 2) (pe_lst pa_nil) (nomark _)))))))) (pss_one (ps_ret pe_non)) pss_nil)
      (C8.pss_cut (ps_if (pt_cmpR op_ge (pv 1) pe_int (nomark _)) (pss_one (ps_ret (pe_ix ix_tup (pe_tup (pa_cons pe_non (pa_cons (pe_tup (pa_cons pe_str (pa_cons pe_int pa_nil))) (pa_cons (pe_tup (pa_cons pe_str (pa_cons (C8.pe_c c__law_next hr (by first | decide | omega) rfl (pa_cons (pv 0) (pa_cons pe_int pa_nil))) pa_nil))) (pa_cons pe_str pa_nil))))) (C8.pe_c c__law_next hr (by first | decide | omega) rfl (pa_cons (pv 0) (pa_cons pe_int pa_nil))) (fun _ _ => rfl)))) pss_nil)
      (C8.pss_cut (ps_if (pt_cmpR op_eq (pv 3) pe_int (nomark _)) (pss_one (ps_ret (pe_ix ix_tup (pe_tup (pa_cons pe_str (pa_cons (pe_tup (pa_cons pe_str (pa_cons pe_int pa_nil))) pa_nil))) (C8.pe_c c__law_next hr (by first | decide | omega) rfl (pa_cons (pv 0) (pa_cons pe_int pa_nil))) (fun _ _ => rfl)))) pss_nil)
      (C8.pss_cut (ps_if (pt_cmpR op_eq (pv 3) pe_int (nomark _)) (pss_one (ps_ret (pe_tup (pa_cons pe_str (pa_cons (pe_bm0 PySem.F.plainAttrs_list PySem.F.slot_list_pop PySem.F.type_list_pop mt_pop (pv 2)) (pa_cons (pe_ix ix_tup (pe_tup (pa_cons pe_non (pa_cons pe_int (pa_cons pe_int pa_nil)))) (C8.pe_c c__law_next hr (by first | decide | omega) rfl (pa_cons (pv 0) (pa_cons pe_int pa_nil))) (fun _ _ => rfl)) pa_nil)))))) pss_nil)
      (pss_one (ps_ret (pe_tup (pa_cons pe_str (pa_cons (pe_bm0 PySem.F.plainAttrs_list PySem.F.slot_list_pop PySem.F.type_list_pop mt_pop (pv 2)) pa_nil)))))))))), ?_⟩
  refine ⟨_, rfl, tp, sa, 5, rfl, t0, by decide, by decide, fun H1 kd t1 o1 g0 g1 => ?_⟩
  have hf1 := o1 _ _ hfl ntp
  have c1 : Chg [tp, fl] H H1 := (Chg.off o1).mono (by simp)
  refine ⟨fun σ' H' => Same H1 H' ∧ σ' = [some (.ref tp), some (.int (pg : Int)), some (.ref fl), some (.int kd)] ∧ (pg < 8 → 0 < m), ?_, ?_⟩
  · refine ⟨_, rfl, rfl, _, rfl, ?_⟩
    by_cases k0 : kd = 0
    · exact ifT (by rw [k0]) (q H1 .non .non m t1 hf1 c1 .non (.inl ⟨rfl, .inl rfl⟩))
    refine ifF (fun z => k0 (V.int.inj z)) ⟨_, rfl, _, _, rfl, rfl, _, rfl, ?_⟩
    by_cases h8 : pg < 8
    · refine ifT (by omega) ⟨_, rfl, Nat.zero_le _, fun u hu => ?_⟩
      have su := same_new (o := .lst []) hu
      have hf2 := su _ _ hf1
      have eu : (upd H1 u (.lst [])) u = some (.lst []) := upd_same
      generalize upd H1 u (.lst []) = H2 at *
      have hp1 : pln (.lst ((List.range m).map fun i => D.int (6 + ((i : Nat) : Int)))) = true := by
        simp only [pln]
        clear hf1 hf2 hfl hm q
        generalize List.range m = l
        induction l with
        | nil => rfl
        | cons x l ih => simp only [List.map_cons, plnL, ih, pln]; rfl
      have hd1 : dpt (.lst ((List.range m).map fun i => D.int (6 + ((i : Nat) : Int)))) ≤ 64 := by
        simp only [dpt]
        have : dptL ((List.range m).map fun i => D.int (6 + ((i : Nat) : Int))) = 0 := by
          clear hf1 hf2 hfl hm q hp1
          generalize List.range m = l
          induction l with
          | nil => rfl
          | cons x l ih => simp only [List.map_cons, dptL, ih, dpt]; rfl
        omega
      have hi1 : Is C H2 (.ref fl) (.lst ((List.range m).map fun i => D.int (6 + ((i : Nat) : Int)))) := by
        refine .lst hf2 ?_
        unfold frV
        clear hf1 hf2 hfl hm q hp1 hd1
        generalize List.range m = l
        induction l with
        | nil => exact .nil
        | cons x l ih => exact .cons (.int _) ih
      refine ⟨_, .list [], is_dp hp1 hi1, .lst (SqL.of eu) .nil, pyd_shaped hp1 hd1, rfl, _, rfl, ?_⟩
      cases m with
      | zero => exact bT (eqv_nil []) (q H2 .non .non 0 (t1.same su) hf2 (c1.trans (Chg.of su)) .non (.inl ⟨rfl, .inl rfl⟩))
      | succ m => exact bF ((eqv_nil _).trans (by rw [List.range_succ]; simp)) ⟨su, rfl, fun _ => Nat.succ_pos m⟩
    · exact ifF (by omega) ⟨Same.refl _, rfl, fun z => absurd z h8⟩
  rintro σ' H2 ⟨s2, rfl, hpm⟩
  have t2 := t1.same s2
  have hf2 := s2 _ _ hf1
  have c2 := c1.trans (Chg.of s2)
  clear s2 t1 hf1 c1 o1 t0 hfl
  have s44 : (4 : Nat) ≤ sizeLine := by show 4 ≤ sizeLine; decide
  have s22 : (2 : Nat) ≤ sizeLine := by show 2 ≤ sizeLine; decide
  refine ⟨fun σ' H' => H' = H2 ∧ σ' = [some (.ref tp), some (.int (pg : Int)), some (.ref fl), some (.int kd)] ∧ pg < 8, ?_, ?_⟩
  · refine ⟨_, rfl, _, _, rfl, rfl, _, rfl, ?_⟩
    by_cases h8 : pg < 8
    · exact ifF (by omega) ⟨rfl, rfl, h8⟩
    refine ifT (by omega) ?_
    -- the tuple of four
    refine ⟨s22, fun u1 hu1 => ?_⟩
    have s1 := same_new (o := .tup [.str "shared", .int 23]) hu1
    have e1 : (upd H2 u1 (.tup [.str "shared", .int 23])) u1 = some (.tup [.str "shared", .int 23]) := upd_same
    have t3 := t2.same s1
    have hf3 := s1 _ _ hf2
    have c3 := c2.trans (Chg.of s1)
    generalize upd H2 u1 (.tup [.str "shared", .int 23]) = H3 at *
    refine ⟨_, rfl, tp, sa, 24, rfl, t3, by decide, by decide, fun H4 r t4 o4 g2 g3 => ?_⟩
    have n1 : u1 ≠ tp := fun z => by
      obtain ⟨_, _, _, _, h, _⟩ := t3
      rw [← z, e1] at h; cases h
    have e1 := o4 _ _ e1 n1
    have hf4 := o4 _ _ hf3 ntp
    have c4 := c3.trans ((Chg.off o4).mono (by simp))
    refine ⟨s22, fun u2 hu2 => ?_⟩
    have s5 := same_new (o := .tup [.str "shared", .int r]) hu2
    have e2 : (upd H4 u2 (.tup [.str "shared", .int r])) u2 = some (.tup [.str "shared", .int r]) := upd_same
    have e1 := s5 _ _ e1
    have t5 := t4.same s5
    have hf5 := s5 _ _ hf4
    have c5 := c4.trans (Chg.of s5)
    generalize upd H4 u2 (.tup [.str "shared", .int r]) = H5 at *
    refine ⟨s44, fun u3 hu3 => ?_⟩
    have s6 := same_new (o := .tup [.non, .ref u1, .ref u2, .str "destroyed"]) hu3
    have e3 : (upd H5 u3 (.tup [.non, .ref u1, .ref u2, .str "destroyed"])) u3 = some (.tup [.non, .ref u1, .ref u2, .str "destroyed"]) := upd_same
    have e1 := s6 _ _ e1
    have e2 := s6 _ _ e2
    have t6 := t5.same s6
    have hf6 := s6 _ _ hf5
    have c6 := c5.trans (Chg.of s6)
    generalize upd H5 u3 (.tup [.non, .ref u1, .ref u2, .str "destroyed"]) = H6 at *
    refine ⟨_, rfl, tp, sa, 4, rfl, t6, by decide, by decide, fun H7 k t7 o7 g4 g5 => ?_⟩
    have kk := chg_keep (C := C) (ps := [tp]) (by intro c hc; simp at hc; rw [hc]; exact t6.cell.1) (Chg.off o7)
    have e1 := kk.tup _ _ e1
    have e2 := kk.tup _ _ e2
    have e3 := kk.tup _ _ e3
    have hf7 := o7 _ _ hf6 ntp
    have c7 := c6.trans ((Chg.off o7).mono (by simp))
    by_cases k1 : k = 0
    · subst k1
      exact ⟨u3, _, 0, _, rfl, rfl, SqT.of e3, atI_nat (j := 0) rfl, q H7 _ _ m t7 hf7 c7 .non (.inl ⟨rfl, .inl rfl⟩)⟩
    by_cases k2 : k = 1
    · subst k2
      exact ⟨u3, _, 1, _, rfl, rfl, SqT.of e3, atI_nat (j := 1) rfl, q H7 _ _ m t7 hf7 c7 (.tup e1 (.cons (.str _) (.cons (.int _) .nil))) (.inl ⟨rfl, .inr (.inr ⟨by omega, .inr ⟨23, by decide, rfl⟩⟩)⟩)⟩
    by_cases k3 : k = 2
    · subst k3
      exact ⟨u3, _, 2, _, rfl, rfl, SqT.of e3, atI_nat (j := 2) rfl, q H7 _ _ m t7 hf7 c7 (.tup e2 (.cons (.str _) (.cons (.int _) .nil))) (.inl ⟨rfl, .inr (.inr ⟨by omega, .inr ⟨r.toNat, by omega, by rw [Int.toNat_of_nonneg g2]⟩⟩)⟩)⟩
    obtain rfl : k = 3 := by omega
    exact ⟨u3, _, 3, _, rfl, rfl, SqT.of e3, atI_nat (j := 3) rfl, q H7 _ _ m t7 hf7 c7 (.str _) (.inl ⟨rfl, .inr (.inr ⟨by omega, .inl rfl⟩)⟩)⟩
  rintro σ' H3 ⟨rfl, rfl, h8⟩
  have hpm := hpm h8
  obtain ⟨m1, rfl⟩ : ∃ m1, m = m1 + 1 := ⟨m - 1, by omega⟩
  have pops : (frV (m1 + 1))[(frV (m1 + 1)).length - 1]? = some (.int (6 + (m1 : Int))) ∧ (frV (m1 + 1)).dropLast = frV m1 := by
    rw [frV_succ]
    exact ⟨by simp, by simp⟩
  have nle : (6 : Int) + (m1 : Int) = ((6 + m1 : Nat) : Int) := by omega
  refine ⟨fun σ' H' => H' = H3 ∧ σ' = [some (.ref tp), some (.int (pg : Int)), some (.ref fl), some (.int kd)], ?_, ?_⟩
  · refine ⟨_, rfl, rfl, _, rfl, ?_⟩
    by_cases k0 : kd = 1
    · refine ifT (by rw [k0]) ?_
      refine ⟨s22, fun u1 hu1 => ?_⟩
      have s1 := same_new (o := .tup [.str "out", .int 2]) hu1
      have e1 : (upd H3 u1 (.tup [.str "out", .int 2])) u1 = some (.tup [.str "out", .int 2]) := upd_same
      have t3 := t2.same s1
      have hf3 := s1 _ _ hf2
      have c3 := c2.trans (Chg.of s1)
      generalize upd H3 u1 (.tup [.str "out", .int 2]) = H4 at *
      refine ⟨s22, fun u3 hu3 => ?_⟩
      have s6 := same_new (o := .tup [.str "destroyed", .ref u1]) hu3
      have e3 : (upd H4 u3 (.tup [.str "destroyed", .ref u1])) u3 = some (.tup [.str "destroyed", .ref u1]) := upd_same
      have e1 := s6 _ _ e1
      have t6 := t3.same s6
      have hf6 := s6 _ _ hf3
      have c6 := c3.trans (Chg.of s6)
      generalize upd H4 u3 (.tup [.str "destroyed", .ref u1]) = H6 at *
      refine ⟨_, rfl, tp, sa, 2, rfl, t6, by decide, by decide, fun H7 k t7 o7 g4 g5 => ?_⟩
      have kk := chg_keep (C := C) (ps := [tp]) (by intro c hc; simp at hc; rw [hc]; exact t6.cell.1) (Chg.off o7)
      have e1 := kk.tup _ _ e1
      have e3 := kk.tup _ _ e3
      have hf7 := o7 _ _ hf6 ntp
      have c7 := c6.trans ((Chg.off o7).mono (by simp))
      by_cases k1 : k = 0
      · subst k1
        exact ⟨u3, _, 0, _, rfl, rfl, SqT.of e3, atI_nat (j := 0) rfl, q H7 _ _ (m1 + 1) t7 hf7 c7 (.str _) (.inl ⟨rfl, .inr (.inl ⟨h8, .inl rfl⟩)⟩)⟩
      obtain rfl : k = 1 := by omega
      exact ⟨u3, _, 1, _, rfl, rfl, SqT.of e3, atI_nat (j := 1) rfl, q H7 _ _ (m1 + 1) t7 hf7 c7 (.tup e1 (.cons (.str _) (.cons (.int _) .nil))) (.inl ⟨rfl, .inr (.inl ⟨h8, .inr rfl⟩)⟩)⟩
    · exact ifF (fun z => k0 (V.int.inj z)) ⟨rfl, rfl⟩
  rintro σ' H4 ⟨rfl, rfl⟩
  refine ⟨fun σ' H' => H' = H4 ∧ σ' = [some (.ref tp), some (.int (pg : Int)), some (.ref fl), some (.int kd)], ?_, ?_⟩
  · refine ⟨_, rfl, rfl, _, rfl, ?_⟩
    by_cases k0 : kd = 2
    · refine ifT (by rw [k0]) ?_
      refine ⟨_, rfl, .inl ⟨rfl, _, SqL.of hf2⟩, fl, _, _, rfl, rfl, hf2, pops.1, ?_⟩
      rw [pops.2]
      have t3 : Tape (upd H4 fl (.lst (frV m1))) tp sa := t2.chg (ps := [fl]) (Chg.put (by simp)) (by simp; exact fun z => ntp z.symm) (by simp; exact fun z => nsa z.symm)
      have hf3 : (upd H4 fl (.lst (frV m1))) fl = some (.lst (frV m1)) := upd_same
      have c3 : Chg [tp, fl] H (upd H4 fl (.lst (frV m1))) := c2.trans (Chg.put (by simp))
      generalize upd H4 fl (.lst (frV m1)) = H5 at *
      refine ⟨(by show 3 ≤ sizeLine; decide), fun u1 hu1 => ?_⟩
      have s1 := same_new (o := .tup [.non, .int 1, .int 4]) hu1
      have e1 : (upd H5 u1 (.tup [.non, .int 1, .int 4])) u1 = some (.tup [.non, .int 1, .int 4]) := upd_same
      have t5 := t3.same s1
      have hf5 := s1 _ _ hf3
      have c5 := c3.trans (Chg.of s1)
      generalize upd H5 u1 (.tup [.non, .int 1, .int 4]) = H6 at *
      refine ⟨_, rfl, tp, sa, 3, rfl, t5, by decide, by decide, fun H7 k t7 o7 g4 g5 => ?_⟩
      have kk := chg_keep (C := C) (ps := [tp]) (by intro c hc; simp at hc; rw [hc]; exact t5.cell.1) (Chg.off o7)
      have e1 := kk.tup _ _ e1
      have hf7 := o7 _ _ hf5 ntp
      have c7 := c5.trans ((Chg.off o7).mono (by simp))
      obtain ⟨x, e, hx, ix, he⟩ : ∃ x e, atI [V.non, .int 1, .int 4] k = some x ∧ (∀ H : Hp, Is C H x e) ∧ (e = .non ∨ e = .int 1 ∨ e = .int 4) := by
        by_cases k1 : k = 0
        · subst k1; exact ⟨_, _, atI_nat (j := 0) rfl, fun _ => .non, .inl rfl⟩
        by_cases k2 : k = 1
        · subst k2; exact ⟨_, _, atI_nat (j := 1) rfl, fun _ => .int _, .inr (.inl rfl)⟩
        obtain rfl : k = 2 := by omega
        exact ⟨_, _, atI_nat (j := 2) rfl, fun _ => .int _, .inr (.inr rfl)⟩
      refine ⟨u1, _, k, x, rfl, rfl, SqT.of e1, hx, (by show 3 ≤ sizeLine; decide), fun u2 hu2 => ?_⟩
      have s8 := same_new (o := .tup [.str "leaving", .int (6 + (m1 : Int)), x]) hu2
      refine q _ _ _ m1 (t7.same s8) (s8 _ _ hf7) (c7.trans (Chg.of s8)) (.tup upd_same (.cons (.str _) (.cons (.int _) (.cons (ix _) .nil)))) ?_
      rw [nle]
      exact .inr ⟨h8, rfl, .inr ⟨e, he, rfl⟩⟩
    · exact ifF (fun z => k0 (V.int.inj z)) ⟨rfl, rfl⟩
  rintro σ' H5 ⟨rfl, rfl⟩
  refine ⟨_, rfl, .inl ⟨rfl, _, SqL.of hf2⟩, fl, _, _, rfl, rfl, hf2, pops.1, ?_⟩
  rw [pops.2]
  have t3 : Tape (upd H5 fl (.lst (frV m1))) tp sa := t2.chg (ps := [fl]) (Chg.put (by simp)) (by simp; exact fun z => ntp z.symm) (by simp; exact fun z => nsa z.symm)
  have hf3 : (upd H5 fl (.lst (frV m1))) fl = some (.lst (frV m1)) := upd_same
  have c3 : Chg [tp, fl] H (upd H5 fl (.lst (frV m1))) := c2.trans (Chg.put (by simp))
  generalize upd H5 fl (.lst (frV m1)) = H6 at *
  refine ⟨s22, fun u2 hu2 => ?_⟩
  have s8 := same_new (o := .tup [.str "data", .int (6 + (m1 : Int))]) hu2
  refine q _ _ _ m1 (t3.same s8) (s8 _ _ hf3) (c3.trans (Chg.of s8)) (.tup upd_same (.cons (.str _) (.cons (.int _) .nil))) ?_
  rw [nle]
  exact .inr ⟨h8, rfl, .inl rfl⟩
end
end Hc

set_option maxHeartbeats 8000000
namespace Hc
open PySem PySem.Spec PyProof.Rows L2 Hr
inductive Lf | no | yes (tb : Bool) (ra wa : Addr) (ds : List D)
def lfW (j : Nat) : Lf → D
  | .no => .non
  | .yes true _ _ _ => .tup [.str "table", .int ((2 + j : Nat) : Int)]
  | .yes false _ _ _ => .tup [.str "leaving", .int ((2 + j : Nat) : Int), .int 3]
def lfR (j : Nat) : Lf → List Rr
  | .no => []
  | .yes _ ra wa ds => [⟨2 + j, ra, wa, ds, "table", .int 0⟩]
def rootD : Nat → List Lf → List D
  | _, [] => []
  | j, l :: ls => lfW j l :: rootD (j + 1) ls
def leafR : Nat → List Lf → List Rr
  | _, [] => []
  | j, l :: ls => lfR j l ++ leafR (j + 1) ls
theorem rootD_len : ∀ (j : Nat) (ls : List Lf), (rootD j ls).length = ls.length
  | _, [] => rfl
  | j, l :: ls => by simp only [rootD, List.length_cons, rootD_len (j + 1) ls]
theorem rootD_app : ∀ (j : Nat) (as bs : List Lf), rootD j (as ++ bs) = rootD j as ++ rootD (j + as.length) bs
  | j, [], bs => by simp [rootD]
  | j, a :: as, bs => by
    rw [List.cons_append]; simp only [rootD, List.cons_append, List.length_cons, rootD_app (j + 1) as bs]
    rw [show j + 1 + as.length = j + (as.length + 1) by omega]
theorem leafR_app : ∀ (j : Nat) (as bs : List Lf), leafR j (as ++ bs) = leafR j as ++ leafR (j + as.length) bs
  | j, [], bs => by simp [leafR]
  | j, a :: as, bs => by
    rw [List.cons_append]; simp only [leafR, List.append_assoc, List.length_cons, leafR_app (j + 1) as bs]
    rw [show j + 1 + as.length = j + (as.length + 1) by omega]
theorem leafR_g : ∀ (j : Nat) (ls : List Lf), ∀ r ∈ leafR j ls, 2 + j ≤ r.g ∧ r.g < 2 + j + ls.length
  | _, [], r, h => by cases h
  | j, l :: ls, r, h => by
    simp only [leafR] at h
    rcases List.mem_append.mp h with h | h
    · cases l with
      | no => cases h
      | yes tb ra wa ds =>
        simp only [lfR, List.mem_cons, List.not_mem_nil, or_false] at h
        rw [h]; simp
    · have := leafR_g (j + 1) ls r h
      simp only [List.length_cons]; omega
inductive EntsOk (pg m : Nat) : List D → Nat → Prop
  | nil : EntsOk pg m [] m
  | snoc {ds : List D} {m1 : Nat} {d : D} {m2 : Nat} : EntsOk pg m ds m1 → EntOk (pg + ds.length) m1 d m2 → EntsOk pg m (ds ++ [d]) m2
theorem EntOk.le {pg m m' : Nat} {d : D} (h : EntOk pg m d m') : m' ≤ m := by
  rcases h with ⟨h, _⟩ | ⟨_, h, _⟩ <;> omega
theorem EntsOk.le {pg m m' : Nat} {ds : List D} (h : EntsOk pg m ds m') : m' ≤ m := by
  induction h with
  | nil => exact Nat.le_refl _
  | snoc _ h ih => exact Nat.le_trans h.le ih
theorem EntsOk.wsh {pg m m' : Nat} {ds : List D} (h : EntsOk pg m ds m') (hm : m ≤ 16) : ∀ e ∈ ds, Wsh e := by
  induction h with
  | nil => intro e he; cases he
  | snoc h1 h2 ih =>
    intro e he
    rcases List.mem_append.mp he with he | he
    · exact ih e he
    · simp only [List.mem_cons, List.not_mem_nil, or_false] at he
      rw [he]; exact h2.wsh (Nat.le_trans h1.le hm)
inductive ChL : List Lf → Nat → Prop
  | nil : ChL [] 16
  | no {ls : List Lf} {m : Nat} : ChL ls m → ChL (ls ++ [.no]) m
  | yes {ls : List Lf} {m m' : Nat} {tb : Bool} {ra wa : Addr} {ds : List D} : ChL ls m → EntsOk (4 * ls.length) m ds m' → ds.length = 4 → ChL (ls ++ [.yes tb ra wa ds]) m'
theorem ChL.le {ls : List Lf} {m : Nat} (h : ChL ls m) : m ≤ 16 := by
  induction h with
  | nil => exact Nat.le_refl _
  | no _ ih => exact ih
  | yes _ h _ ih => exact Nat.le_trans h.le ih
def dataW : List D := [.int 0, .int 1, .str "x", .tup [.int 1, .int 2]]
def Built (rs : List Rr) : Prop := ∃ ra wa ls dl m, ls.length = 4 ∧ ChL ls m ∧ rs = ⟨1, ra, wa, rootD 0 ls, "table", .int 0⟩ :: (leafR 0 ls ++ dl) ∧ (∀ r ∈ dl, r.ds = dataW ∧ r.st = ("data" : Str) ∧ r.ow = .int 0 ∧ 6 ≤ r.g) ∧ ∀ g, 6 + m ≤ g → g < 22 → ∃ r ∈ dl, r.g = g
/-- the cells of the memory, of the tape and of the rows are different ones -/
structure Sep (a : Ads) (tp sa rd : Addr) (rs : List Rr) : Prop where
  rm : ∀ c ∈ rd :: rcells rs, c ∉ a.cells ∧ c ≠ tp ∧ c ≠ sa
  tm : tp ∉ a.cells
  sm : sa ∉ a.cells
abbrev zW : Nat → List D := fun _ => List.replicate 4 (.int 0)
def spBuilt (N C : Addr) : Sp := fun vs H Q _ => ∃ (tp sa : Addr), vs = [.ref tp] ∧ Tape H tp sa ∧ ∀ H' t p a rd rs, Tape H' tp sa → H' t = some (.tup [.ref p, .ref rd]) → MeR N C H' p a (List.replicate 24 hostD) zW 0 → Rows C H' rd rs → Built rs → Sep a tp sa rd rs → Q (.ref t) H'
theorem valV_dkv {rs : List Rr} {r : Rr} (h : r ∈ rs) (n : (rs.map (·.g)).Nodup) : valV (dkv rs) (.inl (r.g : Int)) = some (.ref r.ra) := by
  induction rs with
  | nil => cases h
  | cons x rs ih =>
    rw [List.map_cons] at n
    obtain ⟨n1, n2⟩ := List.nodup_cons.mp n
    rcases List.mem_cons.mp h with rfl | h
    · exact valV_pos rfl
    · have : ¬ ((Sum.inl (x.g : Int) : Key) = .inl (r.g : Int)) := fun z => n1 (by
        have := Sum.inl.inj z
        rw [show x.g = r.g by omega]
        exact List.mem_map.mpr ⟨r, h, rfl⟩)
      show valV ((Sum.inl (x.g : Int), V.ref x.ra) :: dkv rs) _ = _
      rw [valV_neg this]; exact ih h n2
theorem valV_dkvN {rs : List Rr} {g : Nat} (h : g ∉ rs.map (·.g)) : valV (dkv rs) (.inl (g : Int)) = none := by
  induction rs with
  | nil => rfl
  | cons x rs ih =>
    rw [List.map_cons, List.mem_cons, not_or] at h
    have : ¬ ((Sum.inl (x.g : Int) : Key) = .inl (g : Int)) := fun z => h.1 (by
      have := Sum.inl.inj z
      omega)
    show valV ((Sum.inl (x.g : Int), V.ref x.ra) :: dkv rs) _ = _
    rw [valV_neg this]; exact ih h.2
theorem putK_dkv {rs : List Rr} {g : Nat} {ra : Addr} {wa : Addr} {ds : List D} {st : Str} {ow : D} (h : g ∉ rs.map (·.g)) : putK (dkv rs) (.inl (g : Int)) (.ref ra) = dkv (rs ++ [⟨g, ra, wa, ds, st, ow⟩]) := by
  rw [putK_new _ (valV_dkvN h)]
  unfold dkv
  rw [List.map_append]; rfl
theorem rcells_app (as bs : List Rr) : rcells (as ++ bs) = rcells as ++ rcells bs := by unfold rcells; rw [List.flatMap_append]
/-- a new row -/
theorem Rows.add {C : Addr} {H : Hp} {rd : Addr} {rs : List Rr} (h : Rows C H rd rs) {r : Rr} (hr : RowAt C H r) (hg : r.g ∉ rs.map (·.g)) (n1 : r.ra ∉ rd :: rcells rs) (n2 : r.wa ∉ rd :: rcells rs) (n3 : r.ra ≠ r.wa) : Rows C (upd H rd (.dK (dkv (rs ++ [r])))) rd (rs ++ [r]) := by
  have cp : ∀ c ∈ [rd], CellP H c := by intro c hc; simp at hc; rw [hc]; exact .inr ⟨_, h.hd⟩
  have ch : Chg [rd] H (upd H rd (.dK (dkv (rs ++ [r])))) := Chg.put (by simp)
  have kk := chg_keep (C := C) cp ch
  obtain ⟨m1, m2⟩ := List.nodup_cons.mp h.cells
  simp only [List.mem_cons, not_or] at n1 n2
  refine ⟨upd_same, fun x hx => ?_, ?_, ?_⟩
  · rcases List.mem_append.mp hx with hx | hx
    · exact (h.rows x hx).keep kk ch (by simp; exact fun z => m1 (z ▸ (mem_rcells hx).1)) (by simp; exact fun z => m1 (z ▸ (mem_rcells hx).2))
    · simp only [List.mem_cons, List.not_mem_nil, or_false] at hx
      rw [hx]; exact hr.keep kk ch (by simp; exact n1.1) (by simp; exact n2.1)
  · rw [List.map_append]
    exact List.nodup_append.mpr ⟨h.gs, by simp, by simp; exact fun y hy z => hg (z ▸ List.mem_map.mpr ⟨y, hy, rfl⟩)⟩
  · rw [rcells_app]
    refine List.nodup_cons.mpr ⟨?_, List.nodup_append.mpr ⟨m2, ?_, ?_⟩⟩
    · simp [rcells] at m1 ⊢
      exact ⟨m1, fun z => n1.1 z.symm, fun z => n2.1 z.symm⟩
    · simp [rcells]; exact n3
    · intro x hx y hy
      simp only [rcells, List.flatMap_cons, List.flatMap_nil, List.append_nil, List.mem_cons, List.not_mem_nil, or_false] at hy
      rcases hy with rfl | rfl
      · exact fun z => n1.2 (z ▸ hx)
      · exact fun z => n2.2 (z ▸ hx)
end Hc

set_option maxHeartbeats 8000000
namespace Hc
open PySem PySem.Spec PyProof.Rows L2 Hr
theorem nodup_lt : ∀ (n : Nat) (l : List Nat), l.Nodup → (∀ x ∈ l, x < n) → l.length ≤ n
  | 0, l, _, h => by
    cases l with
    | nil => exact Nat.le_refl _
    | cons x l => exact absurd (h x (by simp)) (by omega)
  | n + 1, l, nd, h => by
    have h1 := nodup_lt n (l.erase n) (nd.erase n) fun x hx => by
      have h2 := h x (List.mem_of_mem_erase hx)
      have h3 : x ≠ n := fun z => by
        rw [z] at hx
        exact (List.Nodup.not_mem_erase nd) hx
      omega
    by_cases hm : n ∈ l
    · rw [List.length_erase_of_mem hm] at h1; omega
    · rw [List.erase_of_not_mem hm] at h1; omega
/-- the state while the law builds -/
structure Bld (N C : Addr) (H : Hp) (p : Addr) (a : Ads) (tp sa fl rd : Addr) (m : Nat) (rs : List Rr) : Prop where
  mem : MeR N C H p a (List.replicate 24 hostD) zW 0
  tape : Tape H tp sa
  free : H fl = some (.lst (frV m))
  rows : Rows C H rd rs
  sep : Sep a tp sa rd rs
  fc : fl ∉ a.cells ∧ fl ≠ tp ∧ fl ≠ sa ∧ fl ∉ rd :: rcells rs
section
variable {C N : Addr}
theorem Bld.same {H H' : Hp} {p : Addr} {a : Ads} {tp sa fl rd : Addr} {m : Nat} {rs : List Rr} (h : Bld N C H p a tp sa fl rd m rs) (s : Same H H') : Bld N C H' p a tp sa fl rd m rs :=
  ⟨h.mem.same s, h.tape.same s, s _ _ h.free, h.rows.same s, h.sep, h.fc⟩
/-- the tape and the free granules go on -/
theorem Bld.draw {H H' : Hp} {p : Addr} {a : Ads} {tp sa fl rd : Addr} {m m' : Nat} {rs : List Rr} (h : Bld N C H p a tp sa fl rd m rs) (t : Tape H' tp sa) (f : H' fl = some (.lst (frV m'))) (c : Chg [tp, fl] H H') : Bld N C H' p a tp sa fl rd m' rs := by
  have hl : ∀ c ∈ [tp, fl], CellP H c := by
    intro c hc
    simp only [List.mem_cons, List.not_mem_nil, or_false] at hc
    rcases hc with rfl | rfl
    · exact h.tape.cell.1
    · exact .inl ⟨_, h.free⟩
  refine ⟨h.mem.chg hl (fun x hx z => ?_) c, t, f, h.rows.chg hl c (fun x hx z => ?_), h.sep, h.fc⟩
  · simp only [List.mem_cons, List.not_mem_nil, or_false] at z
    rcases z with rfl | rfl
    · exact h.sep.tm hx
    · exact h.fc.1 hx
  · simp only [List.mem_cons, List.not_mem_nil, or_false] at z
    rcases z with rfl | rfl
    · exact (h.sep.rm _ hx).2.1 rfl
    · exact h.fc.2.2.2 hx
theorem Rows.mod {H : Hp} {rd : Addr} {as bs : List Rr} {r r' : Rr} {l : Addr} {o : HO} (h : Rows C H rd (as ++ r :: bs)) (hl : l = r.ra ∨ l = r.wa) (hg : r'.g = r.g) (h1 : r'.ra = r.ra) (h2 : r'.wa = r.wa) (hr : RowAt C (upd H l o) r') : Rows C (upd H l o) rd (as ++ r' :: bs) := by
  have hmem : r ∈ as ++ r :: bs := by simp
  have lc : l ∈ rcells (as ++ r :: bs) := by rcases hl with rfl | rfl; exact (mem_rcells hmem).1; exact (mem_rcells hmem).2
  have cp : ∀ c ∈ [l], CellP H c := by intro c hc; simp at hc; rw [hc]; exact h.cell _ (List.mem_cons_of_mem _ lc)
  have ch : Chg [l] H (upd H l o) := Chg.put (by simp)
  have kk := chg_keep (C := C) cp ch
  have ec : rcells (as ++ r' :: bs) = rcells (as ++ r :: bs) := by
    simp only [rcells, List.flatMap_append, List.flatMap_cons, h1, h2]
  have eg : (as ++ r' :: bs).map (·.g) = (as ++ r :: bs).map (·.g) := by
    simp only [List.map_append, List.map_cons, hg]
  have ed : dkv (as ++ r' :: bs) = dkv (as ++ r :: bs) := by
    simp only [dkv, List.map_append, List.map_cons, hg, h1]
  obtain ⟨m1, m2⟩ := List.nodup_cons.mp h.cells
  have hne : ∀ x, x ∈ as ∨ x ∈ bs → x.ra ≠ l ∧ x.wa ≠ l := by
    intro x hx
    rw [rcells_app] at m2
    obtain ⟨_, n2, n3⟩ := List.nodup_append.mp m2
    have e1 : rcells (r :: bs) = [r.ra, r.wa] ++ rcells bs := by simp [rcells]
    rw [e1] at n2 n3
    obtain ⟨_, _, n4⟩ := List.nodup_append.mp n2
    have l2 : l ∈ [r.ra, r.wa] := by rcases hl with rfl | rfl <;> simp
    rcases hx with hx | hx
    · exact ⟨n3 _ (mem_rcells hx).1 _ (List.mem_append_left _ l2), n3 _ (mem_rcells hx).2 _ (List.mem_append_left _ l2)⟩
    · exact ⟨fun z => n4 _ l2 _ (mem_rcells hx).1 z.symm, fun z => n4 _ l2 _ (mem_rcells hx).2 z.symm⟩
  refine ⟨by rw [ed, upd_ne (show rd ≠ l from fun z => m1 (by rw [z]; exact lc))]; exact h.hd, fun x hx => ?_, by rw [eg]; exact h.gs, by rw [ec]; exact h.cells⟩
  rcases List.mem_append.mp hx with hx | hx
  · obtain ⟨n1, n2⟩ := hne x (.inl hx)
    exact (h.rows x (by simp [hx])).keep kk ch (by simp; exact n1) (by simp; exact n2)
  · rcases List.mem_cons.mp hx with rfl | hx
    · exact hr
    · obtain ⟨n1, n2⟩ := hne x (.inr hx)
      exact (h.rows x (by simp [hx])).keep kk ch (by simp; exact n1) (by simp; exact n2)
def Far (a : Ads) (tp sa fl rd : Addr) (rs : List Rr) (l : Addr) : Prop := l ∉ a.cells ∧ l ≠ tp ∧ l ≠ sa ∧ l ≠ fl ∧ l ∉ rd :: rcells rs
theorem Bld.fresh {H : Hp} {p : Addr} {a : Ads} {tp sa fl rd : Addr} {m : Nat} {rs : List Rr} {l : Addr} (h : Bld N C H p a tp sa fl rd m rs) (hl : H l = none) : Far a tp sa fl rd rs l := by
  refine ⟨h.mem.fresh hl, fun z => ?_, fun z => ?_, fun z => ?_, fun z => ?_⟩
  · rcases h.tape.cell.1 with ⟨_, e⟩ | ⟨_, e⟩ <;> (rw [← z, hl] at e; cases e)
  · rcases h.tape.cell.2 with ⟨_, e⟩ | ⟨_, e⟩ <;> (rw [← z, hl] at e; cases e)
  · have := h.free; rw [← z, hl] at this; cases this
  · rcases h.rows.cell _ z with ⟨_, e⟩ | ⟨_, e⟩ <;> (rw [hl] at e; cases e)
theorem Bld.other {H : Hp} {p : Addr} {a : Ads} {tp sa fl rd : Addr} {m : Nat} {rs : List Rr} {l : Addr} {zs : List V} {o : HO} (h : Bld N C H p a tp sa fl rd m rs) (n : Far a tp sa fl rd rs l) (hl : H l = some (.lst zs)) : Bld N C (upd H l o) p a tp sa fl rd m rs := by
  obtain ⟨n1, n2, n3, n4, n5⟩ := n
  have cp : ∀ c ∈ [l], CellP H c := by intro c hc; simp at hc; rw [hc]; exact .inl ⟨_, hl⟩
  have ch : Chg [l] H (upd H l o) := Chg.put (by simp)
  refine ⟨h.mem.chg cp (fun c hc z => ?_) ch, h.tape.chg ch (by simp; exact fun z => n2 z.symm) (by simp; exact fun z => n3 z.symm), by rw [upd_ne (fun z => n4 z.symm)]; exact h.free, h.rows.chg cp ch (fun c hc z => ?_), h.sep, h.fc⟩
  · simp at z; exact n1 (z ▸ hc)
  · simp only [List.mem_cons, List.not_mem_nil, or_false] at z; exact n5 (z ▸ hc)
theorem Bld.mod {H : Hp} {p : Addr} {a : Ads} {tp sa fl rd : Addr} {m : Nat} {as bs : List Rr} {r r' : Rr} {l : Addr} {o : HO} (h : Bld N C H p a tp sa fl rd m (as ++ r :: bs)) (hl : l = r.ra ∨ l = r.wa) (hg : r'.g = r.g) (h1 : r'.ra = r.ra) (h2 : r'.wa = r.wa) (hr : RowAt C (upd H l o) r') : Bld N C (upd H l o) p a tp sa fl rd m (as ++ r' :: bs) := by
  have hmem : r ∈ as ++ r :: bs := by simp
  have lc : l ∈ rd :: rcells (as ++ r :: bs) := by rcases hl with rfl | rfl; exact List.mem_cons_of_mem _ (mem_rcells hmem).1; exact List.mem_cons_of_mem _ (mem_rcells hmem).2
  have cp : ∀ c ∈ [l], CellP H c := by intro c hc; simp at hc; rw [hc]; exact h.rows.cell _ lc
  have ch : Chg [l] H (upd H l o) := Chg.put (by simp)
  have ec : rcells (as ++ r' :: bs) = rcells (as ++ r :: bs) := by
    simp only [rcells, List.flatMap_append, List.flatMap_cons, h1, h2]
  obtain ⟨n1, n2, n3⟩ := h.sep.rm l lc
  have n4 : fl ≠ l := fun z => h.fc.2.2.2 (z ▸ lc)
  refine ⟨h.mem.chg cp (fun c hc z => ?_) ch, h.tape.chg ch (by simp; exact fun z => n2 z.symm) (by simp; exact fun z => n3 z.symm), by rw [upd_ne n4]; exact h.free, h.rows.mod hl hg h1 h2 hr, ⟨by rw [ec]; exact h.sep.rm, h.sep.tm, h.sep.sm⟩, ⟨h.fc.1, h.fc.2.1, h.fc.2.2.1, by rw [ec]; exact h.fc.2.2.2⟩⟩
  simp at z; exact n1 (z ▸ hc)
theorem Bld.add {H : Hp} {p : Addr} {a : Ads} {tp sa fl rd : Addr} {m : Nat} {rs : List Rr} {r : Rr} (h : Bld N C H p a tp sa fl rd m rs) (hr : RowAt C H r) (hg : r.g ∉ rs.map (·.g)) (n1 : Far a tp sa fl rd rs r.ra) (n2 : Far a tp sa fl rd rs r.wa) (n3 : r.ra ≠ r.wa) : Bld N C (upd H rd (.dK (dkv (rs ++ [r])))) p a tp sa fl rd m (rs ++ [r]) := by
  have cp : ∀ c ∈ [rd], CellP H c := by intro c hc; simp at hc; rw [hc]; exact .inr ⟨_, h.rows.hd⟩
  have ch : Chg [rd] H (upd H rd (.dK (dkv (rs ++ [r])))) := Chg.put (by simp)
  obtain ⟨x1, x2, x3⟩ := h.sep.rm rd (by simp)
  have n4 : fl ≠ rd := fun z => h.fc.2.2.2 (by rw [z]; simp)
  have ec : ∀ c ∈ rd :: rcells (rs ++ [r]), c ∈ rd :: rcells rs ∨ c = r.ra ∨ c = r.wa := by
    intro c hc
    rw [rcells_app] at hc
    simp [rcells] at hc ⊢
    rcases hc with h | h | h
    · exact .inl (.inl h)
    · exact .inl (.inr h)
    · exact .inr h
  refine ⟨h.mem.chg cp (fun c hc z => ?_) ch, h.tape.chg ch (by simp; exact fun z => x2 z.symm) (by simp; exact fun z => x3 z.symm), by rw [upd_ne n4]; exact h.free, h.rows.add hr hg n1.2.2.2.2 n2.2.2.2.2 n3, ⟨fun c hc => ?_, h.sep.tm, h.sep.sm⟩, ⟨h.fc.1, h.fc.2.1, h.fc.2.2.1, fun z => ?_⟩⟩
  · simp at z; exact x1 (z ▸ hc)
  · rcases ec c hc with h1 | rfl | rfl
    · exact h.sep.rm c h1
    · exact ⟨n1.1, n1.2.1, n1.2.2.1⟩
    · exact ⟨n2.1, n2.2.1, n2.2.2.1⟩
  · rcases ec _ z with h1 | h1 | h1
    · exact h.fc.2.2.2 h1
    · exact n1.2.2.2.1 h1.symm
    · exact n2.2.2.2.1 h1.symm
theorem Bld.len {H : Hp} {p : Addr} {a : Ads} {tp sa fl rd : Addr} {m : Nat} {rs : List Rr} (h : Bld N C H p a tp sa fl rd m rs) : rs.length ≤ 24 := by
  have h1 := nodup_lt 24 (rs.map (·.g)) h.rows.gs fun g hg => by
    obtain ⟨r, hr, e⟩ := List.mem_map.mp hg
    rw [← e]; exact (h.rows.rows r hr).g24
  simpa using h1
end
end Hc

set_option maxHeartbeats 8000000
namespace Hc
open PySem PySem.Spec PyProof.Rows L2 Hr
section
variable {X : Cx} {k j : Nat} {C : Addr} {x : Str} {sp : Sp} {dvs : List V} {p pos : Pos}
theorem pe_mk0 (c : C8.Mak X.prog X.w X.K X.mg X.base k x C sp dvs) (hr : Room j X.A) (hk : k + 1 ≤ j) (hg : Gl X x) (hdb : (x == ("__debug__" : Str)) = false := by decide) :
    PE X (.Call (.Name x p) [] [] pos) (tMake C sp dvs C8.E0 tNil) := by
  obtain ⟨f, fd, ps, ds, M, F, hm, b, d⟩ := c.ex
  exact pe_make0 M F (hr.mono hk) hg hm b d C8.pass0 hdb
end
section
variable {P : Program} {w : World} {K : PySem.W.Frag} {mg : Str → Option Value} {base : Heap} {f : Addr} {fd : FuncData} {C N : Addr}
abbrev s__law_built : Stmt := top 62
theorem sc__law_built : FnScope ["tape", "memory", "free", "rows", "k", "kind", "n", "granule"] ["tape"] (C8.fnScope s__law_built) := C8.fnScope_by (by decide +kernel)
theorem ok__law_built (F : C8.Def K mg "_law_built" s__law_built f fd) (b : Binds K fd ["tape"] []) (T : Txt K mg w C) (hNC : N ≠ C) (k_Memory : C8.Mak P w K mg base 1 "Memory" N (spMI N C) [.non]) (c__law_next : C8.Cal P w K mg base 1 "_law_next" spNext []) (c__law_entry : C8.Cal P w K mg base 2 "_law_entry" (spEnt C) []) : C8.Cal P w K mg base 3 "_law_built" (spBuilt N C) [] := by
  refine C8.cal0 F b .nil sc__law_built (fun vs H Q E h => ?_) (fun cdv A outer s H vs Q E hr h => ?_)
  · obtain ⟨tp, sa, rfl, _⟩ := h; rfl
  obtain ⟨tp, sa, rfl, t0, q⟩ := h
  refine ⟨_, (pss_cons (ps_set (i := 1) sc__law_built.nd rfl (Or.inl rfl) (pe_mk0 k_Memory hr (by first | decide | omega) rfl))
      (pss_cons (ps_set (i := 2) sc__law_built.nd rfl (Or.inr rfl) (pe_listRg rfl rfl T.z_list (prg_2 rfl T.z_range pe_int pe_int)))
      (C8.pss_cut (ps_set (i := 3) sc__law_built.nd rfl (Or.inl rfl) (pe_disp (pps_cons pe_int (pe_lst (pa_cons (pe_op op_rep (pe_lst (pa_cons pe_non pa_nil)) pe_int) (pa_cons pe_str (pa_cons pe_int pa_nil)))) pps_nil) rfl rfl (List.cons_ne_nil _ _) (by decide)))
      (C8.pss_cut (ps_for PassesOwn.never rfl (pi_range1 rfl T.z_range (pa_cons pe_int pa_nil)) (pg_name (i := 4) sc__law_built.nd rfl (Or.inr rfl))
      (pss_cons (ps_set (i := 5) sc__law_built.nd rfl (Or.inl rfl) (C8.pe_c c__law_next hr (by first | decide | omega) rfl (pa_cons (pv 0) (pa_cons pe_int pa_nil))))
      (pss_one (ps_if (pt_cmpR op_gt (pv 5) pe_int (nomark _)) (pss_cons (ps_dput (ru hr) (pv 3) (pe_op op_add pe_int (pv 4)) (pe_lst (pa_cons (pe_lc (own := [("n", 6)]) (g := gName 6) rfl sc__law_built.nd (pi_range1 rfl T.z_range (pa_cons pe_int pa_nil)) (blkOk_by (own := [("n", 6)]) (N := ["tape", "memory", "free", "rows", "k", "kind", "n", "granule"]) (sc := C8.fnScope s__law_built) (by decide +kernel)) (fun _ _ _ _ _ => (pg_name (i := 6) sc__law_built.nd rfl (Or.inl rfl))) (fun _ _ _ _ _ => pts_nil) (fun _ _ _ _ _ => (C8.pe_c c__law_entry hr (by first | decide | omega) rfl (pa_cons (pv 0) (pa_cons (pe_op op_add (pe_op op_mul pe_int (pv 4)) (pv 6)) (pa_cons (pv 2) pa_nil)))))) (pa_cons pe_str (pa_cons pe_int pa_nil)))) rfl)
      (pss_one (ps_asg (pe_ix ix_tup (pe_tup (pa_cons (pe_tup (pa_cons pe_str (pa_cons (pe_op op_add pe_int (pv 4)) pa_nil))) (pa_cons (pe_tup (pa_cons pe_str (pa_cons (pe_op op_add pe_int (pv 4)) pa_nil))) (pa_cons (pe_tup (pa_cons pe_str (pa_cons (pe_op op_add pe_int (pv 4)) (pa_cons pe_int pa_nil)))) pa_nil)))) (pe_op op_sub (pv 5) pe_int) (fun _ _ => rfl)) (pg_sub (pe_ix ix_list (pe_dget (ru hr) (pv 3) pe_int (fun _ _ => rfl)) pe_int (fun _ _ => rfl)) (pv 4) set_list)))) pss_nil))))
      (pss_cons (ps_for PassesOwn.never rfl (pi_range2 rfl T.z_range (pa_cons pe_int (pa_cons pe_int pa_nil))) (pg_name (i := 7) sc__law_built.nd rfl (Or.inl rfl))
      (pss_one (ps_if (pt_cmpR op_notIn_seq (pv 7) (pv 2) (by with_unfolding_all rfl)) (pss_one (ps_dput (ru hr) (pv 3) (pv 7) (pe_lst (pa_cons (pe_lst (pa_cons pe_int (pa_cons pe_int (pa_cons pe_str (pa_cons (pe_tup (pa_cons pe_int (pa_cons pe_int pa_nil))) pa_nil))))) (pa_cons pe_str (pa_cons pe_int pa_nil)))) rfl)) pss_nil)))
      (pss_one (ps_ret (pe_tup (pa_cons (pv 1) (pa_cons (pv 3) pa_nil)))))))))), ?_⟩
  intro p0 dx0 hp0 hdx0 hne0
  refine ⟨p0, dx0, rfl, upd_same, fun H1 a M1 b1 fresh => ⟨rfl, ?_⟩⟩
  have s1 : Same H H1 := fun b o e => b1 b o (by rw [upd_ne (ne_of_none e hp0), upd_ne (ne_of_none e hdx0)]; exact e) (ne_of_none e hp0)
  have fresh : ∀ c ∈ a.cells, H c = none := fun c hc => by
    have := fresh c hc
    by_cases h1 : c = p0
    · rw [h1]; exact hp0
    · rw [upd_ne h1] at this
      by_cases h2 : c = dx0
      · rw [h2]; exact hdx0
      · rwa [upd_ne h2] at this
  have t1 := t0.same s1
  refine ⟨6, 22, rfl, rfl, RgOk.of_le (by decide) (by decide) (by decide) (by decide), fun fl hfl => ?_⟩
  have s2 := same_new (o := .lst (rgV 6 22)) hfl
  have ef : (upd H1 fl (.lst (rgV 6 22))) fl = some (.lst (frV 16)) := upd_same
  have nfc := M1.fresh hfl
  have M2 := M1.same s2
  have t2 := t1.same s2
  have nft := Tape.ne t1 hfl
  have nfs : fl ≠ sa := fun z => by obtain ⟨ns, h⟩ := t1.s; rw [z, h] at hfl; cases hfl
  have s12 := s1.trans s2
  generalize upd H1 fl (.lst (rgV 6 22)) = H2 at *
  have ntm : tp ∉ a.cells := fun z => by
    have := fresh _ z
    rcases t0.cell.1 with ⟨_, h⟩ | ⟨_, h⟩ <;> (rw [this] at h; cases h)
  have nsm : sa ∉ a.cells := fun z => by
    have := fresh _ z
    rcases t0.cell.2 with ⟨_, h⟩ | ⟨_, h⟩ <;> (rw [this] at h; cases h)
  refine ⟨fun σ' H' => ∃ rd ra wa, σ' = [some (.ref tp), some (.ref p0), some (.ref fl), some (.ref rd), none, none, none, none] ∧ Bld N C H' p0 a tp sa fl rd 16 [⟨1, ra, wa, List.replicate 4 .non, "table", .int 0⟩], ?_, ?_⟩
  · intro rd hrd
    have z1 := same_new (o := .dK []) hrd
    have erd : (upd H2 rd (.dK [])) rd = some (.dK []) := upd_same
    generalize upd H2 rd (.dK []) = H3 at *
    refine ⟨(by show 1 ≤ sizeLine; decide), fun l5 h5 => ?_⟩
    have s5 := same_new (o := .lst [.non]) h5
    refine ⟨l5, 4, _, rfl, rfl, upd_same, by decide, by decide, (by show 1 * 4 ≤ sizeLine; decide), fun wa hwa => ?_⟩
    rw [show (4 : Int).toNat = 4 from rfl, repl_flat]
    have s6 := same_new (o := .lst (List.replicate 4 V.non)) hwa
    have e6 : (upd (upd H3 l5 (.lst [.non])) wa (.lst (List.replicate 4 V.non))) wa = some (.lst (List.replicate 4 V.non)) := upd_same
    have s56 := s5.trans s6
    have hwa3 : H3 wa = none := s5.free hwa
    generalize upd (upd H3 l5 (.lst [.non])) wa (.lst (List.replicate 4 V.non)) = H4 at *
    refine ⟨(by show 3 ≤ sizeLine; decide), fun ra hra => ?_⟩
    have s7 := same_new (o := .lst [.ref wa, .str "table", .int 0]) hra
    have e7 : (upd H4 ra (.lst [.ref wa, .str "table", .int 0])) ra = some (.lst [.ref wa, .str "table", .int 0]) := upd_same
    have hra3 : H3 ra = none := s56.free hra
    have nwr : wa ≠ ra := fun z => by rw [← z, e6] at hra; cases hra
    have e6 := s7 _ _ e6
    have s37 := s56.trans s7
    generalize upd H4 ra (.lst [.ref wa, .str "table", .int 0]) = H5 at *
    refine ⟨s37 _ _ erd, [(.inl 1, .ref ra)], rfl, (by show 1 ≤ 15; decide), ?_⟩
    have nra : ra ≠ rd := fun z => by rw [z, erd] at hra3; cases hra3
    have nwa : wa ≠ rd := fun z => by rw [z, erd] at hwa3; cases hwa3
    have hra2 : H2 ra = none := z1.free hra3
    have hwa2 : H2 wa = none := z1.free hwa3
    have sF : Same H2 (upd H5 rd (.dK (mergeK [] [(.inl 1, .ref ra)]))) := same_put (z1.trans s37) hrd
    have fr : ∀ c ∈ rd :: rcells [(⟨1, ra, wa, List.replicate 4 .non, "table", .int 0⟩ : Rr)], H2 c = none := by
      intro c hc
      simp only [rcells, List.flatMap_cons, List.flatMap_nil, List.append_nil, List.mem_cons, List.not_mem_nil, or_false] at hc
      rcases hc with rfl | rfl | rfl
      · exact hrd
      · exact hra2
      · exact hwa2
    refine ⟨rd, ra, wa, rfl, M2.same sF, t2.same sF, sF _ _ ef, ⟨upd_same, ?_, by simp, ?_⟩, ⟨fun c hc => ?_, ntm, nsm⟩, nfc, nft, nfs, fun z => by have := fr _ z; rw [ef] at this; cases this⟩
    · intro r hr
      simp only [List.mem_cons, List.not_mem_nil, or_false] at hr
      subst hr
      refine ⟨⟨.int 0, List.replicate 4 V.non, by rw [upd_ne nra]; exact e7, .int 0, by rw [upd_ne nwa]; exact e6, isA_repl 4 .non⟩, by simp, (by show 1 < 24; decide), ?_, (show ("table" : Str) ∈ statesL by decide +kernel), .inr ⟨0, by decide, rfl⟩⟩
      intro e he
      rw [List.eq_of_mem_replicate he]; exact .non
    · simp [rcells]
      exact ⟨⟨fun z => nra z.symm, fun z => nwa z.symm⟩, fun z => nwr z.symm⟩
    · have h0 := fr c hc
      refine ⟨fun z => ?_, fun z => ?_, fun z => ?_⟩
      · obtain ⟨sx, hsx, _⟩ := M2.hs
        obtain ⟨lx, hlx, _⟩ := M2.hl
        unfold Ads.cells at z
        simp only [List.mem_cons] at z
        rcases z with z | z | z | z
        · rw [z, hsx] at h0; cases h0
        · rw [z, M2.hw] at h0; cases h0
        · rw [z, hlx] at h0; cases h0
        · obtain ⟨k, hk⟩ := List.mem_iff_getElem?.mp z
          obtain ⟨ys, hy, _⟩ := M2.rw k c hk
          rw [hy] at h0; cases h0
      · rcases t2.cell.1 with ⟨_, h⟩ | ⟨_, h⟩ <;> (rw [← z, h0] at h; cases h)
      · rcases t2.cell.2 with ⟨_, h⟩ | ⟨_, h⟩ <;> (rw [← z, h0] at h; cases h)
  rintro σ' H3 ⟨rd, ra, wa, rfl, B0⟩
  clear M2 t2 ef M1 t1
  refine ⟨fun σ' H' => ∃ v4 v5 v6 ra wa ls m, σ' = [some (.ref tp), some (.ref p0), some (.ref fl), some (.ref rd), v4, v5, v6, none] ∧ ls.length = 4 ∧ ChL ls m ∧ Bld N C H' p0 a tp sa fl rd m (⟨1, ra, wa, rootD 0 ls, "table", .int 0⟩ :: leafR 0 ls), ?_, ?_⟩
  · refine ⟨4, rfl, by decide, by decide, for_it (walk_range (lo := 0) (n := 4)) (fun i σ H' => ∃ v4 v5 v6 ra wa ls m, σ = [some (.ref tp), some (.ref p0), some (.ref fl), some (.ref rd), v4, v5, v6, none] ∧ ls.length = i ∧ ChL ls m ∧ Bld N C H' p0 a tp sa fl rd m (⟨1, ra, wa, rootD 0 ls ++ List.replicate (4 - i) .non, "table", .int 0⟩ :: leafR 0 ls)) ⟨none, none, none, ra, wa, [], 16, rfl, rfl, .nil, B0⟩ (fun _ _ _ _ _ => trivial) ?_ ?_⟩
    · clear B0
      rintro i y σ H4x H4 hi ⟨v4, v5, v6, ra, wa, ls, m, rfl, hls, hch, B⟩ ⟨rfl, rfl⟩
      refine ⟨_, rfl, tp, sa, 4, rfl, B.tape, by decide, by decide, fun H5 kd t5 o5 g0 g1 => ?_⟩
      have B5 := B.draw t5 (o5 _ _ B.free B.fc.2.1) ((Chg.off o5).mono (by simp))
      clear B
      refine ⟨_, rfl, _, _, rfl, rfl, _, rfl, ?_⟩
      by_cases k0 : 0 < kd
      · refine ifT k0 ?_
        refine ⟨4, rfl, by decide, by decide, fun Dl hD => ?_⟩
        have sD := same_new (o := .lst []) hD
        have far := B5.fresh hD
        have BD := B5.same sD
        have hch0 := hch.le
        generalize hrs : (⟨1, ra, wa, rootD 0 ls ++ List.replicate (4 - i) .non, "table", .int 0⟩ :: leafR 0 ls : List Rr) = rs at *
        refine lc_it (walk_range (lo := 0) (n := 4)) (fun j H' => ∃ xs ds mj, H' Dl = some (.lst xs) ∧ IsA C H' xs ds ∧ ds.length = j ∧ EntsOk (4 * i) m ds mj ∧ Bld N C H' p0 a tp sa fl rd mj rs) ⟨[], [], m, upd_same, .nil, rfl, .nil, BD⟩ (fun _ _ _ _ => trivial) ?_ ?_
        · clear BD sD B5
          rintro j x H6x H6 hj ⟨xs, ds, mj, hxs, ixs, hds, hen, B6⟩ ⟨rfl, rfl⟩
          have hxl := ixs.len
          have hmj := hen.le
          refine ⟨rfl, yes ?_⟩
          refine ⟨_, rfl, _, rfl, _, _, rfl, rfl, .inr ⟨by omega, by omega⟩, _, rfl, _, _, rfl, rfl, _, rfl, ?_⟩
          refine ⟨tp, sa, fl, 4 * i + j, mj, by show [V.ref tp, V.int (4 * (0 + (i : Int)) + (0 + (j : Int))), V.ref fl] = _; rw [show (4 : Int) * (0 + (i : Int)) + (0 + (j : Int)) = ((4 * i + j : Nat) : Int) by omega], B6.tape, B6.free, B6.fc.2.1, B6.fc.2.2.1, by omega, by omega, fun H7 y d mk t7 f7 c7 iy hok => ?_⟩
          have B7 := B6.draw t7 f7 c7
          have hcl : ∀ c ∈ [tp, fl], CellP H6 c := by
            intro c hc
            simp only [List.mem_cons, List.not_mem_nil, or_false] at hc
            rcases hc with rfl | rfl
            · exact B6.tape.cell.1
            · exact .inl ⟨_, B6.free⟩
          have kk := chg_keep (C := C) hcl c7
          have hxs7 := c7 _ _ hxs (by simp; exact ⟨far.2.1, far.2.2.2.1⟩)
          have ixs7 := IsA.keep kk (clnL_wsh (hen.wsh hch0)) ixs
          have k2 : Keep C H7 (upd H7 Dl (.lst (xs ++ [y]))) := keep_lst0 hxs7
          have wy := hok.wsh (Nat.le_trans hmj hch0)
          refine ⟨xs, hxs7, small1000 (by omega), xs ++ [y], ds ++ [d], mk, upd_same, ?_, by simp [hds], .snoc hen (by rw [hds]; exact hok), B7.other far hxs7⟩
          exact (IsA.keep k2 (clnL_wsh (hen.wsh hch0)) ixs7).app (.cons (Is.keep k2 wy.ok.2.2 iy) .nil)
        · clear BD sD B5
          rintro H6 ⟨xs, ds, mj, hxs, ixs, hds, hen, B6⟩
          refine ⟨(by show 3 ≤ sizeLine; decide), fun ra2 hra2 => ?_⟩
          have s7 := same_new (o := .lst [.ref Dl, .str "table", .int 0]) hra2
          have far2 := B6.fresh hra2
          have nD2 : ra2 ≠ Dl := fun z => by rw [z, hxs] at hra2; cases hra2
          have era2 : (upd H6 ra2 (.lst [.ref Dl, .str "table", .int 0])) ra2 = some (.lst [.ref Dl, .str "table", .int 0]) := upd_same
          have hxs := s7 _ _ hxs
          have ixs := ixs.same s7
          have B7 := B6.same s7
          generalize upd H6 ra2 (.lst [.ref Dl, .str "table", .int 0]) = H7 at *
          have hrow : RowAt C H7 ⟨2 + i, ra2, Dl, ds, "table", .int 0⟩ := ⟨⟨.int 0, xs, era2, .int 0, hxs, ixs⟩, hds, (by show 2 + i < 24; omega), hen.wsh hch0, (show ("table" : Str) ∈ statesL by decide +kernel), .inr ⟨0, by decide, rfl⟩⟩
          have hgn : 2 + i ∉ rs.map (·.g) := fun z => by
            obtain ⟨r, hr, e⟩ := List.mem_map.mp z
            rw [← hrs] at hr
            rcases List.mem_cons.mp hr with rfl | hr
            · have e : 1 = 2 + i := e
              omega
            · have := leafR_g 0 ls r hr
              have e : r.g = 2 + i := e
              omega
          have B8 := B7.add hrow hgn far2 far nD2
          have ekey : (2 : Int) + (0 + (i : Int)) = ((2 + i : Nat) : Int) := by omega
          have hlen := B7.len
          refine ⟨_, rfl, _, rfl, _, _, rfl, rfl, rd, _, rfl, (show DPut H7 rd (.int ((2 : Int) + (0 + (i : Int)))) (.ref ra2) (upd H7 rd (.dK (dkv (rs ++ [⟨2 + i, ra2, Dl, ds, "table", .int 0⟩])))) by rw [ekey, ← putK_dkv hgn]; exact DPut.k (k := .inl ((2 + i : Nat) : Int)) B7.rows.hd (by unfold dkv; rw [List.length_map]; exact small1000 (by omega))), ?_⟩
          clear B7 hxs ixs hrow B6 s7 era2
          generalize upd H7 rd (.dK (dkv (rs ++ [⟨2 + i, ra2, Dl, ds, "table", .int 0⟩]))) = H8 at *
          have s22 : (2 : Nat) ≤ sizeLine := by show 2 ≤ sizeLine; decide
          have s33 : (3 : Nat) ≤ sizeLine := by show 3 ≤ sizeLine; decide
          refine ⟨_, rfl, _, _, rfl, rfl, s22, fun u1 hu1 => ?_⟩
          have q1 := same_new (o := .tup [.str "table", .int ((2 : Int) + (0 + (i : Int)))]) hu1
          have e1 : (upd H8 u1 (.tup [.str "table", .int ((2 : Int) + (0 + (i : Int)))])) u1 = some (.tup [.str "table", .int ((2 : Int) + (0 + (i : Int)))]) := upd_same
          have B9 := B8.same q1
          clear B8
          generalize upd H8 u1 (.tup [.str "table", .int ((2 : Int) + (0 + (i : Int)))]) = H9 at *
          refine ⟨_, rfl, _, _, rfl, rfl, s22, fun u2 hu2 => ?_⟩
          have q2 := same_new (o := .tup [.str "table", .int ((2 : Int) + (0 + (i : Int)))]) hu2
          have e2 : (upd H9 u2 (.tup [.str "table", .int ((2 : Int) + (0 + (i : Int)))])) u2 = some (.tup [.str "table", .int ((2 : Int) + (0 + (i : Int)))]) := upd_same
          have e1 := q2 _ _ e1
          have B10 := B9.same q2
          clear B9
          generalize upd H9 u2 (.tup [.str "table", .int ((2 : Int) + (0 + (i : Int)))]) = H10 at *
          refine ⟨_, rfl, _, _, rfl, rfl, s33, fun u3 hu3 => ?_⟩
          have q3 := same_new (o := .tup [.str "leaving", .int ((2 : Int) + (0 + (i : Int))), .int 3]) hu3
          have e3 : (upd H10 u3 (.tup [.str "leaving", .int ((2 : Int) + (0 + (i : Int))), .int 3])) u3 = some (.tup [.str "leaving", .int ((2 : Int) + (0 + (i : Int))), .int 3]) := upd_same
          have e1 := q3 _ _ e1
          have e2 := q3 _ _ e2
          have B11 := B10.same q3
          clear B10
          generalize upd H10 u3 (.tup [.str "leaving", .int ((2 : Int) + (0 + (i : Int))), .int 3]) = H11 at *
          refine ⟨s33, fun u4 hu4 => ?_⟩
          have q4 := same_new (o := .tup [.ref u1, .ref u2, .ref u3]) hu4
          have e4 : (upd H11 u4 (.tup [.ref u1, .ref u2, .ref u3])) u4 = some (.tup [.ref u1, .ref u2, .ref u3]) := upd_same
          have e1 := q4 _ _ e1
          have e2 := q4 _ _ e2
          have e3 := q4 _ _ e3
          have B12 := B11.same q4
          clear B11
          generalize upd H11 u4 (.tup [.ref u1, .ref u2, .ref u3]) = H12 at *
          obtain ⟨xv, tb, hxv, ixv⟩ : ∃ xv tb, atI [V.ref u1, .ref u2, .ref u3] (kd - 1) = some xv ∧ Is C H12 xv (lfW i (.yes tb ra2 Dl ds)) := by
            have i1 : ∀ u, H12 u = some (.tup [.str "table", .int ((2 : Int) + (0 + (i : Int)))]) → Is C H12 (.ref u) (lfW i (.yes true ra2 Dl ds)) := fun u h => by
              refine .tup h (.cons (.str _) (.cons ?_ .nil))
              rw [ekey]; exact .int _
            by_cases k1 : kd = 1
            · subst k1; exact ⟨_, true, atI_nat (j := 0) rfl, i1 u1 e1⟩
            by_cases k2 : kd = 2
            · subst k2; exact ⟨_, true, atI_nat (j := 1) rfl, i1 u2 e2⟩
            obtain rfl : kd = 3 := by omega
            refine ⟨_, false, atI_nat (j := 2) rfl, .tup e3 (.cons (.str _) (.cons ?_ (.cons (.int _) .nil)))⟩
            rw [ekey]; exact .int _
          clear e1 e2 e3 q1 q2 q3 q4
          have hmem : (⟨1, ra, wa, rootD 0 ls ++ List.replicate (4 - i) .non, "table", .int 0⟩ : Rr) ∈ rs ++ [⟨2 + i, ra2, Dl, ds, "table", .int 0⟩] := by rw [← hrs]; simp
          obtain ⟨xo, zs, r1, r2, r3, r4⟩ := (B12.rows.rows _ hmem).ex
          have dget : DGet H12 rd (.int 1) (some (.ref ra)) := by
            have := DGet.k (k := .inl ((1 : Nat) : Int)) B12.rows.hd
            rw [show (Sum.inl ((1 : Nat) : Int) : Key) = .inl (((⟨1, ra, wa, rootD 0 ls ++ List.replicate (4 - i) .non, "table", .int 0⟩ : Rr).g : Nat) : Int) from rfl, valV_dkv hmem B12.rows.gs] at this
            exact this
          have hzl := r4.len
          have hz4 : zs.length = 4 := by
            rw [hzl, List.length_append, rootD_len, List.length_replicate]; omega
          have hwf : Wsh (lfW i (.yes tb ra2 Dl ds)) := by
            cases tb
            · exact .lv (2 + i) (.int 3) (by omega) (.inr ⟨3, by decide, rfl⟩)
            · exact .two "table" (2 + i) (by decide +kernel) (by omega)
          refine ⟨_, rfl, _, _, rfl, rfl, u4, _, _, xv, rfl, rfl, SqT.of e4, hxv, ?_⟩
          refine ⟨_, rfl, rd, .ref ra, rfl, dget, ra, _, 0, _, rfl, rfl, SqL.of r1, atI_nat (j := 0) rfl, _, rfl, wa, zs, 0 + (i : Int), i, rfl, rfl, r3, by rw [Int.zero_add]; exact ixN_of (by omega), ?_⟩
          rw [← hrs] at B12
          have kk : Keep C H12 (upd H12 wa (.lst (zs.set i xv))) := keep_lst0 r3
          have hdl : rootD 0 (ls ++ [.yes tb ra2 Dl ds]) ++ List.replicate (4 - (i + 1)) .non = (rootD 0 ls ++ List.replicate (4 - i) D.non).set i (lfW i (.yes tb ra2 Dl ds)) := by
            rw [rootD_app, List.append_assoc, List.set_append_right _ _ (by rw [rootD_len]; omega), rootD_len, hls, Nat.sub_self]
            congr 1
            rw [show 4 - i = (4 - (i + 1)) + 1 by omega, List.replicate_succ, List.set_cons_zero]
            simp only [rootD, Nat.zero_add]; rfl
          have R0 := B12.rows.rows _ (by simp : (⟨1, ra, wa, rootD 0 ls ++ List.replicate (4 - i) .non, "table", .int 0⟩ : Rr) ∈ _)
          have nrw : ra ≠ wa := fun z => by rw [z, r3] at r1; cases r1; simp at hz4
          have hw0 := R0.wsh
          have Bm := B12.mod (as := []) (r' := ⟨1, ra, wa, rootD 0 (ls ++ [.yes tb ra2 Dl ds]) ++ List.replicate (4 - (i + 1)) .non, "table", .int 0⟩) (l := wa) (o := .lst (zs.set i xv)) (.inr rfl) rfl rfl rfl (by
            have hw1 : ∀ e ∈ (rootD 0 ls ++ List.replicate (4 - i) D.non).set i (lfW i (.yes tb ra2 Dl ds)), Wsh e := fun e he => by
              rcases List.mem_or_eq_of_mem_set he with h | h
              · exact hw0 e h
              · rw [h]; exact hwf
            rw [hdl]
            refine ⟨⟨xo, zs.set i xv, by rw [upd_ne nrw]; exact r1, Is.keep kk rfl r2, upd_same, isA_set i (IsA.keep kk (clnL_wsh hw0) r4) (Is.keep kk hwf.ok.2.2 ixv)⟩, ?_, by show 1 < 24; decide, hw1, R0.st, R0.ow⟩
            show ((rootD 0 ls ++ List.replicate (4 - i) D.non).set i _).length = 4
            rw [List.length_set, ← hzl]; exact hz4)
          refine ⟨_, _, _, ra, wa, ls ++ [.yes tb ra2 Dl ds], mj, rfl, by simp [hls], .yes hch (by rw [hls]; exact hen) hds, ?_⟩
          have e2 : leafR 0 (ls ++ [.yes tb ra2 Dl ds]) = leafR 0 ls ++ [⟨2 + i, ra2, Dl, ds, "table", .int 0⟩] := by
            rw [leafR_app]; simp [leafR, lfR, hls]
          rw [e2]
          exact Bm
      · refine ifF k0 ⟨_, _, _, ra, wa, ls ++ [.no], m, rfl, by simp [hls], .no hch, ?_⟩
        have e1 : rootD 0 (ls ++ [.no]) ++ List.replicate (4 - (i + 1)) .non = rootD 0 ls ++ List.replicate (4 - i) .non := by
          rw [rootD_app, List.append_assoc]
          congr 1
          rw [show 4 - i = (4 - (i + 1)) + 1 by omega, List.replicate_succ]; rfl
        have e2 : leafR 0 (ls ++ [.no]) = leafR 0 ls := by rw [leafR_app]; simp [leafR, lfR]
        rw [e1, e2]
        exact B5
    · rintro σ H4 ⟨v4, v5, v6, ra, wa, ls, m, rfl, hls, hch, B⟩
      rw [show 4 - 4 = 0 from rfl, List.replicate_zero, List.append_nil] at B
      exact ⟨_, _, _, ra, wa, ls, m, rfl, hls, hch, B⟩
  clear B0
  rintro σ' H4 ⟨v4, v5, v6, ra, wa, ls, m, rfl, hls, hch, B0⟩
  have hm16 := hch.le
  have inF : ∀ g : Nat, 6 ≤ g → inV (.int (g : Int)) (frV m) = decide (g < 6 + m) := fun g h6 => by
    show ((frV m).any fun y => eqV y (.int (g : Int))) = _
    unfold frV
    rw [List.any_map]
    by_cases c : g < 6 + m
    · rw [decide_eq_true c]
      refine List.any_eq_true.mpr ⟨g - 6, List.mem_range.mpr (by omega), ?_⟩
      show eqV (.int (6 + ((g - 6 : Nat) : Int))) (.int (g : Int)) = true
      rw [show (6 : Int) + ((g - 6 : Nat) : Int) = (g : Int) by omega]
      simp [eqV]
    · rw [decide_eq_false c]
      refine List.any_eq_false.mpr fun x hx => ?_
      have := List.mem_range.mp hx
      show ¬ eqV (.int (6 + (x : Int))) (.int (g : Int)) = true
      simp only [eqV]
      intro z
      have := eq_of_beq z
      omega
  refine ⟨6, 22, rfl, ⟨by decide, by decide, by decide, by decide⟩, for_it (walk_range (lo := 6) (n := 16)) (fun i σ H' => ∃ v7 dl, σ = [some (.ref tp), some (.ref p0), some (.ref fl), some (.ref rd), v4, v5, v6, v7] ∧ (∀ r ∈ dl, r.ds = dataW ∧ r.st = ("data" : Str) ∧ r.ow = .int 0 ∧ 6 ≤ r.g ∧ r.g < 6 + i) ∧ (∀ g, 6 + m ≤ g → g < 6 + i → ∃ r ∈ dl, r.g = g) ∧ Bld N C H' p0 a tp sa fl rd m (⟨1, ra, wa, rootD 0 ls, "table", .int 0⟩ :: (leafR 0 ls ++ dl))) ⟨none, [], rfl, by simp, fun g h1 h2 => by omega, by rw [List.append_nil]; exact B0⟩ (fun _ _ _ _ _ => trivial) ?_ ?_⟩
  · clear B0
    rintro i y σ H5x H5 hi ⟨v7, dl, rfl, hdl, hall, B⟩ ⟨rfl, rfl⟩
    have eg : (6 : Int) + (i : Int) = ((6 + i : Nat) : Int) := by omega
    dsimp only
    rw [eg]
    refine ⟨_, rfl, _, rfl, fl, _, rfl, .inl (SqL.of B.free), rfl, (by unfold frV; rw [List.all_map]; exact List.all_eq_true.mpr fun _ _ => rfl), _, rfl, ?_⟩
    show (if (!inV (.int ((6 + i : Nat) : Int)) (frV m)) = true then _ else _)
    rw [inF _ (by omega)]
    by_cases c : 6 + i < 6 + m
    · refine bF (by simp; omega) ⟨_, dl, rfl, fun r hr => ?_, fun g h1 h2 => ?_, B⟩
      · obtain ⟨x1, x2, x3, x4, x5⟩ := hdl r hr
        exact ⟨x1, x2, x3, x4, by omega⟩
      · exact hall g h1 (by omega)
    · refine bT (by simp; omega) ?_
      refine ⟨(by show 2 ≤ sizeLine; decide), fun u1 hu1 => ?_⟩
      have q1 := same_new (o := .tup [.int 1, .int 2]) hu1
      have e1 : (upd H5 u1 (.tup [.int 1, .int 2])) u1 = some (.tup [.int 1, .int 2]) := upd_same
      have B1 := B.same q1
      clear B
      generalize upd H5 u1 (.tup [.int 1, .int 2]) = H6 at *
      refine ⟨(by show 4 ≤ sizeLine; decide), fun wb hwb => ?_⟩
      have q2 := same_new (o := .lst [.int 0, .int 1, .str "x", .ref u1]) hwb
      have e2 : (upd H6 wb (.lst [.int 0, .int 1, .str "x", .ref u1])) wb = some (.lst [.int 0, .int 1, .str "x", .ref u1]) := upd_same
      have e1 := q2 _ _ e1
      have farw := B1.fresh hwb
      have B2 := B1.same q2
      clear B1
      generalize upd H6 wb (.lst [.int 0, .int 1, .str "x", .ref u1]) = H7 at *
      refine ⟨(by show 3 ≤ sizeLine; decide), fun rb hrb => ?_⟩
      have q3 := same_new (o := .lst [.ref wb, .str "data", .int 0]) hrb
      have e3 : (upd H7 rb (.lst [.ref wb, .str "data", .int 0])) rb = some (.lst [.ref wb, .str "data", .int 0]) := upd_same
      have nrw : rb ≠ wb := fun z => by rw [z, e2] at hrb; cases hrb
      have e1 := q3 _ _ e1
      have e2 := q3 _ _ e2
      have farr := B2.fresh hrb
      have B3 := B2.same q3
      clear B2
      generalize upd H7 rb (.lst [.ref wb, .str "data", .int 0]) = H8 at *
      have hrow : RowAt C H8 ⟨6 + i, rb, wb, dataW, "data", .int 0⟩ := ⟨⟨.int 0, _, e3, .int 0, e2, .cons (.int _) (.cons (.int _) (.cons (.str _) (.cons (.tup e1 (.cons (.int _) (.cons (.int _) .nil))) .nil)))⟩, rfl, (by show 6 + i < 24; omega), (by
        intro e he
        simp only [dataW, List.mem_cons, List.not_mem_nil, or_false] at he
        rcases he with rfl | rfl | rfl | rfl
        · exact .int 0 (by decide)
        · exact .int 1 (by decide)
        · exact .str "x" (by decide +kernel)
        · exact .pr), (show ("data" : Str) ∈ statesL by decide +kernel), .inr ⟨0, by decide, rfl⟩⟩
      generalize hrs : (⟨1, ra, wa, rootD 0 ls, "table", .int 0⟩ :: (leafR 0 ls ++ dl) : List Rr) = rs at *
      have hgn : 6 + i ∉ rs.map (·.g) := fun z => by
        obtain ⟨r, hr, e⟩ := List.mem_map.mp z
        rw [← hrs] at hr
        have e : r.g = 6 + i := e
        rcases List.mem_cons.mp hr with rfl | hr
        · have e : 1 = 6 + i := e
          omega
        · rcases List.mem_append.mp hr with hr | hr
          · have := leafR_g 0 ls r hr
            omega
          · have := (hdl r hr).2.2.2.2
            omega
      have B4 := B3.add hrow hgn farr farw nrw
      have hlen := B3.len
      refine ⟨_, rfl, _, rfl, rd, _, rfl, (show DPut H8 rd (.int ((6 + i : Nat) : Int)) (.ref rb) (upd H8 rd (.dK (dkv (rs ++ [⟨6 + i, rb, wb, dataW, "data", .int 0⟩])))) by rw [← putK_dkv hgn]; exact DPut.k (k := .inl ((6 + i : Nat) : Int)) B3.rows.hd (by unfold dkv; rw [List.length_map]; exact small1000 (by omega))), ?_⟩
      refine ⟨_, dl ++ [⟨6 + i, rb, wb, dataW, "data", .int 0⟩], rfl, fun r hr => ?_, fun g h1 h2 => ?_, ?_⟩
      · rcases List.mem_append.mp hr with hr | hr
        · obtain ⟨x1, x2, x3, x4, x5⟩ := hdl r hr
          exact ⟨x1, x2, x3, x4, by omega⟩
        · simp only [List.mem_cons, List.not_mem_nil, or_false] at hr
          subst hr
          exact ⟨rfl, rfl, rfl, (by show 6 ≤ 6 + i; omega), (by show 6 + i < 6 + (i + 1); omega)⟩
      · by_cases h3 : g < 6 + i
        · obtain ⟨r, hr, e⟩ := hall g h1 h3
          exact ⟨r, List.mem_append_left _ hr, e⟩
        · exact ⟨_, List.mem_append_right _ (by simp; rfl), (by show 6 + i = g; omega)⟩
      · have e5 : (⟨1, ra, wa, rootD 0 ls, "table", .int 0⟩ :: (leafR 0 ls ++ (dl ++ [⟨6 + i, rb, wb, dataW, "data", .int 0⟩])) : List Rr) = rs ++ [⟨6 + i, rb, wb, dataW, "data", .int 0⟩] := by
          rw [← hrs, List.cons_append, List.append_assoc]
        rw [e5]
        exact B4
  · rintro σ H5 ⟨v7, dl, rfl, hdl, hall, B⟩
    refine ⟨_, rfl, _, rfl, (by show 2 ≤ sizeLine; decide), fun t ht => ?_⟩
    have q1 := same_new (o := .tup [.ref p0, .ref rd]) ht
    have B1 := B.same q1
    refine q _ t p0 a rd _ B1.tape upd_same B1.mem B1.rows ⟨ra, wa, ls, dl, m, hls, hch, rfl, fun r hr => ?_, fun g h1 h2 => hall g h1 (by omega)⟩ B1.sep
    obtain ⟨x1, x2, x3, x4, x5⟩ := hdl r hr
    exact ⟨x1, x2, x3, x4⟩
end
end Hc

set_option maxHeartbeats 8000000
namespace Hc
open PySem PySem.Spec PyProof.Rows L2 Hr
def menuD : List D := [.tup [.str "data", .int 6], .tup [.str "shared", .int 7], .tup [.str "table", .int 2], .tup [.str "table", .int 1], .int 7, .str "no", .tup [.str "leaving", .int 8, .int 0], .tup [.str "leaving", .int 3, .int 1], .tup [.str "out", .int 5]]
theorem menu_wsh : ∀ d ∈ menuD, Wsh d := by
  intro d hd
  simp only [menuD, List.mem_cons, List.not_mem_nil, or_false] at hd
  rcases hd with rfl | rfl | rfl | rfl | rfl | rfl | rfl | rfl | rfl
  · exact .two _ 6 (by decide +kernel) (by decide)
  · exact .two _ 7 (by decide +kernel) (by decide)
  · exact .two _ 2 (by decide +kernel) (by decide)
  · exact .two _ 1 (by decide +kernel) (by decide)
  · exact .int 7 (by decide)
  · exact .str _ (by decide +kernel)
  · exact .lv 8 _ (by decide) (.inr ⟨0, by decide, rfl⟩)
  · exact .lv 3 _ (by decide) (.inr ⟨1, by decide, rfl⟩)
  · exact .two _ 5 (by decide +kernel) (by decide)
theorem menu_cln : cln (.tup menuD) = true := by simp only [cln]; exact clnL_wsh menu_wsh
def spBent (C : Addr) : Sp := fun vs H Q _ => ∃ (tp sa rd : Addr) (rs : List Rr), vs = [.ref tp, .ref rd] ∧ Tape H tp sa ∧ Rows C H rd rs ∧ 0 < rs.length ∧ rs.length ≤ 24 ∧ (∀ c ∈ rd :: rcells rs, c ≠ tp ∧ c ≠ sa) ∧ ∀ H' rs', Tape H' tp sa → Rows C H' rd rs' → rcells rs' = rcells rs → rs'.map (·.g) = rs.map (·.g) → Chg (tp :: rcells rs) H H' → Q .non H'
/-- the state of the bending -/
structure Bnt (C : Addr) (H0 H : Hp) (tp sa rd nl : Addr) (ns : List Int) (rs0 rs : List Rr) : Prop where
  tape : Tape H tp sa
  rows : Rows C H rd rs
  gs : rs.map (·.g) = rs0.map (·.g)
  rc : rcells rs = rcells rs0
  nm : H nl = some (.lst (ns.map V.int))
  ch : Chg (tp :: rcells rs0) H0 H
  nn : nl ∉ tp :: sa :: rd :: rcells rs0
  nt : ∀ c ∈ rd :: rcells rs0, c ≠ tp ∧ c ≠ sa
section
variable {P : Program} {w : World} {K : PySem.W.Frag} {mg : Str → Option Value} {base : Heap} {f : Addr} {fd : FuncData} {C N : Addr}
theorem Bnt.same {H0 H H' : Hp} {tp sa rd nl : Addr} {ns : List Int} {rs0 rs : List Rr} (h : Bnt C H0 H tp sa rd nl ns rs0 rs) (s : Same H H') : Bnt C H0 H' tp sa rd nl ns rs0 rs :=
  ⟨h.tape.same s, h.rows.same s, h.gs, h.rc, s _ _ h.nm, h.ch.trans (Chg.of s), h.nn, h.nt⟩
theorem Bnt.draw {H0 H H' : Hp} {tp sa rd nl : Addr} {ns : List Int} {rs0 rs : List Rr} (h : Bnt C H0 H tp sa rd nl ns rs0 rs) (t : Tape H' tp sa) (o : Off tp H H') : Bnt C H0 H' tp sa rd nl ns rs0 rs := by
  have cp : ∀ c ∈ [tp], CellP H c := by intro c hc; simp at hc; rw [hc]; exact h.tape.cell.1
  have nn := h.nn
  simp only [List.mem_cons, not_or] at nn
  refine ⟨t, h.rows.chg cp (Chg.off o) (fun c hc z => ?_), h.gs, h.rc, o _ _ h.nm nn.1, h.ch.trans ((Chg.off o).mono (by simp)), h.nn, h.nt⟩
  simp at z
  exact (h.nt c (by rw [← h.rc]; exact hc)).1 z
theorem Bnt.mod {H0 H : Hp} {tp sa rd nl : Addr} {ns : List Int} {rs0 as bs : List Rr} {r r' : Rr} {l : Addr} {o : HO} (h : Bnt C H0 H tp sa rd nl ns rs0 (as ++ r :: bs)) (hl : l = r.ra ∨ l = r.wa) (hg : r'.g = r.g) (h1 : r'.ra = r.ra) (h2 : r'.wa = r.wa) (hr : RowAt C (upd H l o) r') : Bnt C H0 (upd H l o) tp sa rd nl ns rs0 (as ++ r' :: bs) := by
  have hmem : r ∈ as ++ r :: bs := by simp
  have lc0 : l ∈ rcells (as ++ r :: bs) := by rcases hl with rfl | rfl; exact (mem_rcells hmem).1; exact (mem_rcells hmem).2
  have lc : l ∈ rcells rs0 := by rw [← h.rc]; exact lc0
  have ec : rcells (as ++ r' :: bs) = rcells (as ++ r :: bs) := by
    simp only [rcells, List.flatMap_append, List.flatMap_cons, h1, h2]
  have eg : (as ++ r' :: bs).map (·.g) = (as ++ r :: bs).map (·.g) := by
    simp only [List.map_append, List.map_cons, hg]
  have nn := h.nn
  simp only [List.mem_cons, not_or] at nn
  obtain ⟨n1, n2⟩ := h.nt l (List.mem_cons_of_mem _ lc)
  have ch : Chg [l] H (upd H l o) := Chg.put (by simp)
  refine ⟨h.tape.chg ch (by simp; exact fun z => n1 z.symm) (by simp; exact fun z => n2 z.symm), h.rows.mod hl hg h1 h2 hr, by rw [eg]; exact h.gs, by rw [ec]; exact h.rc, by rw [upd_ne (show nl ≠ l from fun z => nn.2.2.2 (by rw [z]; exact lc))]; exact h.nm, h.ch.trans (Chg.put (List.mem_cons_of_mem _ lc)), h.nn, h.nt⟩
abbrev s__law_bent : Stmt := top 63
theorem sc__law_bent : FnScope ["tape", "rows", "names", "turn", "row", "way", "menu"] ["tape", "rows"] (C8.fnScope s__law_bent) := C8.fnScope_by (by decide +kernel)
theorem ok__law_bent (F : C8.Def K mg "_law_bent" s__law_bent f fd) (b : Binds K fd ["tape", "rows"] []) (T : Txt K mg w C) (c__law_next : C8.Cal P w K mg base 1 "_law_next" spNext []) : C8.Cal P w K mg base 2 "_law_bent" (spBent C) [] := by
  refine C8.cal0 F b .nil sc__law_bent (fun vs H Q E h => ?_) (fun cdv A outer s H vs Q E hr h => ?_)
  · obtain ⟨tp, sa, rd, rs, rfl, _⟩ := h; rfl
  obtain ⟨tp, sa, rd, rs, rfl, t0, hrs, hl0, hl24, hnt, q⟩ := h
  refine ⟨_, (pss_cons (ps_set (i := 2) sc__law_bent.nd rfl (Or.inl rfl) (pe_callB cr_sorted rfl T.z_sorted bt_sorted (pa_cons (pe_callTy (call_list_dK rfl) rfl T.z_list bt_list (pa_cons (pv 1) pa_nil)) pa_nil)))
      (pss_one (ps_for PassesOwn.never rfl (pi_range1 rfl T.z_range (pa_cons (C8.pe_c c__law_next hr (by first | decide | omega) rfl (pa_cons (pv 0) (pa_cons pe_int pa_nil))) pa_nil)) (pg_name (i := 3) sc__law_bent.nd rfl (Or.inl rfl))
      (pss_cons (ps_set (i := 4) sc__law_bent.nd rfl (Or.inl rfl) (pe_dget (ru hr) (pv 1) (pe_ix ix_list (pv 2) (C8.pe_c c__law_next hr (by first | decide | omega) rfl (pa_cons (pv 0) (pa_cons (pe_callB call_lenS rfl T.z_len bt_len (pa_cons (pv 2) pa_nil)) pa_nil))) (fun _ _ => rfl)) (fun _ _ => rfl)))
      (pss_cons (ps_set (i := 5) sc__law_bent.nd rfl (Or.inl rfl) (C8.pe_c c__law_next hr (by first | decide | omega) rfl (pa_cons (pv 0) (pa_cons pe_int pa_nil))))
      (pss_one (ps_if (pt_cmpR op_eq (pv 5) pe_int (nomark _)) (pss_one (ps_asg (pe_ix ix_tup (pe_tup (pa_cons pe_str (pa_cons pe_str (pa_cons pe_str (pa_cons pe_str pa_nil))))) (C8.pe_c c__law_next hr (by first | decide | omega) rfl (pa_cons (pv 0) (pa_cons pe_int pa_nil))) (fun _ _ => rfl)) (pg_sub (pv 4) pe_int set_list))) (pss_one (ps_if (pt_cmpR op_eq (pv 5) pe_int (nomark _)) (pss_one (ps_asg (pe_ix ix_tup (pe_tup (pa_cons pe_non (pa_cons pe_int pa_nil))) (C8.pe_c c__law_next hr (by first | decide | omega) rfl (pa_cons (pv 0) (pa_cons pe_int pa_nil))) (fun _ _ => rfl)) (pg_sub (pv 4) pe_int set_list))) (pss_one (ps_if (pt_cmpR op_lt (pv 5) pe_int (nomark _)) (pss_cons (ps_set (i := 6) sc__law_bent.nd rfl (Or.inl rfl) (pe_tup (pa_cons (pe_tup (pa_cons pe_str (pa_cons pe_int pa_nil))) (pa_cons (pe_tup (pa_cons pe_str (pa_cons pe_int pa_nil))) (pa_cons (pe_tup (pa_cons pe_str (pa_cons pe_int pa_nil))) (pa_cons (pe_tup (pa_cons pe_str (pa_cons pe_int pa_nil))) (pa_cons pe_int (pa_cons pe_str (pa_cons (pe_tup (pa_cons pe_str (pa_cons pe_int (pa_cons pe_int pa_nil)))) (pa_cons (pe_tup (pa_cons pe_str (pa_cons pe_int (pa_cons pe_int pa_nil)))) (pa_cons (pe_tup (pa_cons pe_str (pa_cons pe_int pa_nil))) pa_nil)))))))))))
      (pss_one (ps_asg (pe_ix ix_tup (pv 6) (C8.pe_c c__law_next hr (by first | decide | omega) rfl (pa_cons (pv 0) (pa_cons pe_int pa_nil))) (fun _ _ => rfl)) (pg_sub (pe_ix ix_list (pv 4) pe_int (fun _ _ => rfl)) (C8.pe_c c__law_next hr (by first | decide | omega) rfl (pa_cons (pv 0) (pa_cons pe_int pa_nil))) set_list)))) pss_nil))))))))))), ?_⟩
  refine ⟨_, rfl, rd, _, rfl, hrs.hd, fun l1 h1 => ?_⟩
  have s1 := same_new (o := .lst ((dkv rs).map fun kv => kV kv.1)) h1
  have ek : (dkv rs).map (fun kv => kV kv.1) = (rs.map fun r => (r.g : Int)).map V.int := by
    unfold dkv; rw [List.map_map, List.map_map]; rfl
  rw [ek] at s1 ⊢
  refine ⟨l1, rs.map fun r => (r.g : Int), rfl, SqL.of upd_same, by rw [List.length_map]; omega, fun ns nl hperm hpw hnl => ?_⟩
  have s2 := same_new (o := .lst (ns.map V.int)) hnl
  have s12 := s1.trans s2
  have hnl0 : H nl = none := s1.free hnl
  have B0 : Bnt C H (upd (upd H l1 (.lst ((rs.map fun r => (r.g : Int)).map V.int))) nl (.lst (ns.map V.int))) tp sa rd nl ns rs rs := by
    refine ⟨t0.same s12, hrs.same s12, rfl, rfl, upd_same, Chg.of s12, ?_, hnt⟩
    intro z
    simp only [List.mem_cons] at z
    rcases z with z | z | z
    · rcases t0.cell.1 with ⟨_, e⟩ | ⟨_, e⟩ <;> (rw [← z, hnl0] at e; cases e)
    · rcases t0.cell.2 with ⟨_, e⟩ | ⟨_, e⟩ <;> (rw [← z, hnl0] at e; cases e)
    · rcases hrs.cell nl (List.mem_cons.mpr z) with ⟨_, e⟩ | ⟨_, e⟩ <;> (rw [hnl0] at e; cases e)
  have hnsl : ns.length = rs.length := by rw [hperm.length_eq, List.length_map]
  have hnsm : ∀ n ∈ ns, ∃ r ∈ rs, (r.g : Int) = n := fun n hn => List.mem_map.mp (hperm.mem_iff.mp hn)
  generalize upd (upd H l1 (.lst ((rs.map fun r => (r.g : Int)).map V.int))) nl (.lst (ns.map V.int)) = H2 at *
  refine ⟨_, rfl, tp, sa, 3, rfl, B0.tape, by decide, by decide, fun H3 n t3 o3 g0 g1 => ?_⟩
  have B3 := B0.draw t3 o3
  refine ⟨n, rfl, by omega, by omega, ?_⟩
  refine for_it (walk_range (lo := 0) (n := n.toNat)) (fun i σ H' => ∃ v3 v4 v5 v6 rs', σ = [some (.ref tp), some (.ref rd), some (.ref nl), v3, v4, v5, v6] ∧ Bnt C H H' tp sa rd nl ns rs rs') ⟨none, none, none, none, rs, rfl, B3⟩ (fun _ _ _ _ _ => trivial) ?_ ?_
  · clear B0 B3 s1 s2 s12
    rintro i y σ H4x H4 hi ⟨v3, v4, v5, v6, rs', rfl, B⟩ ⟨rfl, rfl⟩
    refine ⟨_, rfl, _, rfl, _, rfl, _, rfl, nl, _, rfl, .inl (SqL.of B.nm), tp, sa, (ns.map V.int).length, rfl, B.tape, ?_, ?_, fun H5 k t5 o5 k0 k1 => ?_⟩
    · rw [List.length_map]; omega
    · rw [List.length_map]; omega
    have B5 := B.draw t5 o5
    clear B
    rw [List.length_map] at k1
    obtain ⟨kn, rfl⟩ : ∃ kn : Nat, k = (kn : Int) := ⟨k.toNat, by omega⟩
    have hkn : kn < ns.length := by omega
    have hkm : ns[kn] ∈ ns := List.getElem_mem hkn
    have hat : (ns.map V.int)[kn]? = some (.int ns[kn]) := by rw [List.getElem?_map, List.getElem?_eq_getElem hkn]; rfl
    generalize ns[kn] = gk at *
    obtain ⟨r0, hr0, e0⟩ := hnsm gk hkm
    obtain ⟨r, hr, er⟩ : ∃ r ∈ rs', r.g = r0.g := by
      have : r0.g ∈ rs'.map (·.g) := by rw [B5.gs]; exact List.mem_map.mpr ⟨r0, hr0, rfl⟩
      exact List.mem_map.mp this
    have egk : gk = ((r.g : Nat) : Int) := by rw [er, e0]
    obtain ⟨as, bs, rfl⟩ := List.append_of_mem hr
    have hdg : DGet H5 rd (.int gk) (some (.ref r.ra)) := by
      have := DGet.k (k := .inl ((r.g : Nat) : Int)) B5.rows.hd
      rw [valV_dkv hr B5.rows.gs] at this
      rw [egk]; exact this
    refine ⟨nl, _, (kn : Int), _, rfl, rfl, SqL.of B5.nm, atI_nat hat, rd, .ref r.ra, rfl, hdg, ?_⟩
    refine ⟨_, rfl, tp, sa, 6, rfl, B5.tape, by decide, by decide, fun H6 wy t6 o6 w0 w1 => ?_⟩
    have B6 := B5.draw t6 o6
    clear B5 hdg
    refine ⟨_, rfl, rfl, _, rfl, ?_⟩
    by_cases c0 : wy = 0
    · refine ifT (by rw [c0]) ?_
      refine ⟨(by show 4 ≤ sizeLine; decide), fun u hu => ?_⟩
      have q1 := same_new (o := .tup [.str "free", .str "data", .str "host", .str "cpu"]) hu
      have e1 : (upd H6 u (.tup [.str "free", .str "data", .str "host", .str "cpu"])) u = some (.tup [.str "free", .str "data", .str "host", .str "cpu"]) := upd_same
      have B7 := B6.same q1
      clear B6
      generalize upd H6 u (.tup [.str "free", .str "data", .str "host", .str "cpu"]) = H7 at *
      refine ⟨_, rfl, tp, sa, 4, rfl, B7.tape, by decide, by decide, fun H8 k t8 o8 k2 k3 => ?_⟩
      have cp : ∀ c ∈ [tp], CellP H7 c := by intro c hc; simp at hc; rw [hc]; exact B7.tape.cell.1
      have e1 := (chg_keep (C := C) cp (Chg.off o8)).tup _ _ e1
      have B8 := B7.draw t8 o8
      clear B7
      obtain ⟨s', hx, hs'⟩ : ∃ s' : Str, atI [V.str "free", .str "data", .str "host", .str "cpu"] k = some (.str s') ∧ s' ∈ statesL := by
        obtain ⟨kk, rfl⟩ : ∃ kk : Nat, k = (kk : Int) := ⟨k.toNat, by omega⟩
        match kk, k3 with
        | 0, _ => exact ⟨"free", atI_nat (j := 0) rfl, by decide +kernel⟩
        | 1, _ => exact ⟨"data", atI_nat (j := 1) rfl, by decide +kernel⟩
        | 2, _ => exact ⟨"host", atI_nat (j := 2) rfl, by decide +kernel⟩
        | 3, _ => exact ⟨"cpu", atI_nat (j := 3) rfl, by decide +kernel⟩
        | n + 4, h => omega
      obtain ⟨⟨xo, xs, r1, r2, r3, r4⟩, x4, x24, xw, xs', xow⟩ := B8.rows.rows r (by simp)
      have kk : Keep C H8 (upd H8 r.ra (.lst [.ref r.wa, .str s', xo])) := keep_lst0 r1
      have nrw : r.wa ≠ r.ra := fun z => by
        rw [z, r1] at r3; cases r3
        have := r4.len; simp [x4] at this
      refine ⟨u, _, _, _, rfl, rfl, SqT.of e1, hx, _, rfl, r.ra, _, 1, 1, rfl, rfl, r1, rfl, ?_⟩
      refine ⟨_, _, _, _, _, rfl, B8.mod (r' := ⟨r.g, r.ra, r.wa, r.ds, s', r.ow⟩) (l := r.ra) (.inl rfl) rfl rfl rfl ⟨⟨xo, xs, upd_same, Is.keep kk (by rcases xow with h | ⟨_, _, h⟩ <;> rw [h] <;> rfl) r2, by rw [upd_ne nrw]; exact r3, IsA.keep kk (clnL_wsh xw) r4⟩, x4, x24, xw, hs', xow⟩⟩
    refine ifF (fun z => c0 (V.int.inj z)) ⟨_, rfl, rfl, _, rfl, ?_⟩
    by_cases c1 : wy = 1
    · refine ifT (by rw [c1]) ?_
      refine ⟨(by show 2 ≤ sizeLine; decide), fun u hu => ?_⟩
      have q1 := same_new (o := .tup [.non, .int 5]) hu
      have e1 : (upd H6 u (.tup [.non, .int 5])) u = some (.tup [.non, .int 5]) := upd_same
      have B7 := B6.same q1
      clear B6
      generalize upd H6 u (.tup [.non, .int 5]) = H7 at *
      refine ⟨_, rfl, tp, sa, 2, rfl, B7.tape, by decide, by decide, fun H8 k t8 o8 k2 k3 => ?_⟩
      have cp : ∀ c ∈ [tp], CellP H7 c := by intro c hc; simp at hc; rw [hc]; exact B7.tape.cell.1
      have e1 := (chg_keep (C := C) cp (Chg.off o8)).tup _ _ e1
      have B8 := B7.draw t8 o8
      clear B7
      obtain ⟨yo, o', hx, hyo, ho'⟩ : ∃ (yo : V) (o' : D), atI [V.non, .int 5] k = some yo ∧ (∀ H : Hp, Is C H yo o') ∧ (o' = .non ∨ ∃ i : Nat, i < 24 ∧ o' = .int (i : Int)) := by
        obtain ⟨kk, rfl⟩ : ∃ kk : Nat, k = (kk : Int) := ⟨k.toNat, by omega⟩
        match kk, k3 with
        | 0, _ => exact ⟨_, .non, atI_nat (j := 0) rfl, fun _ => .non, .inl rfl⟩
        | 1, _ => exact ⟨_, .int 5, atI_nat (j := 1) rfl, fun _ => .int _, .inr ⟨5, by decide, rfl⟩⟩
        | n + 2, h => omega
      obtain ⟨⟨xo, xs, r1, r2, r3, r4⟩, x4, x24, xw, xs', xow⟩ := B8.rows.rows r (by simp)
      have kk : Keep C H8 (upd H8 r.ra (.lst [.ref r.wa, .str r.st, yo])) := keep_lst0 r1
      have nrw : r.wa ≠ r.ra := fun z => by
        rw [z, r1] at r3; cases r3
        have := r4.len; simp [x4] at this
      refine ⟨u, _, _, _, rfl, rfl, SqT.of e1, hx, _, rfl, r.ra, _, 2, 2, rfl, rfl, r1, rfl, ?_⟩
      refine ⟨_, _, _, _, _, rfl, B8.mod (r' := ⟨r.g, r.ra, r.wa, r.ds, r.st, o'⟩) (l := r.ra) (.inl rfl) rfl rfl rfl ⟨⟨yo, xs, upd_same, hyo _, by rw [upd_ne nrw]; exact r3, IsA.keep kk (clnL_wsh xw) r4⟩, x4, x24, xw, xs', ho'⟩⟩
    refine ifF (fun z => c1 (V.int.inj z)) ⟨_, rfl, _, _, rfl, rfl, _, rfl, ?_⟩
    by_cases c2 : wy < 5
    · refine ifT c2 ?_
      refine ⟨(by show 2 ≤ sizeLine; decide), fun u0 hu0 => ?_⟩
      have q1 := same_new (o := .tup [.str "data", .int 6]) hu0
      have i0 : Is C (upd H6 u0 (.tup [.str "data", .int 6])) (.ref u0) (.tup [.str "data", .int 6]) := .tup upd_same (.cons (.str _) (.cons (.int _) .nil))
      have B6x := B6.same q1
      clear B6
      generalize upd H6 u0 (.tup [.str "data", .int 6]) = G0 at *
      refine ⟨(by show 2 ≤ sizeLine; decide), fun u1 hu1 => ?_⟩
      have q1 := same_new (o := .tup [.str "shared", .int 7]) hu1
      have i1 : Is C (upd G0 u1 (.tup [.str "shared", .int 7])) (.ref u1) (.tup [.str "shared", .int 7]) := .tup upd_same (.cons (.str _) (.cons (.int _) .nil))
      have i0 := i0.same q1
      have B6xx := B6x.same q1
      clear B6x
      generalize upd G0 u1 (.tup [.str "shared", .int 7]) = G1 at *
      refine ⟨(by show 2 ≤ sizeLine; decide), fun u2 hu2 => ?_⟩
      have q1 := same_new (o := .tup [.str "table", .int 2]) hu2
      have i2 : Is C (upd G1 u2 (.tup [.str "table", .int 2])) (.ref u2) (.tup [.str "table", .int 2]) := .tup upd_same (.cons (.str _) (.cons (.int _) .nil))
      have i0 := i0.same q1
      have i1 := i1.same q1
      have B6xxx := B6xx.same q1
      clear B6xx
      generalize upd G1 u2 (.tup [.str "table", .int 2]) = G2 at *
      refine ⟨(by show 2 ≤ sizeLine; decide), fun u3 hu3 => ?_⟩
      have q1 := same_new (o := .tup [.str "table", .int 1]) hu3
      have i3 : Is C (upd G2 u3 (.tup [.str "table", .int 1])) (.ref u3) (.tup [.str "table", .int 1]) := .tup upd_same (.cons (.str _) (.cons (.int _) .nil))
      have i0 := i0.same q1
      have i1 := i1.same q1
      have i2 := i2.same q1
      have B6xxxx := B6xxx.same q1
      clear B6xxx
      generalize upd G2 u3 (.tup [.str "table", .int 1]) = G3 at *
      refine ⟨(by show 3 ≤ sizeLine; decide), fun u6 hu6 => ?_⟩
      have q1 := same_new (o := .tup [.str "leaving", .int 8, .int 0]) hu6
      have i6 : Is C (upd G3 u6 (.tup [.str "leaving", .int 8, .int 0])) (.ref u6) (.tup [.str "leaving", .int 8, .int 0]) := .tup upd_same (.cons (.str _) (.cons (.int _) (.cons (.int _) .nil)))
      have i0 := i0.same q1
      have i1 := i1.same q1
      have i2 := i2.same q1
      have i3 := i3.same q1
      have B6xxxxx := B6xxxx.same q1
      clear B6xxxx
      generalize upd G3 u6 (.tup [.str "leaving", .int 8, .int 0]) = G6 at *
      refine ⟨(by show 3 ≤ sizeLine; decide), fun u7 hu7 => ?_⟩
      have q1 := same_new (o := .tup [.str "leaving", .int 3, .int 1]) hu7
      have i7 : Is C (upd G6 u7 (.tup [.str "leaving", .int 3, .int 1])) (.ref u7) (.tup [.str "leaving", .int 3, .int 1]) := .tup upd_same (.cons (.str _) (.cons (.int _) (.cons (.int _) .nil)))
      have i0 := i0.same q1
      have i1 := i1.same q1
      have i2 := i2.same q1
      have i3 := i3.same q1
      have i6 := i6.same q1
      have B6xxxxxx := B6xxxxx.same q1
      clear B6xxxxx
      generalize upd G6 u7 (.tup [.str "leaving", .int 3, .int 1]) = G7 at *
      refine ⟨(by show 2 ≤ sizeLine; decide), fun u8 hu8 => ?_⟩
      have q1 := same_new (o := .tup [.str "out", .int 5]) hu8
      have i8 : Is C (upd G7 u8 (.tup [.str "out", .int 5])) (.ref u8) (.tup [.str "out", .int 5]) := .tup upd_same (.cons (.str _) (.cons (.int _) .nil))
      have i0 := i0.same q1
      have i1 := i1.same q1
      have i2 := i2.same q1
      have i3 := i3.same q1
      have i6 := i6.same q1
      have i7 := i7.same q1
      have B6xxxxxxx := B6xxxxxx.same q1
      clear B6xxxxxx
      generalize upd G7 u8 (.tup [.str "out", .int 5]) = G8 at *
      refine ⟨(by show 9 ≤ sizeLine; decide), fun um hum => ?_⟩
      have q1 := same_new (o := .tup [.ref u0, .ref u1, .ref u2, .ref u3, .int 7, .str "no", .ref u6, .ref u7, .ref u8]) hum
      have im : Is C (upd G8 um (.tup [.ref u0, .ref u1, .ref u2, .ref u3, .int 7, .str "no", .ref u6, .ref u7, .ref u8])) (.ref um) (.tup menuD) := .tup upd_same (.cons (i0.same q1) (.cons (i1.same q1) (.cons (i2.same q1) (.cons (i3.same q1) (.cons (.int _) (.cons (.str _) (.cons (i6.same q1) (.cons (i7.same q1) (.cons (i8.same q1) .nil)))))))))
      have B7 := B6xxxxxxx.same q1
      clear B6xxxxxxx i0 i1 i2 i3 i6 i7 i8
      generalize upd G8 um (.tup [.ref u0, .ref u1, .ref u2, .ref u3, .int 7, .str "no", .ref u6, .ref u7, .ref u8]) = H7 at *
      refine ⟨_, rfl, _, rfl, tp, sa, 9, rfl, B7.tape, by decide, by decide, fun H8 k t8 o8 k2 k3 => ?_⟩
      have cp : ∀ c ∈ [tp], CellP H7 c := by intro c hc; simp at hc; rw [hc]; exact B7.tape.cell.1
      have im := Is.keep (chg_keep (C := C) cp (Chg.off o8)) menu_cln im
      have B8 := B7.draw t8 o8
      clear B7
      cases im with
      | @tup _ ms _ hm hms =>
      have hml := hms.len
      have hml : ms.length = 9 := hml
      have hk9 : k.toNat < ms.length := by omega
      obtain ⟨d, hd, id0⟩ := hms.at (List.getElem?_eq_getElem hk9)
      have hwd := menu_wsh d (List.mem_of_getElem? hd)
      have hx : atI ms k = some ms[k.toNat] := by
        have := atI_nat (List.getElem?_eq_getElem hk9)
        rwa [Int.toNat_of_nonneg k2] at this
      generalize ms[k.toNat] = xv at *
      refine ⟨um, _, _, xv, rfl, rfl, SqT.of hm, hx, ?_⟩
      obtain ⟨⟨xo, xs, r1, r2, r3, r4⟩, x4, x24, xw, xs', xow⟩ := B8.rows.rows r (by simp)
      refine ⟨_, rfl, r.ra, _, 0, _, rfl, rfl, SqL.of r1, atI_nat (j := 0) rfl, _, rfl, tp, sa, 4, rfl, B8.tape, by decide, by decide, fun H9 k' t9 o9 k4 k5 => ?_⟩
      have cp : ∀ c ∈ [tp], CellP H8 c := by intro c hc; simp at hc; rw [hc]; exact B8.tape.cell.1
      have id0 := Is.keep (chg_keep (C := C) cp (Chg.off o9)) hwd.ok.2.2 id0
      have B9 := B8.draw t9 o9
      clear B8 r1 r2 r3 r4
      obtain ⟨⟨xo, xs, r1, r2, r3, r4⟩, _, _, _, _, _⟩ := B9.rows.rows r (by simp)
      have hxl := r4.len
      have kk : Keep C H9 (upd H9 r.wa (.lst (xs.set k'.toNat xv))) := keep_lst0 r3
      have nrw : r.ra ≠ r.wa := fun z => by
        rw [z, r3] at r1; cases r1
        simp [x4] at hxl
      refine ⟨r.wa, xs, k', k'.toNat, rfl, rfl, r3, (by rw [← Int.toNat_of_nonneg k4]; exact ixN_of (by omega)), ?_⟩
      refine ⟨_, _, _, _, _, rfl, B9.mod (r' := ⟨r.g, r.ra, r.wa, r.ds.set k'.toNat d, r.st, r.ow⟩) (l := r.wa) (.inr rfl) rfl rfl rfl ⟨⟨xo, _, by rw [upd_ne nrw]; exact r1, Is.keep kk (by rcases xow with h | ⟨_, _, h⟩ <;> rw [h] <;> rfl) r2, upd_same, isA_set _ (IsA.keep kk (clnL_wsh xw) r4) (Is.keep kk hwd.ok.2.2 id0)⟩, by show (r.ds.set _ _).length = 4; rw [List.length_set]; exact x4, x24, fun e he => ?_, xs', xow⟩⟩
      rcases List.mem_or_eq_of_mem_set he with h | h
      · exact xw e h
      · rw [h]; exact hwd
    · exact ifF c2 ⟨_, _, _, _, _, rfl, B6⟩
  · rintro σ H4 ⟨v3, v4, v5, v6, rs', rfl, B⟩
    exact q H4 rs' B.tape B.rows B.rc B.gs B.ch
end
end Hc

set_option maxHeartbeats 8000000
namespace Hc
open PySem PySem.Spec PyProof.Rows L2 Hr
theorem ent_tab : ((List.range 24).all fun g => entryW (.tup [.str "data", .int ((g : Nat) : Int)]) && entryW (.tup [.str "shared", .int ((g : Nat) : Int)]) && entryW (.tup [.str "leaving", .int ((g : Nat) : Int), .non]) && entryW (.tup [.str "leaving", .int ((g : Nat) : Int), .int 1]) && entryW (.tup [.str "leaving", .int ((g : Nat) : Int), .int 4])) = true := by decide +kernel
theorem ent_at {g : Nat} (h : g < 24) : entryW (.tup [.str "data", .int (g : Int)]) = true ∧ entryW (.tup [.str "shared", .int (g : Int)]) = true ∧ entryW (.tup [.str "leaving", .int (g : Int), .non]) = true ∧ entryW (.tup [.str "leaving", .int (g : Int), .int 1]) = true ∧ entryW (.tup [.str "leaving", .int (g : Int), .int 4]) = true := by
  have := List.all_eq_true.mp ent_tab g (List.mem_range.mpr h)
  simp only [Bool.and_eq_true] at this
  exact ⟨this.1.1.1.1, this.1.1.1.2, this.1.1.2, this.1.2, this.2⟩
theorem EntOk.entry {pg m m' : Nat} {d : D} (h : EntOk pg m d m') (hm : m ≤ 16) : entryW d = true := by
  rcases h with ⟨_, rfl | ⟨_, rfl | rfl⟩ | ⟨_, rfl | ⟨g, hg, rfl⟩⟩⟩ | ⟨_, h, rfl | ⟨e, he, rfl⟩⟩
  · decide +kernel
  · decide +kernel
  · decide +kernel
  · decide +kernel
  · exact (ent_at hg).2.1
  · exact (ent_at (g := 6 + m') (by omega)).1
  · rcases he with rfl | rfl | rfl
    · exact (ent_at (g := 6 + m') (by omega)).2.2.1
    · exact (ent_at (g := 6 + m') (by omega)).2.2.2.1
    · exact (ent_at (g := 6 + m') (by omega)).2.2.2.2
theorem EntsOk.entry {pg m m' : Nat} {ds : List D} (h : EntsOk pg m ds m') (hm : m ≤ 16) : ∀ e ∈ ds, entryW e = true := by
  induction h with
  | nil => intro e he; cases he
  | snoc h1 h2 ih =>
    intro e he
    rcases List.mem_append.mp he with he | he
    · exact ih e he
    · simp only [List.mem_cons, List.not_mem_nil, or_false] at he
      rw [he]; exact h2.entry (Nat.le_trans h1.le hm)
theorem ChL.entry {ls : List Lf} {m : Nat} (h : ChL ls m) : ∀ r ∈ leafR 0 ls, ∀ e ∈ r.ds, entryW e = true := by
  induction h with
  | nil => intro r hr; cases hr
  | no h ih => rw [leafR_app]; simpa [leafR, lfR] using ih
  | yes h h2 h3 ih =>
    rw [leafR_app]
    intro r hr e he
    rcases List.mem_append.mp hr with hr | hr
    · exact ih r hr e he
    · simp only [leafR, lfR, List.append_nil, List.mem_cons, List.not_mem_nil, or_false] at hr
      subst hr
      exact h2.entry h.le e he
theorem root_tab : ((List.range 24).all fun g => rootW (.tup [.str "table", .int ((g : Nat) : Int)]) && rootW (.tup [.str "leaving", .int ((g : Nat) : Int), .int 3])) = true := by decide +kernel
theorem lfW_root {j : Nat} (h : 2 + j < 24) (l : Lf) : rootW (lfW j l) = true := by
  have := List.all_eq_true.mp root_tab (2 + j) (List.mem_range.mpr h)
  simp only [Bool.and_eq_true] at this
  cases l with
  | no => rfl
  | yes tb ra wa ds =>
    cases tb
    · exact this.2
    · exact this.1
theorem rootD_root : ∀ (j : Nat) (ls : List Lf), 2 + j + ls.length ≤ 24 → ∀ e ∈ rootD j ls, rootW e = true
  | _, [], _, e, he => by cases he
  | j, l :: ls, h, e, he => by
    simp only [List.length_cons] at h
    simp only [rootD, List.mem_cons] at he
    rcases he with rfl | he
    · exact lfW_root (by omega) l
    · exact rootD_root (j + 1) ls (by omega) e he
theorem leaves_ok {ss : List D} {ws : Nat → List D} {ow : D} : ∀ (j : Nat) (ls : List Lf) (bef : List Nat), (∀ r ∈ leafR j ls, eqO (owOf ss r.g) ow = true ∧ tabB ss ws r.g entryW = true) → (∀ b ∈ bef, b < 2 + j) → leavesB ss ws ow (rootD j ls) bef = true
  | _, [], _, _, _ => rfl
  | j, l :: ls, bef, h, hb => by
    have ih := fun bef' hb' => leaves_ok (ss := ss) (ws := ws) (ow := ow) (j + 1) ls bef' (fun r hr => h r (by simp only [leafR]; exact List.mem_append_right _ hr)) hb'
    cases l with
    | no =>
      show leavesB ss ws ow (.non :: rootD (j + 1) ls) bef = true
      have e0 : isNon D.non = true := rfl
      simp only [leavesB, e0, if_true]
      exact ih bef fun b hb' => by have := hb b hb'; omega
    | yes tb ra wa ds =>
      have e1 : isNon (lfW j (.yes tb ra wa ds)) = false := by cases tb <;> rfl
      have e2 : leafOf (lfW j (.yes tb ra wa ds)) = 2 + j := by cases tb <;> exact Int.toNat_natCast _
      obtain ⟨a1, a2⟩ := h ⟨2 + j, ra, wa, ds, "table", .int 0⟩ (by simp [leafR, lfR])
      have a1 : eqO (owOf ss (2 + j)) ow = true := a1
      have a2 : tabB ss ws (2 + j) entryW = true := a2
      have a3 : bef.any (fun b => decide (b = 2 + j)) = false := List.any_eq_false.mpr fun b hb' => by
        have := hb b hb'
        simp; omega
      simp only [rootD, leavesB, e1, e2, a1, a2, a3]
      exact ih _ fun b hb' => by
        rcases List.mem_append.mp hb' with h1 | h1
        · have := hb b h1; omega
        · simp at h1; omega
theorem pages_step {ss : List D} {ow : D} {pg m m' : Nat} {d : D} {rest : List D} {bef : List Nat} (h : EntOk pg m d m') (hm : m ≤ 16) (hb : ∀ b ∈ bef, 6 + m ≤ b) (hss : ∀ g, 6 + m' ≤ g → g < 22 → stOf ss g = "data" ∧ eqO (owOf ss g) ow = true) : ∃ bef', (∀ b ∈ bef', 6 + m' ≤ b) ∧ pagesF ss ow pg (d :: rest) bef = pagesF ss ow (pg + 1) rest bef' := by
  have none' : m' = m → halfB (pg : Int) d = false → dataOf d = none → ∃ bef', (∀ b ∈ bef', 6 + m' ≤ b) ∧ pagesF ss ow pg (d :: rest) bef = pagesF ss ow (pg + 1) rest bef' := fun e h1 h2 => ⟨bef, by rw [e]; exact hb, by simp only [pagesF, h1, h2]; rfl⟩
  have some' : m' + 1 = m → halfB (pg : Int) d = false → dataOf d = some (6 + m') → ∃ bef', (∀ b ∈ bef', 6 + m' ≤ b) ∧ pagesF ss ow pg (d :: rest) bef = pagesF ss ow (pg + 1) rest bef' := fun e h1 h2 => by
    obtain ⟨z1, z2⟩ := hss (6 + m') (Nat.le_refl _) (by omega)
    have z3 : bef.any (fun b => decide (b = 6 + m')) = false := List.any_eq_false.mpr fun b hb' => by
      have := hb b hb'
      simp; omega
    refine ⟨bef ++ [6 + m'], fun b hb' => ?_, by simp only [pagesF, h1, h2, z1, z2, z3]; rfl⟩
    rcases List.mem_append.mp hb' with h1 | h1
    · have := hb b h1; omega
    · simp at h1; omega
  have half : ∀ (k : Str) (r : List D), k ≠ "shared" → pg < 8 → halfB (pg : Int) (.tup (.str k :: r)) = false := fun k r hk hp => by
    simp only [halfB]
    rw [decide_eq_false hk, decide_eq_false (by omega)]; rfl
  rcases h with ⟨e, rfl | ⟨hp, rfl | rfl⟩ | ⟨hp, rfl | ⟨g, hg, rfl⟩⟩⟩ | ⟨hp, h, rfl | ⟨e, he, rfl⟩⟩
  · exact none' e rfl rfl
  · exact none' e rfl rfl
  · exact none' e (half _ _ (by decide +kernel) hp) (by decide +kernel)
  · exact none' e rfl rfl
  · refine none' e ?_ (by simp only [dataOf]; exact if_neg (by decide +kernel))
    simp only [halfB]
    rw [decide_eq_true (p := (8 : Int) ≤ (pg : Int)) (by omega)]; simp
  · refine some' h (half _ _ (by decide +kernel) hp) ?_
    simp only [dataOf]; rw [if_pos (by decide +kernel)]; exact congrArg some (Int.toNat_natCast _)
  · refine some' h (half _ _ (by decide +kernel) hp) ?_
    simp only [dataOf]; rw [if_pos (by decide +kernel)]; exact congrArg some (Int.toNat_natCast _)
theorem pages_ents {ss : List D} {ow : D} {pg m m' : Nat} {ds : List D} (h : EntsOk pg m ds m') (hm : m ≤ 16) (hss : ∀ g, 6 + m' ≤ g → g < 22 → stOf ss g = "data" ∧ eqO (owOf ss g) ow = true) : ∀ (rest : List D) (bef : List Nat), (∀ b ∈ bef, 6 + m ≤ b) → ∃ bef', (∀ b ∈ bef', 6 + m' ≤ b) ∧ pagesF ss ow pg (ds ++ rest) bef = pagesF ss ow (pg + ds.length) rest bef' := by
  induction h with
  | nil => exact fun rest bef hb => ⟨bef, hb, rfl⟩
  | @snoc ds m1 d m2 h1 h2 ih =>
    intro rest bef hb
    obtain ⟨bef1, b1, e1⟩ := ih (fun g hg => hss g (by have := h2.le; omega)) (d :: rest) bef hb
    obtain ⟨bef2, b2, e2⟩ := pages_step (rest := rest) h2 (Nat.le_trans h1.le hm) b1 hss
    refine ⟨bef2, b2, ?_⟩
    rw [List.append_assoc, List.singleton_append, e1, e2, List.length_append, List.length_singleton, Nat.add_assoc]
theorem pages_non {ss : List D} {ow : D} (pg : Nat) (rest : List D) (bef : List Nat) : pagesF ss ow pg (List.replicate 4 .non ++ rest) bef = pagesF ss ow (pg + 4) rest bef := rfl
theorem pages_ch {ss : List D} {ws : Nat → List D} {ow : D} {ls : List Lf} {m : Nat} (h : ChL ls m) : ls.length ≤ 4 → (∀ r ∈ leafR 0 ls, ws r.g = r.ds) → (∀ g, 6 + m ≤ g → g < 22 → stOf ss g = "data" ∧ eqO (owOf ss g) ow = true) → ∀ rest, ∃ bef', (∀ b ∈ bef', 6 + m ≤ b) ∧ pagesF ss ow 0 (mapD ws (rootD 0 ls) ++ rest) [] = pagesF ss ow (4 * ls.length) rest bef' := by
  induction h with
  | nil => exact fun _ _ _ rest => ⟨[], by simp, rfl⟩
  | @no ls m h ih =>
    intro hl hws hss rest
    rw [List.length_append, List.length_singleton] at hl
    rw [leafR_app] at hws
    obtain ⟨bef1, b1, e1⟩ := ih (by omega) (fun r hr => hws r (List.mem_append_left _ hr)) hss (List.replicate 4 .non ++ rest)
    refine ⟨bef1, b1, ?_⟩
    have em : mapD ws (rootD 0 (ls ++ [.no])) = mapD ws (rootD 0 ls) ++ List.replicate 4 .non := by
      rw [rootD_app, mapD_app]; rfl
    rw [em, List.append_assoc, e1, pages_non, List.length_append, List.length_singleton]; rfl
  | @yes ls m m' tb ra wa ds h h2 h3 ih =>
    intro hl hws hss rest
    rw [List.length_append, List.length_singleton] at hl
    rw [leafR_app] at hws
    have hle := h2.le
    have hw := hws ⟨2 + ls.length, ra, wa, ds, "table", .int 0⟩ (List.mem_append_right _ (by simp [leafR, lfR]))
    have hw : ws (2 + ls.length) = ds := hw
    have ih := ih (by omega) (fun r hr => hws r (List.mem_append_left _ hr)) (fun g hg => hss g (by omega))
    cases tb with
    | true =>
      have em : mapD ws (rootD 0 (ls ++ [.yes true ra wa ds])) = mapD ws (rootD 0 ls) ++ ds := by
        rw [rootD_app, mapD_app]
        have : mapD ws (rootD (0 + ls.length) [.yes true ra wa ds]) = ds := by
          have hg : grO "table" (lfW ls.length (.yes true ra wa ds)) = some ((2 + ls.length : Nat) : Int) := by
            show (if _ then _ else _) = _
            rw [if_pos ⟨rfl, by omega, by omega⟩]
          simp only [rootD, Nat.zero_add, mapD, List.flatMap_cons, List.flatMap_nil, List.append_nil, hg, Int.toNat_natCast, hw]
        rw [this]
      obtain ⟨bef1, b1, e1⟩ := ih (ds ++ rest)
      obtain ⟨bef2, b2, e2⟩ := pages_ents h2 h.le hss rest bef1 b1
      refine ⟨bef2, b2, ?_⟩
      rw [em, List.append_assoc, e1, e2, h3, List.length_append, List.length_singleton]; rfl
    | false =>
      have em : mapD ws (rootD 0 (ls ++ [.yes false ra wa ds])) = mapD ws (rootD 0 ls) ++ List.replicate 4 .non := by
        rw [rootD_app, mapD_app]; rfl
      obtain ⟨bef1, b1, e1⟩ := ih (List.replicate 4 .non ++ rest)
      refine ⟨bef1, fun b hb => by have := b1 b hb; omega, ?_⟩
      rw [em, List.append_assoc, e1, pages_non, List.length_append, List.length_singleton]; rfl
/-! the memory that the rows make -/
def rowOf (rs : List Rr) (g : Nat) : Option Rr := rs.find? fun r => decide (r.g = g)
def stF (rs : List Rr) (g : Nat) : D := match rowOf rs g with | some r => .tup [.str r.st, r.ow, .non] | none => hostD
def wsF (rs : List Rr) (g : Nat) : List D := match rowOf rs g with | some r => r.ds | none => List.replicate 4 (.int 0)
def ssF (rs : List Rr) : List D := (List.range 24).map (stF rs)
theorem rowOf_mem {rs : List Rr} {r : Rr} (h : r ∈ rs) (n : (rs.map (·.g)).Nodup) : rowOf rs r.g = some r := by
  unfold rowOf
  induction rs with
  | nil => cases h
  | cons x rs ih =>
    rw [List.map_cons] at n
    obtain ⟨n1, n2⟩ := List.nodup_cons.mp n
    rcases List.mem_cons.mp h with rfl | h
    · simp
    · have : ¬ x.g = r.g := fun z => n1 (by rw [z]; exact List.mem_map.mpr ⟨r, h, rfl⟩)
      rw [List.find?_cons_of_neg (by simpa using this)]
      exact ih h n2
theorem rowOf_none {rs : List Rr} {g : Nat} (h : g ∉ rs.map (·.g)) : rowOf rs g = none := by
  unfold rowOf
  refine List.find?_eq_none.mpr fun r hr => ?_
  simp
  exact fun z => h (List.mem_map.mpr ⟨r, hr, z⟩)
theorem ssF_at {rs : List Rr} {g : Nat} (h : g < 24) : (ssF rs)[g]? = some (stF rs g) := by
  unfold ssF
  rw [List.getElem?_map, List.getElem?_range h]; rfl
theorem ssF_mem {rs : List Rr} {r : Rr} (h : r ∈ rs) (n : (rs.map (·.g)).Nodup) (h24 : r.g < 24) : stOf (ssF rs) r.g = r.st ∧ owOf (ssF rs) r.g = r.ow ∧ wsF rs r.g = r.ds := by
  have e : stF rs r.g = .tup [.str r.st, r.ow, .non] := by unfold stF; rw [rowOf_mem h n]
  refine ⟨?_, ?_, ?_⟩
  · unfold stOf; rw [ssF_at h24, e]
  · unfold owOf; rw [ssF_at h24, e]
  · unfold wsF; rw [rowOf_mem h n]
theorem built_ok {rs : List Rr} (h : Built rs) (n : (rs.map (·.g)).Nodup) (h24 : ∀ r ∈ rs, r.g < 24) : faultD (ssF rs) (wsF rs) 1 = "" := by
  obtain ⟨ra, wa, ls, dl, m, hls, hch, ers, hdl, hall⟩ := h
  have fact := fun r hr => ssF_mem (rs := rs) (r := r) hr n (h24 r hr)
  obtain ⟨a1, a2, a3⟩ := fact ⟨1, ra, wa, rootD 0 ls, "table", .int 0⟩ (by rw [ers]; simp)
  have a1 : stOf (ssF rs) 1 = "table" := a1
  have a2 : owOf (ssF rs) 1 = .int 0 := a2
  have a3 : wsF rs 1 = rootD 0 ls := a3
  have lf : ∀ r ∈ leafR 0 ls, r ∈ rs := fun r hr => by rw [ers]; simp [hr]
  have lfst : ∀ (j : Nat) (ls : List Lf), ∀ r ∈ leafR j ls, r.st = ("table" : Str) ∧ r.ow = .int 0 := by
    intro j ls
    induction ls generalizing j with
    | nil => intro r hr; cases hr
    | cons l ls ih =>
      intro r hr
      simp only [leafR] at hr
      rcases List.mem_append.mp hr with hr | hr
      · cases l with
        | no => cases hr
        | yes tb ra wa ds =>
          simp only [lfR, List.mem_cons, List.not_mem_nil, or_false] at hr
          subst hr; exact ⟨rfl, rfl⟩
      · exact ih (j + 1) r hr
  have t1 : tabB (ssF rs) (wsF rs) 1 rootW = true := by
    unfold tabB
    rw [a1, a3, decide_eq_true rfl, Bool.true_and]
    exact List.all_eq_true.mpr (rootD_root 0 ls (by omega))
  have t2 : leavesB (ssF rs) (wsF rs) (.int 0) (rootD 0 ls) [1] = true := by
    refine leaves_ok 0 ls [1] (fun r hr => ?_) (by simp)
    obtain ⟨b1, b2, b3⟩ := fact r (lf r hr)
    obtain ⟨c1, c2⟩ := lfst 0 ls r hr
    refine ⟨by rw [b2, c2]; rfl, ?_⟩
    unfold tabB
    rw [b1, c1, decide_eq_true rfl, Bool.true_and, b3]
    exact List.all_eq_true.mpr (hch.entry r hr)
  obtain ⟨bef, _, t3⟩ := pages_ch (ss := ssF rs) (ws := wsF rs) (ow := .int 0) hch (by omega) (fun r hr => (fact r (lf r hr)).2.2) (fun g h1 h2 => by
    obtain ⟨r, hr, rfl⟩ := hall g h1 h2
    obtain ⟨x1, x2, x3, x4⟩ := hdl r hr
    obtain ⟨b1, b2, b3⟩ := fact r (by rw [ers]; simp [hr])
    exact ⟨by rw [b1, x2], by rw [b2, x3]; rfl⟩) []
  rw [List.append_nil] at t3
  simp only [faultD, t1, a2, a3, t2, t3]
  rfl
end Hc

set_option maxHeartbeats 8000000
namespace Hc
open PySem PySem.Spec PyProof.Rows L2 Hr
def ssI (rs : List Rr) (tk : List Nat) : List D := (List.range 24).map fun g => if g ∈ tk then stF rs g else hostD
def wsI (rs : List Rr) (tk : List Nat) : Nat → List D := fun g => if g ∈ tk then wsF rs g else List.replicate 4 (.int 0)
theorem ssI_nil (rs : List Rr) : ssI rs [] = List.replicate 24 hostD := rfl
theorem ssI_set {rs : List Rr} {tk : List Nat} {g : Nat} (h : g < 24) : (ssI rs tk).set g (stF rs g) = ssI rs (tk ++ [g]) := by
  refine List.ext_getElem? fun k => ?_
  by_cases hk : k < 24
  · unfold ssI
    rw [List.getElem?_set, List.getElem?_map, List.getElem?_map, List.getElem?_range hk]
    by_cases e : g = k
    · subst e; simp [h]
    · simp [e, show ¬ k = g from fun z => e z.symm]
  · rw [List.getElem?_eq_none (by rw [List.length_set]; unfold ssI; simp; omega), List.getElem?_eq_none (by unfold ssI; simp; omega)]
theorem wsI_put {rs : List Rr} {tk : List Nat} {g : Nat} : putW (wsI rs tk) g (wsF rs g) = wsI rs (tk ++ [g]) := funext fun k => by
  unfold putW wsI
  by_cases e : k = g
  · subst e; simp
  · rw [if_neg e]; simp [e]
theorem ssI_all {rs : List Rr} {tk : List Nat} (h : ∀ g, g ∈ rs.map (·.g) → g ∈ tk) : ssI rs tk = ssF rs := by
  unfold ssI ssF
  refine List.map_congr_left fun g _ => ?_
  by_cases c : g ∈ tk
  · rw [if_pos c]
  · rw [if_neg c]; unfold stF; rw [rowOf_none (fun z => c (h g z))]
theorem wsI_all {rs : List Rr} {tk : List Nat} (h : ∀ g, g ∈ rs.map (·.g) → g ∈ tk) : wsI rs tk = wsF rs := funext fun g => by
  unfold wsI
  by_cases c : g ∈ tk
  · rw [if_pos c]
  · rw [if_neg c]; unfold wsF; rw [rowOf_none (fun z => c (h g z))]
theorem rowOf_some {rs : List Rr} {g : Nat} {r : Rr} (h : rowOf rs g = some r) : r ∈ rs := List.mem_of_find?_eq_some h
theorem ssF_ok {C : Addr} {H : Hp} {rd : Addr} {rs : List Rr} (h : Rows C H rd rs) : StOk (ssF rs) := by
  intro e he
  obtain ⟨g, _, rfl⟩ := List.mem_map.mp he
  unfold stF
  cases hr : rowOf rs g with
  | none => exact ⟨"host", .non, .non, rfl, by decide +kernel, .inl rfl⟩
  | some r =>
    have R := h.rows r (rowOf_some hr)
    refine ⟨r.st, r.ow, .non, rfl, R.st, ?_⟩
    rcases R.ow with h | ⟨i, _, h⟩
    · exact .inl h
    · exact .inr ⟨_, h⟩
theorem wsF_ok {C : Addr} {H : Hp} {rd : Addr} {rs : List Rr} (h : Rows C H rd rs) : ∀ g, ∀ e ∈ wsF rs g, Wsh e := by
  intro g e he
  unfold wsF at he
  cases hr : rowOf rs g with
  | none => rw [hr] at he; rw [List.eq_of_mem_replicate he]; exact .int 0 (by decide)
  | some r => rw [hr] at he; exact (h.rows r (rowOf_some hr)).wsh e he
theorem MeR.cell {N C : Addr} {H : Hp} {p : Addr} {a : Ads} {ss : List D} {ws : Nat → List D} {ln : Nat} (M : MeR N C H p a ss ws ln) : ∀ c ∈ a.cells, CellP H c := fun c hc => by
  unfold Ads.cells at hc
  simp only [List.mem_cons] at hc
  rcases hc with rfl | rfl | rfl | hc
  · obtain ⟨sx, h, _⟩ := M.hs; exact .inl ⟨_, h⟩
  · exact .inl ⟨_, M.hw⟩
  · obtain ⟨lx, h, _⟩ := M.hl; exact .inl ⟨_, h⟩
  · obtain ⟨k, hk⟩ := List.mem_iff_getElem?.mp hc
    obtain ⟨ys, hy, _⟩ := M.rw k c hk
    exact .inl ⟨_, hy⟩
theorem pln_wsh {ds : List D} (h : ∀ e ∈ ds, Wsh e) : plnL ds = true ∧ dptL ds ≤ 1 := by
  induction ds with
  | nil => exact ⟨rfl, by decide⟩
  | cons d ds ih =>
    obtain ⟨i1, i2⟩ := ih fun e he => h e (List.mem_cons_of_mem _ he)
    have := Wsh.all (f := fun d => pln d && decide (dpt d ≤ 1)) (by decide +kernel) (h d (List.mem_cons_self ..))
    simp only [Bool.and_eq_true, decide_eq_true_eq] at this
    simp only [plnL, dptL, this.1, i1]
    exact ⟨rfl, by omega⟩
theorem mapD_wsh {ws : Nat → List D} (h : ∀ g, ∀ e ∈ ws g, Wsh e) (ds : List D) : ∀ e ∈ mapD ws ds, Wsh e := fun e he => by
  obtain ⟨d, _, hd⟩ := List.mem_flatMap.mp he
  cases hgr : grO "table" d with
  | some g => rw [hgr] at hd; exact h _ e hd
  | none => rw [hgr] at hd; rw [List.eq_of_mem_replicate hd]; exact .non
def spLaw (K : PySem.W.Frag) : Sp := fun vs H Q _ => ∃ (a : Addr) (ns : List Int), vs = [.ref a] ∧ SqL K H a (ns.map V.int) ∧ ns.length ≤ 1000 ∧ ∀ H', Q (.bl true) H'
section
variable {P : Program} {w : World} {K : PySem.W.Frag} {mg : Str → Option Value} {base : Heap} {f : Addr} {fd : FuncData} {C N : Addr}
abbrev s_law : Stmt := top 69
theorem sc_law : FnScope ["script", "tape", "memory", "rows", "right", "granule", "many", "told"] ["script"] (C8.fnScope s_law) := C8.fnScope_by (by decide +kernel)
theorem fn_law (F : C8.Fun K "law" "law" s_law f fd) (b : Binds K fd ["script"] []) (T : Txt K mg w C)
    (c__law_next : C8.Cal P w K mg base 1 "_law_next" spNext []) (c__law_built : C8.Cal P w K mg base 3 "_law_built" (spBuilt N C) []) (c__law_bent : C8.Cal P w K mg base 2 "_law_bent" (spBent C) []) (c__law_put : C8.Cal P w K mg base 7 "_law_put" (spPut N C) []) (m_log : C8.Met P w K mg base 1 N "log" (spML N C) []) (c_tables_fault : C8.Cal P w K mg base 8 "tables_fault" (spTF N C) []) (c__law_due : C8.Cal P w K mg base 5 "_law_due" (spLDue N C) []) (c__law_map : C8.Cal P w K mg base 4 "_law_map" (spLMap N C) [])
    (c_map_of : C8.Cal P w K mg base 5 "map_of" (fun vs H Q _ => ∃ (p : Addr) (g : Nat) (a : Ads) (ss : List D) (ws : Nat → List D) (ln : Nat), vs = [.ref p, .int (g : Int)] ∧ MeR N C H p a ss ws ln ∧ g < 24 ∧ ∀ H' l xs, Same H H' → H l = none → H' l = some (.lst xs) → IsA C H' xs (mapD ws (ws g)) → Q (.ref l) H') []) :
    FnOk P w K mg base C8.CX0 9 f fd ["script"] (spLaw K) := by
  refine C8.fn0 F sc_law (fun vs H Q E h => ?_) (fun cdv A outer s H vs Q E hr h => ?_)
  · obtain ⟨a, ns, rfl, _⟩ := h; rfl
  obtain ⟨a0, ns, rfl, ha, hns, q⟩ := h
  refine ⟨_, (pss_cons (ps_set (i := 1) sc_law.nd rfl (Or.inl rfl) (pe_lst (pa_cons (pe_callTy call_list_of rfl T.z_list bt_list (pa_cons (pv 0) pa_nil)) (pa_cons pe_int (pa_cons pe_int (pa_cons pe_int pa_nil))))))
      (pss_cons (ps_asg (C8.pe_c c__law_built hr (by first | decide | omega) rfl (pa_cons (pv 1) pa_nil)) (pg_tup rfl (pgs_cons (pg_name (i := 2) sc_law.nd rfl (Or.inl rfl)) (pgs_cons (pg_name (i := 3) sc_law.nd rfl (Or.inl rfl)) pgs_nil))))
      (pss_cons (ps_set (i := 4) sc_law.nd rfl (Or.inl rfl) (pe_cmpR op_eq (C8.pe_c c__law_next hr (by first | decide | omega) rfl (pa_cons (pv 1) (pa_cons pe_int pa_nil))) pe_int (nomark _)))
      (C8.pss_cut (ps_if (pt_not (pt_val (pv 4))) (pss_one (ps_expr (C8.pe_c c__law_bent hr (by first | decide | omega) rfl (pa_cons (pv 1) (pa_cons (pv 3) pa_nil))))) pss_nil)
      (C8.pss_cut (ps_for PassesOwn.never rfl (pi_list (pe_callB cr_sorted rfl T.z_sorted bt_sorted (pa_cons (pe_callTy (call_list_dK rfl) rfl T.z_list bt_list (pa_cons (pv 3) pa_nil)) pa_nil))) (pg_name (i := 5) sc_law.nd rfl (Or.inl rfl))
      (pss_one (ps_expr (C8.pe_c c__law_put hr (by first | decide | omega) rfl (pa_cons (pv 2) (pa_cons (pv 5) (pa_cons (pe_ix ix_list (pe_dget (ru hr) (pv 3) (pv 5) (fun _ _ => rfl)) pe_int (fun _ _ => rfl)) (pa_cons (pe_ix ix_list (pe_dget (ru hr) (pv 3) (pv 5) (fun _ _ => rfl)) pe_int (fun _ _ => rfl)) (pa_cons (pe_ix ix_list (pe_dget (ru hr) (pv 3) (pv 5) (fun _ _ => rfl)) pe_int (fun _ _ => rfl)) pa_nil)))))))))
      (pss_cons (ps_set (i := 6) sc_law.nd rfl (Or.inl rfl) (pe_callB call_lenS rfl T.z_len bt_len (pa_cons (C8.pe_mt0 m_log hr (by first | decide | omega) (pv 2)) pa_nil)))
      (pss_cons (ps_set (i := 7) sc_law.nd rfl (Or.inl rfl) (C8.pe_c c_tables_fault hr (by first | decide | omega) rfl (pa_cons (pv 2) (pa_cons pe_int pa_nil))))
      (pss_cons (ps_if (PW.pt (pw_or (pt_cmpR op_ne (pv 7) (C8.pe_c c__law_due hr (by first | decide | omega) rfl (pa_cons (pv 2) pa_nil)) (nomark _)) (pw_or1 (PW.pt (pw_and (pt_val (pv 4)) (pw_and1 (pt_cmpR op_ne (pv 7) pe_str (nomark _)))))))) (pss_one (ps_ret pe_bl)) pss_nil)
      (pss_one (ps_ret (pe_and (pe_cmpR (op_eqD (room64 hr)) (C8.pe_c c_map_of hr (by first | decide | omega) rfl (pa_cons (pv 2) (pa_cons pe_int pa_nil))) (C8.pe_c c__law_map hr (by first | decide | omega) rfl (pa_cons (pv 2) pa_nil)) (nomark _)) (pe_one (pe_cmpR op_eq (pe_callB call_lenS rfl T.z_len bt_len (pa_cons (C8.pe_mt0 m_log hr (by first | decide | omega) (pv 2)) pa_nil)) (pv 6) (nomark _)))))))))))))), ?_⟩
  refine ⟨_, rfl, a0, _, rfl, .inl ha, fun s0 hs0 => ⟨(by show 4 ≤ sizeLine; decide), fun tp htp => ?_⟩⟩
  have hs0p : s0 ≠ tp := fun z => by
    rw [← z, upd_same] at htp; cases htp
  have t0 : Tape (upd (upd H s0 (.lst (ns.map V.int))) tp (.lst [.ref s0, .int 0, .int 0, .int 5])) tp s0 := ⟨ns, 0, 0, 5, upd_same, by rw [upd_ne hs0p]; exact upd_same, fun z => hs0p z.symm, Nat.zero_le _⟩
  generalize upd (upd H s0 (.lst (ns.map V.int))) tp (.lst [.ref s0, .int 0, .int 0, .int 5]) = H1 at *
  refine ⟨_, rfl, tp, s0, rfl, t0, fun H2 t p a rd rs t2 ht M2 R2 hb sep => ?_⟩
  refine ⟨t, _, rfl, SqT.of ht, rfl, _, _, rfl, _, _, rfl, rfl, ?_⟩
  refine ⟨_, rfl, tp, s0, 3, rfl, t2, by decide, by decide, fun H3 r t3 o3 g0 g1 => ?_⟩
  have cpt : ∀ c ∈ [tp], CellP H2 c := by intro c hc; simp at hc; rw [hc]; exact t2.cell.1
  have M3 := M2.chg cpt (fun c hc z => by simp at z; exact sep.tm (z ▸ hc)) (Chg.off o3)
  have R3 := R2.chg cpt (Chg.off o3) (fun c hc z => by simp at z; exact (sep.rm c hc).2.1 z)
  have hlen : rs.length ≤ 24 := by
    have h1 := nodup_lt 24 (rs.map (·.g)) R3.gs fun g hg => by
      obtain ⟨r, hr, e⟩ := List.mem_map.mp hg
      rw [← e]; exact (R3.rows r hr).g24
    simpa using h1
  clear M2 R2 t2 ht cpt o3
  refine ⟨rfl, ?_⟩
  refine ⟨fun σ' H' => ∃ rs' rt, σ' = [some (.ref a0), some (.ref tp), some (.ref p), some (.ref rd), some (.bl rt), none, none, none] ∧ MeR N C H' p a (List.replicate 24 hostD) zW 0 ∧ Rows C H' rd rs' ∧ (∀ c ∈ rd :: rcells rs', c ∉ a.cells) ∧ (rt = true → Built rs'), ?_, ?_⟩
  · refine ⟨_, rfl, _, rfl, ?_⟩
    by_cases c0 : r = 0
    · refine bF (by simp [c0]) ⟨rs, _, rfl, M3, R3, fun c hc => (sep.rm c hc).1, fun _ => hb⟩
    · refine bT (by simp [c0]) ?_
      have hl0 : 0 < rs.length := by
        obtain ⟨_, _, _, _, _, _, _, e, _⟩ := hb
        rw [e]; simp
      refine ⟨_, rfl, _, rfl, tp, s0, rd, rs, rfl, t3, R3, hl0, hlen, fun c hc => (sep.rm c hc).2, fun H4 rs' t4 R4 ec eg ch => ?_⟩
      have cp : ∀ c ∈ tp :: rcells rs, CellP H3 c := fun c hc => by
        rcases List.mem_cons.mp hc with rfl | hc
        · exact t3.cell.1
        · exact R3.cell c (List.mem_cons_of_mem _ hc)
      have M4 := M3.chg cp (fun c hc z => by
        rcases List.mem_cons.mp z with rfl | z
        · exact sep.tm hc
        · exact (sep.rm c (List.mem_cons_of_mem _ z)).1 hc) ch
      exact ⟨rs', _, rfl, M4, R4, fun c hc => (sep.rm c (by rw [← ec]; exact hc)).1, fun z => by simp [c0] at z⟩
  clear M3 R3 hb sep t3 hlen
  rintro σ' H4 ⟨rs, rt, rfl, M4, R4, hdis, hright⟩
  have hlen : rs.length ≤ 24 := by
    have h1 := nodup_lt 24 (rs.map (·.g)) R4.gs fun g hg => by
      obtain ⟨r, hr, e⟩ := List.mem_map.mp hg
      rw [← e]; exact (R4.rows r hr).g24
    simpa using h1
  refine ⟨fun σ' H' => ∃ v5 ln, σ' = [some (.ref a0), some (.ref tp), some (.ref p), some (.ref rd), some (.bl rt), v5, none, none] ∧ MeR N C H' p a (ssF rs) (wsF rs) ln ∧ Rows C H' rd rs, ?_, ?_⟩
  · refine ⟨_, rfl, rd, _, rfl, R4.hd, fun l1 h1 => ?_⟩
    have s1 := same_new (o := .lst ((dkv rs).map fun kv => kV kv.1)) h1
    have ek : (dkv rs).map (fun kv => kV kv.1) = (rs.map fun r => (r.g : Int)).map V.int := by
      unfold dkv; rw [List.map_map, List.map_map]; rfl
    rw [ek] at s1 ⊢
    refine ⟨l1, rs.map fun r => (r.g : Int), rfl, SqL.of upd_same, by rw [List.length_map]; omega, fun ns' nl hperm hpw hnl => ?_⟩
    have s2 := same_new (o := .lst (ns'.map V.int)) hnl
    have s12 := s1.trans s2
    have enl : (upd (upd H4 l1 (.lst ((rs.map fun r => (r.g : Int)).map V.int))) nl (.lst (ns'.map V.int))) nl = some (.lst (ns'.map V.int)) := upd_same
    have nnl : nl ∉ a.cells := M4.fresh (s1.free hnl)
    have M5 := M4.same s12
    have R5 := R4.same s12
    generalize upd (upd H4 l1 (.lst ((rs.map fun r => (r.g : Int)).map V.int))) nl (.lst (ns'.map V.int)) = H5 at *
    -- the names as natural numbers
    have hpN : (ns'.map Int.toNat).Perm (rs.map (·.g)) := by
      have := hperm.map Int.toNat
      rw [List.map_map] at this
      have e : (rs.map (Int.toNat ∘ fun r => (r.g : Int))) = rs.map (·.g) := List.map_congr_left fun r _ => Int.toNat_natCast _
      rwa [e] at this
    have hN : ∀ n ∈ ns', ∃ r ∈ rs, (r.g : Int) = n := fun n hn => List.mem_map.mp (hperm.mem_iff.mp hn)
    have hnd : (ns'.map Int.toNat).Nodup := hpN.nodup_iff.mpr R4.gs
    have hall : ∀ g, g ∈ rs.map (·.g) → g ∈ ns'.map Int.toNat := fun g hg => hpN.mem_iff.mpr hg
    generalize hnat : ns'.map Int.toNat = nN at *
    have hnl' : ns'.length = rs.length := by rw [hperm.length_eq, List.length_map]
    refine ⟨nl, rfl, ⟨_, SqL.of enl⟩, for_it (walk_list (K := K) (a := nl) (xs := ns'.map V.int)) (fun i σ H' => ∃ v5, σ = [some (.ref a0), some (.ref tp), some (.ref p), some (.ref rd), some (.bl rt), v5, none, none] ∧ MeR N C H' p a (ssI rs (nN.take i)) (wsI rs (nN.take i)) (6 * i) ∧ Rows C H' rd rs ∧ H' nl = some (.lst (ns'.map V.int))) ⟨none, rfl, M5, R5, enl⟩ (fun i σ H' _ h => by obtain ⟨_, _, _, _, h⟩ := h; exact SqL.of h) ?_ ?_⟩
    · clear M4 M5 R4 R5 s1 s2 s12
      rintro i z σ H6x H6 hi ⟨v5, rfl, M6, R6, enl6⟩ ⟨rfl, hz⟩
      rw [List.length_map] at hi
      rw [List.getElem?_map, List.getElem?_eq_getElem hi] at hz
      cases hz
      obtain ⟨r, hr, er⟩ := hN ns'[i] (List.getElem_mem hi)
      have hnNi : nN[i]? = some r.g := by
        rw [← hnat, List.getElem?_map, List.getElem?_eq_getElem hi, ← er]
        show some (Int.toNat (r.g : Int)) = _
        rw [Int.toNat_natCast]
      rw [← er]
      obtain ⟨⟨xo, xs, r1, r2, r3, r4⟩, x4, x24, xw, xs', xow⟩ := R6.rows r hr
      have hdg : DGet H6 rd (.int ((r.g : Nat) : Int)) (some (.ref r.ra)) := by
        have := DGet.k (k := .inl ((r.g : Nat) : Int)) R6.hd
        rw [valV_dkv hr R6.gs] at this
        exact this
      have hnotin : r.g ∉ nN.take i := fun z => by
        obtain ⟨j, hj⟩ := List.mem_iff_getElem?.mp z
        have hji : j < i := by
          rcases Nat.lt_or_ge j i with h | h
          · exact h
          · rw [List.getElem?_take, if_neg (by omega)] at hj; cases hj
        rw [List.getElem?_take, if_pos hji] at hj
        have := (List.getElem?_inj (by have := (List.getElem?_eq_some_iff.mp hj).1; exact this) hnd).mp (hj.trans hnNi.symm)
        omega
      have est : stF rs r.g = .tup [.str r.st, r.ow, .non] := by unfold stF; rw [rowOf_mem hr R6.gs]
      have ews : wsF rs r.g = r.ds := by unfold wsF; rw [rowOf_mem hr R6.gs]
      refine ⟨_, rfl, _, rfl, _, rfl, _, rfl, rd, _, rfl, hdg, r.ra, _, 0, _, rfl, rfl, SqL.of r1, atI_nat (j := 0) rfl, _, rfl, _, rfl, rd, _, rfl, hdg, r.ra, _, 1, _, rfl, rfl, SqL.of r1, atI_nat (j := 1) rfl, _, rfl, _, rfl, rd, _, rfl, hdg, r.ra, _, 2, _, rfl, rfl, SqL.of r1, atI_nat (j := 2) rfl, ?_⟩
      have hrm := mem_rcells hr
      have hnw : r.wa ∉ a.cells := hdis _ (List.mem_cons_of_mem _ hrm.2)
      refine ⟨p, r.wa, r.g, r.st, xo, r.ow, xs, r.ds, a, _, _, 6 * i, "host", .non, rfl, M6, x24, r3, hnw, r4, x4, fun e he => (xw e he).ok, xs', r2, ?_, ?_, by omega, fun H7 M7 b7 => ?_⟩
      · rcases xow with h | ⟨k, hk, h⟩
        · rw [h]; rfl
        · rw [h]; simp [isNon, belD]; omega
      · unfold ssI
        rw [List.getElem?_map, List.getElem?_range x24]
        show some (if r.g ∈ nN.take i then _ else _) = _
        rw [if_neg hnotin]
      · rw [← est, ← ews, ssI_set x24, wsI_put] at M7
        have etk : nN.take i ++ [r.g] = nN.take (i + 1) := by rw [List.take_add_one, hnNi]; rfl
        rw [etk] at M7
        have cpm := M6.cell
        exact ⟨_, rfl, M7, R6.chg cpm b7 hdis, b7 _ _ enl6 nnl⟩
    · rintro σ H6 ⟨v5, rfl, M6, R6, _⟩
      have hnNl : nN.length = ns'.length := by rw [← hnat, List.length_map]
      rw [List.length_map, ← hnNl, List.take_length, ssI_all hall, wsI_all hall] at M6
      exact ⟨_, _, rfl, M6, R6⟩
  clear M4 R4 hdis
  rintro σ' H5 ⟨v5, ln, rfl, M5, R5⟩
  have hso := ssF_ok R5
  have hwsh := wsF_ok R5
  obtain ⟨dx, hp⟩ := M5.ins
  have hgs := R5.gs
  have h24 : ∀ r ∈ rs, r.g < 24 := fun r hr => (R5.rows r hr).g24
  have hfix : rt = true → faultD (ssF rs) (wsF rs) 1 = "" := fun h => built_ok (hright h) hgs h24
  clear hright
  generalize ssF rs = ss at *
  generalize wsF rs = ws at *
  refine ⟨_, rfl, p, dx, _, rfl, hp, rfl, p, a, ss, ws, ln, rfl, M5, fun l lx hl hll => ⟨l, lx, rfl, .inl (SqL.of upd_same), ?_⟩⟩
  have M6 := M5.same (same_new (o := .lst lx) hl)
  generalize upd H5 l (.lst lx) = H6 at *
  refine ⟨_, rfl, p, 1, a, ss, ws, ln, rfl, M6, by decide, hso, fun H7 s7 => ?_⟩
  have M7 := M6.same s7
  refine ⟨_, rfl, _, rfl, p, a, ss, ws, ln, rfl, M7, hso, hwsh, fun H8 s8 => ⟨rfl, _, rfl, bF (by simp) ?_⟩⟩
  have M8 := M7.same s8
  have l4 : ∀ k, k < 24 → (ws k).length = 4 := fun k hk => by
    obtain ⟨r0, hr0⟩ : ∃ r0, a.rows[k]? = some r0 := ⟨_, List.getElem?_eq_getElem (by rw [M5.r24]; exact hk)⟩
    obtain ⟨_, _, _, l4⟩ := M5.rw k r0 hr0
    exact l4
  obtain ⟨e1, e2⟩ := pln_wsh (mapD_wsh hwsh (ws 1))
  refine ⟨_, rfl, _, rfl, ?_⟩
  cases rt with
  | true =>
    refine bT rfl ?_
    refine ⟨_, rfl, rfl, _, rfl, ?_⟩
    rw [hfix rfl]
    refine bF (by simp) ?_
    unfold tNext
    dsimp only
    refine ⟨_, rfl, p, 1, a, ss, ws, ln, rfl, M8, by decide, fun H9 l9 xs9 s9 hl9 e9 i9 => ?_⟩
    have M9 := M8.same s9
    refine ⟨_, rfl, p, a, ss, ws, ln, rfl, M9, hwsh 1, fun H10 l10 xs10 s10 e10 i10 => ?_⟩
    have d9 := is_dp (K := K) (d := .lst (mapD ws (ws 1))) (by simp only [pln]; exact e1) (Is.lst (s10 _ _ e9) (i9.same s10))
    have d10 := is_dp (K := K) (d := .lst (mapD ws (ws 1))) (by simp only [pln]; exact e1) (Is.lst e10 i10)
    have sh := pyd_shaped (d := .lst (mapD ws (ws 1))) (by simp only [pln]; exact e1) (by simp only [dpt]; omega)
    have ly := (pyd_lay (.lst (mapD ws (ws 1))) (by simp only [pln]; exact e1)).1
    refine ⟨_, _, d9, d10, sh, sh, _, rfl, bT (SeqAt.eqv_refl _ ly) ?_⟩
    have M10 := M9.same s10
    obtain ⟨dx', hp'⟩ := M10.ins
    refine ⟨_, rfl, p, dx', _, rfl, hp', rfl, p, a, ss, ws, ln, rfl, M10, fun l' lx' hl' hll' => ⟨l', lx', rfl, .inl (SqL.of upd_same), _, rfl, rfl, ?_⟩⟩
    have eb : decide (V.int ((lx'.length : Nat) : Int) = V.int ((lx.length : Nat) : Int)) = true := decide_eq_true (by rw [hll, hll'])
    rw [eb]
    exact q _
  | false =>
    refine bF rfl ?_
    unfold tNext
    dsimp only
    refine ⟨_, rfl, p, 1, a, ss, ws, ln, rfl, M8, by decide, fun H9 l9 xs9 s9 hl9 e9 i9 => ?_⟩
    have M9 := M8.same s9
    refine ⟨_, rfl, p, a, ss, ws, ln, rfl, M9, hwsh 1, fun H10 l10 xs10 s10 e10 i10 => ?_⟩
    have d9 := is_dp (K := K) (d := .lst (mapD ws (ws 1))) (by simp only [pln]; exact e1) (Is.lst (s10 _ _ e9) (i9.same s10))
    have d10 := is_dp (K := K) (d := .lst (mapD ws (ws 1))) (by simp only [pln]; exact e1) (Is.lst e10 i10)
    have sh := pyd_shaped (d := .lst (mapD ws (ws 1))) (by simp only [pln]; exact e1) (by simp only [dpt]; omega)
    have ly := (pyd_lay (.lst (mapD ws (ws 1))) (by simp only [pln]; exact e1)).1
    refine ⟨_, _, d9, d10, sh, sh, _, rfl, bT (SeqAt.eqv_refl _ ly) ?_⟩
    have M10 := M9.same s10
    obtain ⟨dx', hp'⟩ := M10.ins
    refine ⟨_, rfl, p, dx', _, rfl, hp', rfl, p, a, ss, ws, ln, rfl, M10, fun l' lx' hl' hll' => ⟨l', lx', rfl, .inl (SqL.of upd_same), _, rfl, rfl, ?_⟩⟩
    have eb : decide (V.int ((lx'.length : Nat) : Int) = V.int ((lx.length : Nat) : Int)) = true := decide_eq_true (by rw [hll, hll'])
    rw [eb]
    exact q _
end
end Hc

namespace Hr
open PySem PySem.Spec PyProof.Rows L2
theorem mets_of {P : Program} {w : World} {K : PySem.W.Frag} {mg : Str → Option Value} {base : Heap} {k : Nat} {C : Addr} {m : Str} {g : Addr} {sp : Sp} (M : C8.Met P w K mg base k C m sp []) (b : BMeth K C m g) : MetS P w K mg base k C m g sp := by
  obtain ⟨f', fd, ps, ds, c, me', F, bb, d⟩ := M.ex
  have h1 := me'.1
  have h2 := b.mt.1
  rw [h1] at h2
  cases h2
  cases d
  exact mets c b F bb
end Hr

namespace Hc
open PySem PySem.Spec PyProof.Rows L2 Hr
theorem all_mk {l : PySem.W.OpenLaw} {w : World} {K : PySem.W.Frag} {h : Heap} {mg : Str → Option Value} {fa C N Fo tt1 tt2 tt3 tt4 tt5 ku0  dT0 Rq ky0 ky1 ky2 ky3 ky4 ky5 ky6 ky7 ky8 ky9 ky10 ky11 ky12 ky13 ky14 ky15 ky16 ky17 ky18 ky19 vl0 vl1 vl2 vl3 vl4 vl5 vl6 vl7 vl8 vl9 vl10 vl11 vl12 vl13 vl14 vl15 vl16 vl17 vl18 vl19 f1 f2 f3 f4 f5 f6 f7 f8 f9 f10 f11 f12 f13 f14 f15 f16 f17 f18 f19 f20 f21 f22 f23 f24 f25 f26 f27 f28 f29 f30 f31 f32 f33 f34 f35 f36 f37 f38 f39 f40 f41 f42 f43 f44 f45 f46 f47 : Addr} (X : K.In h) (G : h.Ns mainGlobals mg) (hfa : mg "law" = some (.ref fa))
    {od1 od2 od3 od4 od5 od6 od7 od8 od9 od10 od11 od12 od13 od14 od15 od16 od17 od18 od19 od20 od21 od22 od23 od24 od25 od26 od27 od28 od29 od30 od31 od32 od33 od34 od35 od36 od37 od38 od39 od40 od41 od42 od43 od44 od45 od46 od47 an1 an2 an3 an4 an5 an6 an7 an8 an9 an10 an11 an12 an13 an14 an15 an16 an17 an18 an19 an20 an21 an22 an23 an24 an25 an26 an27 an28 an29 an30 an31 an32 an33 an34 an35 an36 an37 an38 an39 an40 an41 an42 an43 an44 an45 an46 an47 : Option Addr} {sl1 sl2 sl3 sl4 sl5 sl6 sl7 sl8 sl9 sl10 sl11 sl12 sl13 sl14 sl15 sl16 sl17 sl18 sl19 sl20 sl21 sl22 sl23 sl24 sl25 sl26 sl27 sl28 sl29 sl30 sl31 sl32 sl33 sl34 sl35 sl36 sl37 sl38 sl39 sl40 sl41 sl42 sl43 sl44 sl45 sl46 sl47 : Array (Option Value)} {oc1 oc2 oc3 oc4 oc5 oc6 oc7 oc8 oc9 oc10 oc11 oc12 oc13 oc14 oc15 oc16 oc17 oc18 oc19 oc20 oc21 oc22 oc23 oc24 oc25 oc26 oc27 oc28 oc29 oc30 oc31 oc32 oc33 oc34 oc35 oc36 oc37 oc38 oc39 oc40 oc41 oc42 oc43 oc44 oc45 oc46 oc47 kV1 kV2 kV3 kV4 kV5 kV6 kV7 kV8 kV9 kV10 kV11 kV12 kV13 kV14 kV15 kV16 kV17 kV18 kV19 kV20 kV21 kV22 kV23 kV24 kV25 kV26 kV27 kV28 kV29 kV30 kV31 kV32 kV33 kV34 kV35 kV36 kV37 kV38 kV39 kV40 kV41 kV42 kV43 kV44 kV45 kV46 kV47 dc1 dc2 dc3 dc4 dc5 dc6 dc7 dc8 dc9 dc10 dc11 dc12 dc13 dc14 dc15 dc16 dc17 dc18 dc19 dc20 dc21 dc22 dc23 dc24 dc25 dc26 dc27 dc28 dc29 dc30 dc31 dc32 dc33 dc34 dc35 dc36 dc37 dc38 dc39 dc40 dc41 dc42 dc43 dc44 dc45 dc46 dc47 pm1 pm2 pm3 pm4 pm5 pm6 pm7 pm8 pm9 pm10 pm11 pm12 pm13 pm14 pm15 pm16 pm17 pm18 pm19 pm20 pm21 pm22 pm23 pm24 pm25 pm26 pm27 pm28 pm29 pm30 pm31 pm32 pm33 pm34 pm35 pm36 pm37 pm38 pm39 pm40 pm41 pm42 pm43 pm44 pm45 pm46 pm47 cd1 cd2 cd3 cd4 cd5 cd6 cd7 cd8 cd9 cd10 cd11 cd12 cd13 cd14 cd15 cd16 cd17 cd18 cd19 cd20 cd21 cd22 cd23 cd24 cd25 cd26 cd27 cd28 cd29 cd30 cd31 cd32 cd33 cd34 cd35 cd36 cd37 cd38 cd39 cd40 cd41 cd42 cd43 cd44 cd45 cd46 cd47 ct1 ct2 ct3 ct4 ct5 ct6 ct7 ct8 ct9 ct10 ct11 ct12 ct13 ct14 ct15 ct16 ct17 ct18 ct19 ct20 ct21 ct22 ct23 ct24 ct25 ct26 ct27 ct28 ct29 ct30 ct31 ct32 ct33 ct34 ct35 ct36 ct37 ct38 ct39 ct40 ct41 ct42 ct43 ct44 ct45 ct46 ct47 : Value}
    {tLEAST tGREATEST tMOST_CHARACTERS tMOST_DEEP tMOST_RANK tMOST_RANK_HOST tGRANULES tWORDS tPROCESSORS tPAGES tFIRST_SHARED : Tok} {esF  : Array DictEntry} {nF  : Nat}
    {utt1_0 utt1_1 utt1_2 utt2_0 utt2_1 utt3_0 utt3_1 utt3_2 utt3_3 utt4_0 utt4_1 utt4_2 utt4_3 utt5_0 utt5_1 utt5_2 utt5_3 utt5_4 utt5_5 uku0_0 uku0_1 uku0_2 uku0_3 uku0_4 uku0_5 uku0_6 : Tok} {ntt1 ntt2 ntt3 ntt4 ntt5 nku0 : Nat} {dtt1 dtt2 dtt3 dtt4 dtt5 dku0 : Option Addr} {stt1 stt2 stt3 stt4 stt5 sku0 : Array (Option Value)}
    {esR : Array DictEntry}
    {nR : Nat}
    {uky0_0 : Tok}
    {uky0_1 : Tok}
    {nky0 : Nat}
    {dky0 : Option Addr}
    {sky0 : Array (Option Value)}
    {uky1_0 : Tok}
    {uky1_1 : Tok}
    {nky1 : Nat}
    {dky1 : Option Addr}
    {sky1 : Array (Option Value)}
    {uky2_0 : Tok}
    {uky2_1 : Tok}
    {nky2 : Nat}
    {dky2 : Option Addr}
    {sky2 : Array (Option Value)}
    {uky3_0 : Tok}
    {uky3_1 : Tok}
    {nky3 : Nat}
    {dky3 : Option Addr}
    {sky3 : Array (Option Value)}
    {uky4_0 : Tok}
    {uky4_1 : Tok}
    {nky4 : Nat}
    {dky4 : Option Addr}
    {sky4 : Array (Option Value)}
    {uky5_0 : Tok}
    {uky5_1 : Tok}
    {nky5 : Nat}
    {dky5 : Option Addr}
    {sky5 : Array (Option Value)}
    {uky6_0 : Tok}
    {uky6_1 : Tok}
    {nky6 : Nat}
    {dky6 : Option Addr}
    {sky6 : Array (Option Value)}
    {uky7_0 : Tok}
    {uky7_1 : Tok}
    {nky7 : Nat}
    {dky7 : Option Addr}
    {sky7 : Array (Option Value)}
    {uky8_0 : Tok}
    {uky8_1 : Tok}
    {nky8 : Nat}
    {dky8 : Option Addr}
    {sky8 : Array (Option Value)}
    {uky9_0 : Tok}
    {uky9_1 : Tok}
    {nky9 : Nat}
    {dky9 : Option Addr}
    {sky9 : Array (Option Value)}
    {uky10_0 : Tok}
    {uky10_1 : Tok}
    {nky10 : Nat}
    {dky10 : Option Addr}
    {sky10 : Array (Option Value)}
    {uky11_0 : Tok}
    {uky11_1 : Tok}
    {nky11 : Nat}
    {dky11 : Option Addr}
    {sky11 : Array (Option Value)}
    {uky12_0 : Tok}
    {uky12_1 : Tok}
    {nky12 : Nat}
    {dky12 : Option Addr}
    {sky12 : Array (Option Value)}
    {uky13_0 : Tok}
    {uky13_1 : Tok}
    {nky13 : Nat}
    {dky13 : Option Addr}
    {sky13 : Array (Option Value)}
    {uky14_0 : Tok}
    {uky14_1 : Tok}
    {nky14 : Nat}
    {dky14 : Option Addr}
    {sky14 : Array (Option Value)}
    {uky15_0 : Tok}
    {uky15_1 : Tok}
    {nky15 : Nat}
    {dky15 : Option Addr}
    {sky15 : Array (Option Value)}
    {uky16_0 : Tok}
    {uky16_1 : Tok}
    {nky16 : Nat}
    {dky16 : Option Addr}
    {sky16 : Array (Option Value)}
    {uky17_0 : Tok}
    {uky17_1 : Tok}
    {nky17 : Nat}
    {dky17 : Option Addr}
    {sky17 : Array (Option Value)}
    {uky18_0 : Tok}
    {uky18_1 : Tok}
    {nky18 : Nat}
    {dky18 : Option Addr}
    {sky18 : Array (Option Value)}
    {uky19_0 : Tok}
    {uky19_1 : Tok}
    {nky19 : Nat}
    {dky19 : Option Addr}
    {sky19 : Array (Option Value)}
    {uvl6_0 : Tok}
    {nvl6 : Nat}
    {dvl6 : Option Addr}
    {svl6 : Array (Option Value)}
    {uvl4_0 : Tok}
    {uvl4_1 : Tok}
    {uvl4_2 : Tok}
    {nvl4 : Nat}
    {dvl4 : Option Addr}
    {svl4 : Array (Option Value)}
    {uvl7_0 : Tok}
    {uvl7_1 : Tok}
    {uvl7_2 : Tok}
    {nvl7 : Nat}
    {dvl7 : Option Addr}
    {svl7 : Array (Option Value)}
    {ddT0 : Option Addr} {ndT0 : Nat} {sdT0 : Array (Option Value)}
    (a1 : PySem.W.nsIn K mainGlobals "is_number" = some (some (.ref f1)))
    (l1 : K.lookup f1 = some ⟨oc1, od1, .func (PySem.W.fnOf "is_number" "is_number" (C8.fnArgs s_is_number) (C8.fnBody s_is_number) (C8.fnScope s_is_number) .none kV1 dc1 pm1 an1 cd1 ct1), sl1⟩)
    (c1 : PySem.W.codeIn K cd1 "is_number" = true)
    (k1 : PySem.W.keepIn K (.ref f1) = true)
    (a2 : PySem.W.nsIn K mainGlobals "is_text" = some (some (.ref f2)))
    (l2 : K.lookup f2 = some ⟨oc2, od2, .func (PySem.W.fnOf "is_text" "is_text" (C8.fnArgs s_is_text) (C8.fnBody s_is_text) (C8.fnScope s_is_text) .none kV2 dc2 pm2 an2 cd2 ct2), sl2⟩)
    (c2 : PySem.W.codeIn K cd2 "is_text" = true)
    (k2 : PySem.W.keepIn K (.ref f2) = true)
    (a3 : PySem.W.nsIn K mainGlobals "_is_within" = some (some (.ref f3)))
    (l3 : K.lookup f3 = some ⟨oc3, od3, .func (PySem.W.fnOf "_is_within" "_is_within" (C8.fnArgs s__is_within) (C8.fnBody s__is_within) (C8.fnScope s__is_within) .none kV3 dc3 pm3 an3 cd3 ct3), sl3⟩)
    (c3 : PySem.W.codeIn K cd3 "_is_within" = true)
    (k3 : PySem.W.keepIn K (.ref f3) = true)
    (a4 : PySem.W.nsIn K mainGlobals "is_word" = some (some (.ref f4)))
    (l4 : K.lookup f4 = some ⟨oc4, od4, .func (PySem.W.fnOf "is_word" "is_word" (C8.fnArgs s_is_word) (C8.fnBody s_is_word) (C8.fnScope s_is_word) .none kV4 dc4 pm4 an4 cd4 ct4), sl4⟩)
    (c4 : PySem.W.codeIn K cd4 "is_word" = true)
    (k4 : PySem.W.keepIn K (.ref f4) = true)
    (a5 : PySem.W.nsIn K mainGlobals "has_name" = some (some (.ref f5)))
    (l5 : K.lookup f5 = some ⟨oc5, od5, .func (PySem.W.fnOf "has_name" "has_name" (C8.fnArgs s_has_name) (C8.fnBody s_has_name) (C8.fnScope s_has_name) .none kV5 dc5 pm5 an5 cd5 ct5), sl5⟩)
    (c5 : PySem.W.codeIn K cd5 "has_name" = true)
    (k5 : PySem.W.keepIn K (.ref f5) = true)
    (a6 : PySem.W.nsIn K mainGlobals "is_form" = some (some (.ref f6)))
    (l6 : K.lookup f6 = some ⟨oc6, od6, .func (PySem.W.fnOf "is_form" "is_form" (C8.fnArgs s_is_form) (C8.fnBody s_is_form) (C8.fnScope s_is_form) .none kV6 dc6 pm6 an6 cd6 ct6), sl6⟩)
    (c6 : PySem.W.codeIn K cd6 "is_form" = true)
    (k6 : PySem.W.keepIn K (.ref f6) = true)
    (a7 : PySem.W.nsIn K mainGlobals "_is_below" = some (some (.ref f7)))
    (l7 : K.lookup f7 = some ⟨oc7, od7, .func (PySem.W.fnOf "_is_below" "_is_below" (C8.fnArgs s__is_below) (C8.fnBody s__is_below) (C8.fnScope s__is_below) .none kV7 dc7 pm7 an7 cd7 ct7), sl7⟩)
    (c7 : PySem.W.codeIn K cd7 "_is_below" = true)
    (k7 : PySem.W.keepIn K (.ref f7) = true)
    (a8 : PySem.W.nsIn K mainGlobals "is_page" = some (some (.ref f8)))
    (l8 : K.lookup f8 = some ⟨oc8, od8, .func (PySem.W.fnOf "is_page" "is_page" (C8.fnArgs s_is_page) (C8.fnBody s_is_page) (C8.fnScope s_is_page) .none kV8 dc8 pm8 an8 cd8 ct8), sl8⟩)
    (c8 : PySem.W.codeIn K cd8 "is_page" = true)
    (k8 : PySem.W.keepIn K (.ref f8) = true)
    (a9 : PySem.W.nsIn K mainGlobals "is_granule" = some (some (.ref f9)))
    (l9 : K.lookup f9 = some ⟨oc9, od9, .func (PySem.W.fnOf "is_granule" "is_granule" (C8.fnArgs s_is_granule) (C8.fnBody s_is_granule) (C8.fnScope s_is_granule) .none kV9 dc9 pm9 an9 cd9 ct9), sl9⟩)
    (c9 : PySem.W.codeIn K cd9 "is_granule" = true)
    (k9 : PySem.W.keepIn K (.ref f9) = true)
    (a10 : PySem.W.nsIn K mainGlobals "is_processor" = some (some (.ref f10)))
    (l10 : K.lookup f10 = some ⟨oc10, od10, .func (PySem.W.fnOf "is_processor" "is_processor" (C8.fnArgs s_is_processor) (C8.fnBody s_is_processor) (C8.fnScope s_is_processor) .none kV10 dc10 pm10 an10 cd10 ct10), sl10⟩)
    (c10 : PySem.W.codeIn K cd10 "is_processor" = true)
    (k10 : PySem.W.keepIn K (.ref f10) = true)
    (a11 : PySem.W.nsIn K mainGlobals "fits" = some (some (.ref f11)))
    (l11 : K.lookup f11 = some ⟨oc11, od11, .func (PySem.W.fnOf "fits" "fits" (C8.fnArgs s_fits) (C8.fnBody s_fits) (C8.fnScope s_fits) .none kV11 dc11 pm11 an11 cd11 ct11), sl11⟩)
    (c11 : PySem.W.codeIn K cd11 "fits" = true)
    (k11 : PySem.W.keepIn K (.ref f11) = true)
    (a12 : PySem.W.nsIn K mainGlobals "_number_below" = some (some (.ref f12)))
    (l12 : K.lookup f12 = some ⟨oc12, od12, .func (PySem.W.fnOf "_number_below" "_number_below" (C8.fnArgs s__number_below) (C8.fnBody s__number_below) (C8.fnScope s__number_below) .none kV12 dc12 pm12 an12 cd12 ct12), sl12⟩)
    (c12 : PySem.W.codeIn K cd12 "_number_below" = true)
    (k12 : PySem.W.keepIn K (.ref f12) = true)
    (a13 : PySem.W.nsIn K mainGlobals "_is_actor" = some (some (.ref f13)))
    (l13 : K.lookup f13 = some ⟨oc13, od13, .func (PySem.W.fnOf "_is_actor" "_is_actor" (C8.fnArgs s__is_actor) (C8.fnBody s__is_actor) (C8.fnScope s__is_actor) .none kV13 dc13 pm13 an13 cd13 ct13), sl13⟩)
    (c13 : PySem.W.codeIn K cd13 "_is_actor" = true)
    (k13 : PySem.W.keepIn K (.ref f13) = true)
    (a14 : PySem.W.nsIn K mainGlobals "is_access" = some (some (.ref f14)))
    (l14 : K.lookup f14 = some ⟨oc14, od14, .func (PySem.W.fnOf "is_access" "is_access" (C8.fnArgs s_is_access) (C8.fnBody s_is_access) (C8.fnScope s_is_access) .none kV14 dc14 pm14 an14 cd14 ct14), sl14⟩)
    (c14 : PySem.W.codeIn K cd14 "is_access" = true)
    (k14 : PySem.W.keepIn K (.ref f14) = true)
    (a15 : PySem.W.nsIn K mainGlobals "granule_of" = some (some (.ref f15)))
    (l15 : K.lookup f15 = some ⟨oc15, od15, .func (PySem.W.fnOf "granule_of" "granule_of" (C8.fnArgs s_granule_of) (C8.fnBody s_granule_of) (C8.fnScope s_granule_of) .none kV15 dc15 pm15 an15 cd15 ct15), sl15⟩)
    (c15 : PySem.W.codeIn K cd15 "granule_of" = true)
    (k15 : PySem.W.keepIn K (.ref f15) = true)
    (a16 : PySem.W.nsIn K mainGlobals "leaf_of" = some (some (.ref f16)))
    (l16 : K.lookup f16 = some ⟨oc16, od16, .func (PySem.W.fnOf "leaf_of" "leaf_of" (C8.fnArgs s_leaf_of) (C8.fnBody s_leaf_of) (C8.fnScope s_leaf_of) .none kV16 dc16 pm16 an16 cd16 ct16), sl16⟩)
    (c16 : PySem.W.codeIn K cd16 "leaf_of" = true)
    (k16 : PySem.W.keepIn K (.ref f16) = true)
    (a17 : PySem.W.nsIn K mainGlobals "_is_from_one_on" = some (some (.ref f17)))
    (l17 : K.lookup f17 = some ⟨oc17, od17, .func (PySem.W.fnOf "_is_from_one_on" "_is_from_one_on" (C8.fnArgs s__is_from_one_on) (C8.fnBody s__is_from_one_on) (C8.fnScope s__is_from_one_on) .none kV17 dc17 pm17 an17 cd17 ct17), sl17⟩)
    (c17 : PySem.W.codeIn K cd17 "_is_from_one_on" = true)
    (k17 : PySem.W.keepIn K (.ref f17) = true)
    (a18 : PySem.W.nsIn K mainGlobals "is_leaving" = some (some (.ref f18)))
    (l18 : K.lookup f18 = some ⟨oc18, od18, .func (PySem.W.fnOf "is_leaving" "is_leaving" (C8.fnArgs s_is_leaving) (C8.fnBody s_is_leaving) (C8.fnScope s_is_leaving) .none kV18 dc18 pm18 an18 cd18 ct18), sl18⟩)
    (c18 : PySem.W.codeIn K cd18 "is_leaving" = true)
    (k18 : PySem.W.keepIn K (.ref f18) = true)
    (a19 : PySem.W.nsIn K mainGlobals "is_root_word" = some (some (.ref f19)))
    (l19 : K.lookup f19 = some ⟨oc19, od19, .func (PySem.W.fnOf "is_root_word" "is_root_word" (C8.fnArgs s_is_root_word) (C8.fnBody s_is_root_word) (C8.fnScope s_is_root_word) .none kV19 dc19 pm19 an19 cd19 ct19), sl19⟩)
    (c19 : PySem.W.codeIn K cd19 "is_root_word" = true)
    (k19 : PySem.W.keepIn K (.ref f19) = true)
    (a20 : PySem.W.nsIn K mainGlobals "is_entry" = some (some (.ref f20)))
    (l20 : K.lookup f20 = some ⟨oc20, od20, .func (PySem.W.fnOf "is_entry" "is_entry" (C8.fnArgs s_is_entry) (C8.fnBody s_is_entry) (C8.fnScope s_is_entry) .none kV20 dc20 pm20 an20 cd20 ct20), sl20⟩)
    (c20 : PySem.W.codeIn K cd20 "is_entry" = true)
    (k20 : PySem.W.keepIn K (.ref f20) = true)
    (a21 : PySem.W.nsIn K mainGlobals "_is_table" = some (some (.ref f21)))
    (l21 : K.lookup f21 = some ⟨oc21, od21, .func (PySem.W.fnOf "_is_table" "_is_table" (C8.fnArgs s__is_table) (C8.fnBody s__is_table) (C8.fnScope s__is_table) .none kV21 dc21 pm21 an21 cd21 ct21), sl21⟩)
    (c21 : PySem.W.codeIn K cd21 "_is_table" = true)
    (k21 : PySem.W.keepIn K (.ref f21) = true)
    (a22 : PySem.W.nsIn K mainGlobals "_are_leaves_right" = some (some (.ref f22)))
    (l22 : K.lookup f22 = some ⟨oc22, od22, .func (PySem.W.fnOf "_are_leaves_right" "_are_leaves_right" (C8.fnArgs s__are_leaves_right) (C8.fnBody s__are_leaves_right) (C8.fnScope s__are_leaves_right) .none kV22 dc22 pm22 an22 cd22 ct22), sl22⟩)
    (c22 : PySem.W.codeIn K cd22 "_are_leaves_right" = true)
    (k22 : PySem.W.keepIn K (.ref f22) = true)
    (a23 : PySem.W.nsIn K mainGlobals "_is_in_wrong_half" = some (some (.ref f23)))
    (l23 : K.lookup f23 = some ⟨oc23, od23, .func (PySem.W.fnOf "_is_in_wrong_half" "_is_in_wrong_half" (C8.fnArgs s__is_in_wrong_half) (C8.fnBody s__is_in_wrong_half) (C8.fnScope s__is_in_wrong_half) .none kV23 dc23 pm23 an23 cd23 ct23), sl23⟩)
    (c23 : PySem.W.codeIn K cd23 "_is_in_wrong_half" = true)
    (k23 : PySem.W.keepIn K (.ref f23) = true)
    (a24 : PySem.W.nsIn K mainGlobals "map_of" = some (some (.ref f24)))
    (l24 : K.lookup f24 = some ⟨oc24, od24, .func (PySem.W.fnOf "map_of" "map_of" (C8.fnArgs s_map_of) (C8.fnBody s_map_of) (C8.fnScope s_map_of) .none kV24 dc24 pm24 an24 cd24 ct24), sl24⟩)
    (c24 : PySem.W.codeIn K cd24 "map_of" = true)
    (k24 : PySem.W.keepIn K (.ref f24) = true)
    (a25 : PySem.W.nsIn K mainGlobals "_fault_of_pages" = some (some (.ref f25)))
    (l25 : K.lookup f25 = some ⟨oc25, od25, .func (PySem.W.fnOf "_fault_of_pages" "_fault_of_pages" (C8.fnArgs s__fault_of_pages) (C8.fnBody s__fault_of_pages) (C8.fnScope s__fault_of_pages) .none kV25 dc25 pm25 an25 cd25 ct25), sl25⟩)
    (c25 : PySem.W.codeIn K cd25 "_fault_of_pages" = true)
    (k25 : PySem.W.keepIn K (.ref f25) = true)
    (a26 : PySem.W.nsIn K mainGlobals "tables_fault" = some (some (.ref f26)))
    (l26 : K.lookup f26 = some ⟨oc26, od26, .func (PySem.W.fnOf "tables_fault" "tables_fault" (C8.fnArgs s_tables_fault) (C8.fnBody s_tables_fault) (C8.fnScope s_tables_fault) .none kV26 dc26 pm26 an26 cd26 ct26), sl26⟩)
    (c26 : PySem.W.codeIn K cd26 "tables_fault" = true)
    (k26 : PySem.W.keepIn K (.ref f26) = true)
    (a27 : PySem.W.nsIn K mainGlobals "_law_next" = some (some (.ref f27)))
    (l27 : K.lookup f27 = some ⟨oc27, od27, .func (PySem.W.fnOf "_law_next" "_law_next" (C8.fnArgs s__law_next) (C8.fnBody s__law_next) (C8.fnScope s__law_next) .none kV27 dc27 pm27 an27 cd27 ct27), sl27⟩)
    (c27 : PySem.W.codeIn K cd27 "_law_next" = true)
    (k27 : PySem.W.keepIn K (.ref f27) = true)
    (a28 : PySem.W.nsIn K mainGlobals "_law_monitor" = some (some (.ref f28)))
    (l28 : K.lookup f28 = some ⟨oc28, od28, .func (PySem.W.fnOf "_law_monitor" "_law_monitor" (C8.fnArgs s__law_monitor) (C8.fnBody s__law_monitor) (C8.fnScope s__law_monitor) .none kV28 dc28 pm28 an28 cd28 ct28), sl28⟩)
    (c28 : PySem.W.codeIn K cd28 "_law_monitor" = true)
    (k28 : PySem.W.keepIn K (.ref f28) = true)
    (a29 : PySem.W.nsIn K mainGlobals "_law_put" = some (some (.ref f29)))
    (l29 : K.lookup f29 = some ⟨oc29, od29, .func (PySem.W.fnOf "_law_put" "_law_put" (C8.fnArgs s__law_put) (C8.fnBody s__law_put) (C8.fnScope s__law_put) .none kV29 dc29 pm29 an29 cd29 ct29), sl29⟩)
    (c29 : PySem.W.codeIn K cd29 "_law_put" = true)
    (k29 : PySem.W.keepIn K (.ref f29) = true)
    (a30 : PySem.W.nsIn K mainGlobals "_law_entry" = some (some (.ref f30)))
    (l30 : K.lookup f30 = some ⟨oc30, od30, .func (PySem.W.fnOf "_law_entry" "_law_entry" (C8.fnArgs s__law_entry) (C8.fnBody s__law_entry) (C8.fnScope s__law_entry) .none kV30 dc30 pm30 an30 cd30 ct30), sl30⟩)
    (c30 : PySem.W.codeIn K cd30 "_law_entry" = true)
    (k30 : PySem.W.keepIn K (.ref f30) = true)
    (a31 : PySem.W.nsIn K mainGlobals "_law_built" = some (some (.ref f31)))
    (l31 : K.lookup f31 = some ⟨oc31, od31, .func (PySem.W.fnOf "_law_built" "_law_built" (C8.fnArgs s__law_built) (C8.fnBody s__law_built) (C8.fnScope s__law_built) .none kV31 dc31 pm31 an31 cd31 ct31), sl31⟩)
    (c31 : PySem.W.codeIn K cd31 "_law_built" = true)
    (k31 : PySem.W.keepIn K (.ref f31) = true)
    (a32 : PySem.W.nsIn K mainGlobals "_law_bent" = some (some (.ref f32)))
    (l32 : K.lookup f32 = some ⟨oc32, od32, .func (PySem.W.fnOf "_law_bent" "_law_bent" (C8.fnArgs s__law_bent) (C8.fnBody s__law_bent) (C8.fnScope s__law_bent) .none kV32 dc32 pm32 an32 cd32 ct32), sl32⟩)
    (c32 : PySem.W.codeIn K cd32 "_law_bent" = true)
    (k32 : PySem.W.keepIn K (.ref f32) = true)
    (a33 : PySem.W.nsIn K mainGlobals "_law_granule" = some (some (.ref f33)))
    (l33 : K.lookup f33 = some ⟨oc33, od33, .func (PySem.W.fnOf "_law_granule" "_law_granule" (C8.fnArgs s__law_granule) (C8.fnBody s__law_granule) (C8.fnScope s__law_granule) .none kV33 dc33 pm33 an33 cd33 ct33), sl33⟩)
    (c33 : PySem.W.codeIn K cd33 "_law_granule" = true)
    (k33 : PySem.W.keepIn K (.ref f33) = true)
    (a34 : PySem.W.nsIn K mainGlobals "_law_form" = some (some (.ref f34)))
    (l34 : K.lookup f34 = some ⟨oc34, od34, .func (PySem.W.fnOf "_law_form" "_law_form" (C8.fnArgs s__law_form) (C8.fnBody s__law_form) (C8.fnScope s__law_form) .none kV34 dc34 pm34 an34 cd34 ct34), sl34⟩)
    (c34 : PySem.W.codeIn K cd34 "_law_form" = true)
    (k34 : PySem.W.keepIn K (.ref f34) = true)
    (a35 : PySem.W.nsIn K mainGlobals "_law_status" = some (some (.ref f35)))
    (l35 : K.lookup f35 = some ⟨oc35, od35, .func (PySem.W.fnOf "_law_status" "_law_status" (C8.fnArgs s__law_status) (C8.fnBody s__law_status) (C8.fnScope s__law_status) .none kV35 dc35 pm35 an35 cd35 ct35), sl35⟩)
    (c35 : PySem.W.codeIn K cd35 "_law_status" = true)
    (k35 : PySem.W.keepIn K (.ref f35) = true)
    (a36 : PySem.W.nsIn K mainGlobals "_law_due" = some (some (.ref f36)))
    (l36 : K.lookup f36 = some ⟨oc36, od36, .func (PySem.W.fnOf "_law_due" "_law_due" (C8.fnArgs s__law_due) (C8.fnBody s__law_due) (C8.fnScope s__law_due) .none kV36 dc36 pm36 an36 cd36 ct36), sl36⟩)
    (c36 : PySem.W.codeIn K cd36 "_law_due" = true)
    (k36 : PySem.W.keepIn K (.ref f36) = true)
    (a37 : PySem.W.nsIn K mainGlobals "_law_map" = some (some (.ref f37)))
    (l37 : K.lookup f37 = some ⟨oc37, od37, .func (PySem.W.fnOf "_law_map" "_law_map" (C8.fnArgs s__law_map) (C8.fnBody s__law_map) (C8.fnScope s__law_map) .none kV37 dc37 pm37 an37 cd37 ct37), sl37⟩)
    (c37 : PySem.W.codeIn K cd37 "_law_map" = true)
    (k37 : PySem.W.keepIn K (.ref f37) = true)
    (a38 : PySem.W.nsIn K mainGlobals "law" = some (some (.ref f38)))
    (l38 : K.lookup f38 = some ⟨oc38, od38, .func (PySem.W.fnOf "law" "law" (C8.fnArgs s_law) (C8.fnBody s_law) (C8.fnScope s_law) .none kV38 dc38 pm38 an38 cd38 ct38), sl38⟩)
    (c38 : PySem.W.codeIn K cd38 "law" = true)
    (k38 : PySem.W.keepIn K (.ref f38) = true)
    (aC : PySem.W.nsIn K mainGlobals "Atom" = some (some (.ref C)))
    (aN : PySem.W.nsIn K mainGlobals "Memory" = some (some (.ref N)))
    (a39 : PySem.W.findIn K (.ref N) "__init__" = some (some (.ref f39)))
    (i39 : PySem.W.isFn K (.ref f39) = true)
    (l39 : K.lookup f39 = some ⟨oc39, od39, .func (PySem.W.fnOf "__init__" "Memory.__init__" (C8.fnArgs s_Memory___init__) (C8.fnBody s_Memory___init__) (C8.fnScope s_Memory___init__) (.ref dT0) kV39 dc39 pm39 an39 cd39 ct39), sl39⟩)
    (ldT0 : K.lookup dT0 = some ⟨.type "tuple", ddT0, .seq #[.none] ndT0, sdT0⟩)
    (c39 : PySem.W.codeIn K cd39 "Memory.__init__" = true)
    (k39 : PySem.W.keepIn K (.ref f39) = true)
    (a40 : PySem.W.findIn K (.ref N) "access" = some (some (.ref f40)))
    (i40 : PySem.W.isFn K (.ref f40) = true)
    (l40 : K.lookup f40 = some ⟨oc40, od40, .func (PySem.W.fnOf "access" "Memory.access" (C8.fnArgs s_Memory_access) (C8.fnBody s_Memory_access) (C8.fnScope s_Memory_access) .none kV40 dc40 pm40 an40 cd40 ct40), sl40⟩)
    (c40 : PySem.W.codeIn K cd40 "Memory.access" = true)
    (k40 : PySem.W.keepIn K (.ref f40) = true)
    (a41 : PySem.W.findIn K (.ref N) "log" = some (some (.ref f41)))
    (i41 : PySem.W.isFn K (.ref f41) = true)
    (l41 : K.lookup f41 = some ⟨oc41, od41, .func (PySem.W.fnOf "log" "Memory.log" (C8.fnArgs s_Memory_log) (C8.fnBody s_Memory_log) (C8.fnScope s_Memory_log) .none kV41 dc41 pm41 an41 cd41 ct41), sl41⟩)
    (c41 : PySem.W.codeIn K cd41 "Memory.log" = true)
    (k41 : PySem.W.keepIn K (.ref f41) = true)
    (a42 : PySem.W.findIn K (.ref N) "status" = some (some (.ref f42)))
    (i42 : PySem.W.isFn K (.ref f42) = true)
    (l42 : K.lookup f42 = some ⟨oc42, od42, .func (PySem.W.fnOf "status" "Memory.status" (C8.fnArgs s_Memory_status) (C8.fnBody s_Memory_status) (C8.fnScope s_Memory_status) .none kV42 dc42 pm42 an42 cd42 ct42), sl42⟩)
    (c42 : PySem.W.codeIn K cd42 "Memory.status" = true)
    (k42 : PySem.W.keepIn K (.ref f42) = true)
    (a43 : PySem.W.findIn K (.ref N) "words" = some (some (.ref f43)))
    (i43 : PySem.W.isFn K (.ref f43) = true)
    (l43 : K.lookup f43 = some ⟨oc43, od43, .func (PySem.W.fnOf "words" "Memory.words" (C8.fnArgs s_Memory_words) (C8.fnBody s_Memory_words) (C8.fnScope s_Memory_words) .none kV43 dc43 pm43 an43 cd43 ct43), sl43⟩)
    (c43 : PySem.W.codeIn K cd43 "Memory.words" = true)
    (k43 : PySem.W.keepIn K (.ref f43) = true)
    (a44 : PySem.W.findIn K (.ref N) "_act_as_monitor" = some (some (.ref f44)))
    (i44 : PySem.W.isFn K (.ref f44) = true)
    (l44 : K.lookup f44 = some ⟨oc44, od44, .func (PySem.W.fnOf "_act_as_monitor" "Memory._act_as_monitor" (C8.fnArgs s_Memory__act_as_monitor) (C8.fnBody s_Memory__act_as_monitor) (C8.fnScope s_Memory__act_as_monitor) .none kV44 dc44 pm44 an44 cd44 ct44), sl44⟩)
    (c44 : PySem.W.codeIn K cd44 "Memory._act_as_monitor" = true)
    (k44 : PySem.W.keepIn K (.ref f44) = true)
    (a45 : PySem.W.findIn K (.ref N) "_write" = some (some (.ref f45)))
    (i45 : PySem.W.isFn K (.ref f45) = true)
    (l45 : K.lookup f45 = some ⟨oc45, od45, .func (PySem.W.fnOf "_write" "Memory._write" (C8.fnArgs s_Memory__write) (C8.fnBody s_Memory__write) (C8.fnScope s_Memory__write) .none kV45 dc45 pm45 an45 cd45 ct45), sl45⟩)
    (c45 : PySem.W.codeIn K cd45 "Memory._write" = true)
    (k45 : PySem.W.keepIn K (.ref f45) = true)
    (a46 : PySem.W.findIn K (.ref N) "_hold" = some (some (.ref f46)))
    (i46 : PySem.W.isFn K (.ref f46) = true)
    (l46 : K.lookup f46 = some ⟨oc46, od46, .func (PySem.W.fnOf "_hold" "Memory._hold" (C8.fnArgs s_Memory__hold) (C8.fnBody s_Memory__hold) (C8.fnScope s_Memory__hold) .none kV46 dc46 pm46 an46 cd46 ct46), sl46⟩)
    (c46 : PySem.W.codeIn K cd46 "Memory._hold" = true)
    (k46 : PySem.W.keepIn K (.ref f46) = true)
    (a47 : PySem.W.findIn K (.ref N) "_leave" = some (some (.ref f47)))
    (i47 : PySem.W.isFn K (.ref f47) = true)
    (l47 : K.lookup f47 = some ⟨oc47, od47, .func (PySem.W.fnOf "_leave" "Memory._leave" (C8.fnArgs s_Memory__leave) (C8.fnBody s_Memory__leave) (C8.fnScope s_Memory__leave) .none kV47 dc47 pm47 an47 cd47 ct47), sl47⟩)
    (c47 : PySem.W.codeIn K cd47 "Memory._leave" = true)
    (k47 : PySem.W.keepIn K (.ref f47) = true)
    (pgC : PySem.W.plainGet K C Str.empty = true)
    (hdC : PySem.W.hasDictIn K C = true)
    (poC : PySem.W.plainOver K C = true)
    (saC : PySem.W.findIn K (.ref C) "__setattr__" = some (some (.builtin "object.__setattr__")))
    (mkC : PySem.W.makesIn K C = true)
    (kcC : PySem.W.keepIn K (.ref C) = true)
    (pgN : PySem.W.plainGet K N Str.empty = true)
    (hdN : PySem.W.hasDictIn K N = true)
    (poN : PySem.W.plainOver K N = true)
    (saN : PySem.W.findIn K (.ref N) "__setattr__" = some (some (.builtin "object.__setattr__")))
    (mkN : PySem.W.makesIn K N = true)
    (kcN : PySem.W.keepIn K (.ref N) = true)
    (ha : PySem.W.findIn K (.ref C) "__class__" = some (some (.builtin "object.__class__")))
    (hn : PySem.W.specialIn K (.builtin "object.__class__") "__get__" = some (some (.builtin "getset_descriptor.__get__")))
    (htk : PySem.W.takesIn K (.builtin "object.__class__") = some true)
    (hm : PySem.W.mroIn K C (.type "object") = some true)
    (me : PySem.W.kitOne K (.ref C) (.ref C) = some true)
    (nakind : PySem.W.findIn K (.ref C) "kind" = some none)
    (naterm : PySem.W.findIn K (.ref C) "term" = some none)
    (narank : PySem.W.findIn K (.ref C) "rank" = some none)
    (na_stripped : PySem.W.findIn K (.ref C) "_stripped" = some none)
    (nvN_without : PySem.W.findIn K (.ref N) "_without" = some none)
    (nvN_statuses : PySem.W.findIn K (.ref N) "_statuses" = some none)
    (nvN_words : PySem.W.findIn K (.ref N) "_words" = some none)
    (nvN_presences : PySem.W.findIn K (.ref N) "_presences" = some none)
    (nvN_rows : PySem.W.findIn K (.ref N) "_rows" = some none)
    (nvN_walks : PySem.W.findIn K (.ref N) "_walks" = some none)
    (nvN_drops : PySem.W.findIn K (.ref N) "_drops" = some none)
    (nvN_tickets : PySem.W.findIn K (.ref N) "_tickets" = some none)
    (nvN_taken : PySem.W.findIn K (.ref N) "_taken" = some none)
    (nvN_log : PySem.W.findIn K (.ref N) "_log" = some none)
    (qint : PySem.W.kitOne K (.ref C) (.type "int") = some false)
    (qstr : PySem.W.kitOne K (.ref C) (.type "str") = some false)
    (qtuple : PySem.W.kitOne K (.ref C) (.type "tuple") = some false)
    (qbool : PySem.W.kitOne K (.ref C) (.type "bool") = some false)
    (qlist : PySem.W.kitOne K (.ref C) (.type "list") = some false)
    (qdict : PySem.W.kitOne K (.ref C) (.type "dict") = some false)
    (rNoneType : PySem.W.kitOne K (.type "NoneType") (.ref C) = some false)
    (rbool : PySem.W.kitOne K (.type "bool") (.ref C) = some false)
    (rint : PySem.W.kitOne K (.type "int") (.ref C) = some false)
    (rstr : PySem.W.kitOne K (.type "str") (.ref C) = some false)
    (rtuple : PySem.W.kitOne K (.type "tuple") (.ref C) = some false)
    (rlist : PySem.W.kitOne K (.type "list") (.ref C) = some false)
    (rdict : PySem.W.kitOne K (.type "dict") (.ref C) = some false)
    (nLEAST : PySem.W.nsIn K mainGlobals "LEAST" = some (some (.int (-2147483648) tLEAST)))
    (nGREATEST : PySem.W.nsIn K mainGlobals "GREATEST" = some (some (.int (2147483647) tGREATEST)))
    (nMOST_CHARACTERS : PySem.W.nsIn K mainGlobals "MOST_CHARACTERS" = some (some (.int (24) tMOST_CHARACTERS)))
    (nMOST_DEEP : PySem.W.nsIn K mainGlobals "MOST_DEEP" = some (some (.int (40) tMOST_DEEP)))
    (nMOST_RANK : PySem.W.nsIn K mainGlobals "MOST_RANK" = some (some (.int (40) tMOST_RANK)))
    (nMOST_RANK_HOST : PySem.W.nsIn K mainGlobals "MOST_RANK_HOST" = some (some (.int (36) tMOST_RANK_HOST)))
    (nGRANULES : PySem.W.nsIn K mainGlobals "GRANULES" = some (some (.int (24) tGRANULES)))
    (nWORDS : PySem.W.nsIn K mainGlobals "WORDS" = some (some (.int (4) tWORDS)))
    (nPROCESSORS : PySem.W.nsIn K mainGlobals "PROCESSORS" = some (some (.int (3) tPROCESSORS)))
    (nPAGES : PySem.W.nsIn K mainGlobals "PAGES" = some (some (.int (16) tPAGES)))
    (nFIRST_SHARED : PySem.W.nsIn K mainGlobals "FIRST_SHARED" = some (some (.int (8) tFIRST_SHARED)))
    (ztype : PySem.W.nsIn K mainGlobals "type" = some none)
    (zint : PySem.W.nsIn K mainGlobals "int" = some none)
    (zstr : PySem.W.nsIn K mainGlobals "str" = some none)
    (zbool : PySem.W.nsIn K mainGlobals "bool" = some none)
    (ztuple : PySem.W.nsIn K mainGlobals "tuple" = some none)
    (zlist : PySem.W.nsIn K mainGlobals "list" = some none)
    (zdict : PySem.W.nsIn K mainGlobals "dict" = some none)
    (zrange : PySem.W.nsIn K mainGlobals "range" = some none)
    (zzip : PySem.W.nsIn K mainGlobals "zip" = some none)
    (zlen : PySem.W.nsIn K mainGlobals "len" = some none)
    (zall : PySem.W.nsIn K mainGlobals "all" = some none)
    (zmax : PySem.W.nsIn K mainGlobals "max" = some none)
    (zisinstance : PySem.W.nsIn K mainGlobals "isinstance" = some none)
    (zabs : PySem.W.nsIn K mainGlobals "abs" = some none)
    (zsorted : PySem.W.nsIn K mainGlobals "sorted" = some none)
    (zenumerate : PySem.W.nsIn K mainGlobals "enumerate" = some none)
    (aF : PySem.W.nsIn K mainGlobals "_FORMS" = some (some (.ref Fo)))
    (lF : K.lookup Fo = some ⟨.type "dict", none, .dict esF nF, #[]⟩)
    (kF : PySem.W.KeysLit w.params esF.toList)
    (oF : (Fo == sysModules) = false)
    (vtt1 : PySem.W.nsIn K Fo "token" = some (some (.ref tt1)))
    (wtt1 : K.lookup tt1 = some ⟨.type "tuple", dtt1, .seq #[.str "text" utt1_0, .str "tuple" utt1_1, .str "word" utt1_2] ntt1, stt1⟩)
    (vtt2 : PySem.W.nsIn K Fo "challenge" = some (some (.ref tt2)))
    (wtt2 : K.lookup tt2 = some ⟨.type "tuple", dtt2, .seq #[.str "text" utt2_0, .str "number" utt2_1] ntt2, stt2⟩)
    (vtt3 : PySem.W.nsIn K Fo "seal" = some (some (.ref tt3)))
    (wtt3 : K.lookup tt3 = some ⟨.type "tuple", dtt3, .seq #[.str "text" utt3_0, .str "number" utt3_1, .str "number" utt3_2, .str "hidden" utt3_3] ntt3, stt3⟩)
    (vtt4 : PySem.W.nsIn K Fo "page" = some (some (.ref tt4)))
    (wtt4 : K.lookup tt4 = some ⟨.type "tuple", dtt4, .seq #[.str "text" utt4_0, .str "number" utt4_1, .str "number" utt4_2, .str "hidden" utt4_3] ntt4, stt4⟩)
    (vtt5 : PySem.W.nsIn K Fo "ticket" = some (some (.ref tt5)))
    (wtt5 : K.lookup tt5 = some ⟨.type "tuple", dtt5, .seq #[.str "text" utt5_0, .str "number" utt5_1, .str "text" utt5_2, .str "tuple" utt5_3, .str "pages" utt5_4, .str "tuple" utt5_5] ntt5, stt5⟩)
    (vkey : PySem.W.nsIn K Fo "key" = some none)
    (aU0 : PySem.W.nsIn K mainGlobals "STATES" = some (some (.ref ku0)))
    (wku0 : K.lookup ku0 = some ⟨.type "tuple", dku0, .seq #[.str "host" uku0_0, .str "free" uku0_1, .str "desc" uku0_2, .str "table" uku0_3, .str "cpu" uku0_4, .str "running" uku0_5, .str "data" uku0_6] nku0, sku0⟩)
    (aR : PySem.W.nsIn K mainGlobals "_REQUESTS" = some (some (.ref Rq)))
    (lR : K.lookup Rq = some ⟨.type "dict", none, .dict esR nR, #[]⟩)
    (oR : (Rq == sysModules) = false)
    (eR : esR.toList = [⟨Hr.tH w ["host", "read"], .ref ky0, .ref vl0⟩, ⟨Hr.tH w ["host", "write"], .ref ky1, .ref vl1⟩, ⟨Hr.tH w ["host", "drop"], .ref ky2, .ref vl2⟩, ⟨Hr.tH w ["monitor", "read"], .ref ky3, .ref vl3⟩, ⟨Hr.tH w ["monitor", "write"], .ref ky4, .ref vl4⟩, ⟨Hr.tH w ["monitor", "copy"], .ref ky5, .ref vl5⟩, ⟨Hr.tH w ["monitor", "hold"], .ref ky6, .ref vl6⟩, ⟨Hr.tH w ["monitor", "leave"], .ref ky7, .ref vl7⟩, ⟨Hr.tH w ["monitor", "release"], .ref ky8, .ref vl8⟩, ⟨Hr.tH w ["monitor", "look"], .ref ky9, .ref vl9⟩, ⟨Hr.tH w ["monitor", "swap"], .ref ky10, .ref vl10⟩, ⟨Hr.tH w ["monitor", "rest"], .ref ky11, .ref vl11⟩, ⟨Hr.tH w ["monitor", "present"], .ref ky12, .ref vl12⟩, ⟨Hr.tH w ["monitor", "seen"], .ref ky13, .ref vl13⟩, ⟨Hr.tH w ["monitor", "ticket"], .ref ky14, .ref vl14⟩, ⟨Hr.tH w ["monitor", "once"], .ref ky15, .ref vl15⟩, ⟨Hr.tH w ["core", "walk"], .ref ky16, .ref vl16⟩, ⟨Hr.tH w ["core", "leaf"], .ref ky17, .ref vl17⟩, ⟨Hr.tH w ["core", "touch"], .ref ky18, .ref vl18⟩, ⟨Hr.tH w ["core", "put"], .ref ky19, .ref vl19⟩])
    (wky0 : K.lookup ky0 = some ⟨.type "tuple", dky0, .seq #[.str "host" uky0_0, .str "read" uky0_1] nky0, sky0⟩)
    (wky1 : K.lookup ky1 = some ⟨.type "tuple", dky1, .seq #[.str "host" uky1_0, .str "write" uky1_1] nky1, sky1⟩)
    (wky2 : K.lookup ky2 = some ⟨.type "tuple", dky2, .seq #[.str "host" uky2_0, .str "drop" uky2_1] nky2, sky2⟩)
    (wky3 : K.lookup ky3 = some ⟨.type "tuple", dky3, .seq #[.str "monitor" uky3_0, .str "read" uky3_1] nky3, sky3⟩)
    (wky4 : K.lookup ky4 = some ⟨.type "tuple", dky4, .seq #[.str "monitor" uky4_0, .str "write" uky4_1] nky4, sky4⟩)
    (wky5 : K.lookup ky5 = some ⟨.type "tuple", dky5, .seq #[.str "monitor" uky5_0, .str "copy" uky5_1] nky5, sky5⟩)
    (wky6 : K.lookup ky6 = some ⟨.type "tuple", dky6, .seq #[.str "monitor" uky6_0, .str "hold" uky6_1] nky6, sky6⟩)
    (wky7 : K.lookup ky7 = some ⟨.type "tuple", dky7, .seq #[.str "monitor" uky7_0, .str "leave" uky7_1] nky7, sky7⟩)
    (wky8 : K.lookup ky8 = some ⟨.type "tuple", dky8, .seq #[.str "monitor" uky8_0, .str "release" uky8_1] nky8, sky8⟩)
    (wky9 : K.lookup ky9 = some ⟨.type "tuple", dky9, .seq #[.str "monitor" uky9_0, .str "look" uky9_1] nky9, sky9⟩)
    (wky10 : K.lookup ky10 = some ⟨.type "tuple", dky10, .seq #[.str "monitor" uky10_0, .str "swap" uky10_1] nky10, sky10⟩)
    (wky11 : K.lookup ky11 = some ⟨.type "tuple", dky11, .seq #[.str "monitor" uky11_0, .str "rest" uky11_1] nky11, sky11⟩)
    (wky12 : K.lookup ky12 = some ⟨.type "tuple", dky12, .seq #[.str "monitor" uky12_0, .str "present" uky12_1] nky12, sky12⟩)
    (wky13 : K.lookup ky13 = some ⟨.type "tuple", dky13, .seq #[.str "monitor" uky13_0, .str "seen" uky13_1] nky13, sky13⟩)
    (wky14 : K.lookup ky14 = some ⟨.type "tuple", dky14, .seq #[.str "monitor" uky14_0, .str "ticket" uky14_1] nky14, sky14⟩)
    (wky15 : K.lookup ky15 = some ⟨.type "tuple", dky15, .seq #[.str "monitor" uky15_0, .str "once" uky15_1] nky15, sky15⟩)
    (wky16 : K.lookup ky16 = some ⟨.type "tuple", dky16, .seq #[.str "core" uky16_0, .str "walk" uky16_1] nky16, sky16⟩)
    (wky17 : K.lookup ky17 = some ⟨.type "tuple", dky17, .seq #[.str "core" uky17_0, .str "leaf" uky17_1] nky17, sky17⟩)
    (wky18 : K.lookup ky18 = some ⟨.type "tuple", dky18, .seq #[.str "core" uky18_0, .str "touch" uky18_1] nky18, sky18⟩)
    (wky19 : K.lookup ky19 = some ⟨.type "tuple", dky19, .seq #[.str "core" uky19_0, .str "put" uky19_1] nky19, sky19⟩)
    (wvl6 : K.lookup vl6 = some ⟨.type "tuple", dvl6, .seq #[.str "granule" uvl6_0] nvl6, svl6⟩)
    (wvl4 : K.lookup vl4 = some ⟨.type "tuple", dvl4, .seq #[.str "granule" uvl4_0, .str "index" uvl4_1, .str "word" uvl4_2] nvl4, svl4⟩)
    (wvl7 : K.lookup vl7 = some ⟨.type "tuple", dvl7, .seq #[.str "granule" uvl7_0, .str "state" uvl7_1, .str "owner" uvl7_2] nvl7, svl7⟩)
    (hNC : N ≠ C)
    (gf45 : PySem.W.specialIn K (.ref f45) "__get__" = some (some (.builtin "function.__get__")))
    (tk45 : PySem.W.takesIn K (.ref f45) = some false)
    (fi45 : PySem.W.fnIn K f45 = true)
    (gf46 : PySem.W.specialIn K (.ref f46) "__get__" = some (some (.builtin "function.__get__")))
    (tk46 : PySem.W.takesIn K (.ref f46) = some false)
    (fi46 : PySem.W.fnIn K f46 = true)
    (gf47 : PySem.W.specialIn K (.ref f47) "__get__" = some (some (.builtin "function.__get__")))
    (tk47 : PySem.W.takesIn K (.ref f47) = some false)
    (fi47 : PySem.W.fnIn K f47 = true)
    : ∃ fd : FuncData, (∀ (s : Shared) (v : Value), BindsTo s fd ⟨[v], []⟩ [("script", v)]) ∧ ∀ base : Heap, K.In base → base.Ns mainGlobals mg → FnOk l.prog w K mg base C8.CX0 9 fa fd ["script"] (spLaw K) := by
  have e := hfa.symm.trans (PySem.W.mg_of X G a38)
  cases e
  have clsC : Cls K C := ⟨pgC, hdC, poC, saC⟩
  have clsN : Cls K N := ⟨pgN, hdN, poN, saN⟩
  have cl : Cl K C := ⟨clsC, ha, hn, htk, hm, me, mkC, nakind, naterm, narank, na_stripped⟩
  have kttt1 : KTup K tt1 ["text", "tuple", "word"] := fun H => .inr ⟨_, _, _, wtt1, rfl, rfl, (by show 3 ≤ sizeLine; decide), (.cons ⟨_, rfl⟩ (.cons ⟨_, rfl⟩ (.cons ⟨_, rfl⟩ .nil)))⟩
  have kttt2 : KTup K tt2 ["text", "number"] := fun H => .inr ⟨_, _, _, wtt2, rfl, rfl, (by show 2 ≤ sizeLine; decide), (.cons ⟨_, rfl⟩ (.cons ⟨_, rfl⟩ .nil))⟩
  have kttt3 : KTup K tt3 ["text", "number", "number", "hidden"] := fun H => .inr ⟨_, _, _, wtt3, rfl, rfl, (by show 4 ≤ sizeLine; decide), (.cons ⟨_, rfl⟩ (.cons ⟨_, rfl⟩ (.cons ⟨_, rfl⟩ (.cons ⟨_, rfl⟩ .nil))))⟩
  have kttt4 : KTup K tt4 ["text", "number", "number", "hidden"] := fun H => .inr ⟨_, _, _, wtt4, rfl, rfl, (by show 4 ≤ sizeLine; decide), (.cons ⟨_, rfl⟩ (.cons ⟨_, rfl⟩ (.cons ⟨_, rfl⟩ (.cons ⟨_, rfl⟩ .nil))))⟩
  have kttt5 : KTup K tt5 ["text", "number", "text", "tuple", "pages", "tuple"] := fun H => .inr ⟨_, _, _, wtt5, rfl, rfl, (by show 6 ≤ sizeLine; decide), (.cons ⟨_, rfl⟩ (.cons ⟨_, rfl⟩ (.cons ⟨_, rfl⟩ (.cons ⟨_, rfl⟩ (.cons ⟨_, rfl⟩ (.cons ⟨_, rfl⟩ .nil))))))⟩
  have ktku0 : KTup K ku0 ["host", "free", "desc", "table", "cpu", "running", "data"] := fun H => .inr ⟨_, _, _, wku0, rfl, rfl, (by show 7 ≤ sizeLine; decide), (.cons ⟨_, rfl⟩ (.cons ⟨_, rfl⟩ (.cons ⟨_, rfl⟩ (.cons ⟨_, rfl⟩ (.cons ⟨_, rfl⟩ (.cons ⟨_, rfl⟩ (.cons ⟨_, rfl⟩ .nil)))))))⟩
  have kit : ∀ (d : D) (n : String), n ∈ ["int", "str", "tuple", "bool", "list", "dict"] → PySem.W.kitOne K (kyU C d) (.type n) = some (match d with | .int _ => n == "int" | .bl _ => n == "int" || n == "bool" | .str _ => n == "str" | .tup _ => n == "tuple" | .lst _ => n == "list" | .dct => n == "dict" | _ => false) := fun d n hn => by
    simp only [List.mem_cons, List.not_mem_nil, or_false] at hn
    rcases hn with rfl | rfl | rfl | rfl | rfl | rfl <;> cases d <;> dsimp only [kyU] <;> first
      | exact kit_ty (by decide +kernel)
      | exact qint
      | exact qstr
      | exact qtuple
      | exact qbool
      | exact qlist
      | exact qdict
  have kitC : ∀ d : D, PySem.W.kitOne K (kyU C d) (.ref C) = some (match d with | .atom _ _ => true | _ => false) := fun d => by
    cases d <;> first
      | exact me
      | exact rNoneType
      | exact rbool
      | exact rint
      | exact rstr
      | exact rtuple
      | exact rlist
      | exact rdict
  have KD : KDict K w Fo esF nF := ⟨lF, kF, oF⟩
  have T : Txt K mg w C := ⟨cl, PySem.W.mg_of X G aC, PySem.W.mg_none_of X G ztype, PySem.W.mg_none_of X G zint, PySem.W.mg_none_of X G zstr, PySem.W.mg_none_of X G zbool, PySem.W.mg_none_of X G ztuple, PySem.W.mg_none_of X G zlist, PySem.W.mg_none_of X G zdict, PySem.W.mg_none_of X G zrange, PySem.W.mg_none_of X G zzip, PySem.W.mg_none_of X G zlen, PySem.W.mg_none_of X G zall, PySem.W.mg_none_of X G zmax, PySem.W.mg_none_of X G zisinstance, PySem.W.mg_none_of X G zabs, PySem.W.mg_none_of X G zsorted, PySem.W.mg_none_of X G zenumerate, ⟨_, PySem.W.mg_of X G nLEAST, ⟨_, rfl⟩⟩, ⟨_, PySem.W.mg_of X G nGREATEST, ⟨_, rfl⟩⟩, ⟨_, PySem.W.mg_of X G nMOST_CHARACTERS, ⟨_, rfl⟩⟩, ⟨_, PySem.W.mg_of X G nMOST_DEEP, ⟨_, rfl⟩⟩, ⟨_, PySem.W.mg_of X G nMOST_RANK, ⟨_, rfl⟩⟩, ⟨_, PySem.W.mg_of X G nMOST_RANK_HOST, ⟨_, rfl⟩⟩, ⟨_, PySem.W.mg_of X G nGRANULES, ⟨_, rfl⟩⟩, ⟨_, PySem.W.mg_of X G nWORDS, ⟨_, rfl⟩⟩, ⟨_, PySem.W.mg_of X G nPROCESSORS, ⟨_, rfl⟩⟩, ⟨_, PySem.W.mg_of X G nPAGES, ⟨_, rfl⟩⟩, ⟨_, PySem.W.mg_of X G nFIRST_SHARED, ⟨_, rfl⟩⟩, ⟨ku0, ⟨_, PySem.W.mg_of X G aU0, rfl⟩, ktku0⟩, ⟨Fo, tt1, tt2, tt3, tt4, tt5, ⟨_, PySem.W.mg_of X G aF, rfl⟩, ⟨esF, nF, KD⟩, ⟨esF, nF, _, lF, kF, vtt1, rfl⟩, ⟨esF, nF, _, lF, kF, vtt2, rfl⟩, ⟨esF, nF, _, lF, kF, vtt3, rfl⟩, ⟨esF, nF, _, lF, kF, vtt4, rfl⟩, ⟨esF, nF, _, lF, kF, vtt5, rfl⟩, vkey, kttt1, kttt2, kttt3, kttt4, kttt5⟩, kit, kitC⟩
  have F1 : C8.Def K mg "is_number" s_is_number f1 _ := ⟨⟨⟨oc1, od1, .none, kV1, dc1, pm1, an1, cd1, ct1, sl1, rfl, l1, c1⟩⟩, PySem.W.mg_of X G a1, k1⟩
  have b1 : Binds K _ ["value"] [] := F1.fn.binds rfl (ps := ["value"]) fun _ _ _ _ _ _ us hl => match us, hl with | [_], _ => rfl
  have F2 : C8.Def K mg "is_text" s_is_text f2 _ := ⟨⟨⟨oc2, od2, .none, kV2, dc2, pm2, an2, cd2, ct2, sl2, rfl, l2, c2⟩⟩, PySem.W.mg_of X G a2, k2⟩
  have b2 : Binds K _ ["value"] [] := F2.fn.binds rfl (ps := ["value"]) fun _ _ _ _ _ _ us hl => match us, hl with | [_], _ => rfl
  have F3 : C8.Def K mg "_is_within" s__is_within f3 _ := ⟨⟨⟨oc3, od3, .none, kV3, dc3, pm3, an3, cd3, ct3, sl3, rfl, l3, c3⟩⟩, PySem.W.mg_of X G a3, k3⟩
  have b3 : Binds K _ ["value", "most_deep", "most_rank"] [] := F3.fn.binds rfl (ps := ["value", "most_deep", "most_rank"]) fun _ _ _ _ _ _ us hl => match us, hl with | [_, _, _], _ => rfl
  have F4 : C8.Def K mg "is_word" s_is_word f4 _ := ⟨⟨⟨oc4, od4, .none, kV4, dc4, pm4, an4, cd4, ct4, sl4, rfl, l4, c4⟩⟩, PySem.W.mg_of X G a4, k4⟩
  have b4 : Binds K _ ["value"] [] := F4.fn.binds rfl (ps := ["value"]) fun _ _ _ _ _ _ us hl => match us, hl with | [_], _ => rfl
  have F5 : C8.Def K mg "has_name" s_has_name f5 _ := ⟨⟨⟨oc5, od5, .none, kV5, dc5, pm5, an5, cd5, ct5, sl5, rfl, l5, c5⟩⟩, PySem.W.mg_of X G a5, k5⟩
  have b5 : Binds K _ ["value"] [] := F5.fn.binds rfl (ps := ["value"]) fun _ _ _ _ _ _ us hl => match us, hl with | [_], _ => rfl
  have F6 : C8.Def K mg "is_form" s_is_form f6 _ := ⟨⟨⟨oc6, od6, .none, kV6, dc6, pm6, an6, cd6, ct6, sl6, rfl, l6, c6⟩⟩, PySem.W.mg_of X G a6, k6⟩
  have b6 : Binds K _ ["value", "name", "many"] [] := F6.fn.binds rfl (ps := ["value", "name", "many"]) fun _ _ _ _ _ _ us hl => match us, hl with | [_, _, _], _ => rfl
  have F7 : C8.Def K mg "_is_below" s__is_below f7 _ := ⟨⟨⟨oc7, od7, .none, kV7, dc7, pm7, an7, cd7, ct7, sl7, rfl, l7, c7⟩⟩, PySem.W.mg_of X G a7, k7⟩
  have b7 : Binds K _ ["value", "many"] [] := F7.fn.binds rfl (ps := ["value", "many"]) fun _ _ _ _ _ _ us hl => match us, hl with | [_, _], _ => rfl
  have F8 : C8.Def K mg "is_page" s_is_page f8 _ := ⟨⟨⟨oc8, od8, .none, kV8, dc8, pm8, an8, cd8, ct8, sl8, rfl, l8, c8⟩⟩, PySem.W.mg_of X G a8, k8⟩
  have b8 : Binds K _ ["value"] [] := F8.fn.binds rfl (ps := ["value"]) fun _ _ _ _ _ _ us hl => match us, hl with | [_], _ => rfl
  have F9 : C8.Def K mg "is_granule" s_is_granule f9 _ := ⟨⟨⟨oc9, od9, .none, kV9, dc9, pm9, an9, cd9, ct9, sl9, rfl, l9, c9⟩⟩, PySem.W.mg_of X G a9, k9⟩
  have b9 : Binds K _ ["value"] [] := F9.fn.binds rfl (ps := ["value"]) fun _ _ _ _ _ _ us hl => match us, hl with | [_], _ => rfl
  have F10 : C8.Def K mg "is_processor" s_is_processor f10 _ := ⟨⟨⟨oc10, od10, .none, kV10, dc10, pm10, an10, cd10, ct10, sl10, rfl, l10, c10⟩⟩, PySem.W.mg_of X G a10, k10⟩
  have b10 : Binds K _ ["value"] [] := F10.fn.binds rfl (ps := ["value"]) fun _ _ _ _ _ _ us hl => match us, hl with | [_], _ => rfl
  have F11 : C8.Def K mg "fits" s_fits f11 _ := ⟨⟨⟨oc11, od11, .none, kV11, dc11, pm11, an11, cd11, ct11, sl11, rfl, l11, c11⟩⟩, PySem.W.mg_of X G a11, k11⟩
  have b11 : Binds K _ ["part", "form"] [] := F11.fn.binds rfl (ps := ["part", "form"]) fun _ _ _ _ _ _ us hl => match us, hl with | [_, _], _ => rfl
  have F12 : C8.Def K mg "_number_below" s__number_below f12 _ := ⟨⟨⟨oc12, od12, .none, kV12, dc12, pm12, an12, cd12, ct12, sl12, rfl, l12, c12⟩⟩, PySem.W.mg_of X G a12, k12⟩
  have b12 : Binds K _ ["value", "many"] [] := F12.fn.binds rfl (ps := ["value", "many"]) fun _ _ _ _ _ _ us hl => match us, hl with | [_, _], _ => rfl
  have F13 : C8.Def K mg "_is_actor" s__is_actor f13 _ := ⟨⟨⟨oc13, od13, .none, kV13, dc13, pm13, an13, cd13, ct13, sl13, rfl, l13, c13⟩⟩, PySem.W.mg_of X G a13, k13⟩
  have b13 : Binds K _ ["value"] [] := F13.fn.binds rfl (ps := ["value"]) fun _ _ _ _ _ _ us hl => match us, hl with | [_], _ => rfl
  have F14 : C8.Def K mg "is_access" s_is_access f14 _ := ⟨⟨⟨oc14, od14, .none, kV14, dc14, pm14, an14, cd14, ct14, sl14, rfl, l14, c14⟩⟩, PySem.W.mg_of X G a14, k14⟩
  have b14 : Binds K _ ["actor", "request"] [] := F14.fn.binds rfl (ps := ["actor", "request"]) fun _ _ _ _ _ _ us hl => match us, hl with | [_, _], _ => rfl
  have F15 : C8.Def K mg "granule_of" s_granule_of f15 _ := ⟨⟨⟨oc15, od15, .none, kV15, dc15, pm15, an15, cd15, ct15, sl15, rfl, l15, c15⟩⟩, PySem.W.mg_of X G a15, k15⟩
  have b15 : Binds K _ ["word", "name"] [] := F15.fn.binds rfl (ps := ["word", "name"]) fun _ _ _ _ _ _ us hl => match us, hl with | [_, _], _ => rfl
  have F16 : C8.Def K mg "leaf_of" s_leaf_of f16 _ := ⟨⟨⟨oc16, od16, .none, kV16, dc16, pm16, an16, cd16, ct16, sl16, rfl, l16, c16⟩⟩, PySem.W.mg_of X G a16, k16⟩
  have b16 : Binds K _ ["word"] [] := F16.fn.binds rfl (ps := ["word"]) fun _ _ _ _ _ _ us hl => match us, hl with | [_], _ => rfl
  have F17 : C8.Def K mg "_is_from_one_on" s__is_from_one_on f17 _ := ⟨⟨⟨oc17, od17, .none, kV17, dc17, pm17, an17, cd17, ct17, sl17, rfl, l17, c17⟩⟩, PySem.W.mg_of X G a17, k17⟩
  have b17 : Binds K _ ["value"] [] := F17.fn.binds rfl (ps := ["value"]) fun _ _ _ _ _ _ us hl => match us, hl with | [_], _ => rfl
  have F18 : C8.Def K mg "is_leaving" s_is_leaving f18 _ := ⟨⟨⟨oc18, od18, .none, kV18, dc18, pm18, an18, cd18, ct18, sl18, rfl, l18, c18⟩⟩, PySem.W.mg_of X G a18, k18⟩
  have b18 : Binds K _ ["value"] [] := F18.fn.binds rfl (ps := ["value"]) fun _ _ _ _ _ _ us hl => match us, hl with | [_], _ => rfl
  have F19 : C8.Def K mg "is_root_word" s_is_root_word f19 _ := ⟨⟨⟨oc19, od19, .none, kV19, dc19, pm19, an19, cd19, ct19, sl19, rfl, l19, c19⟩⟩, PySem.W.mg_of X G a19, k19⟩
  have b19 : Binds K _ ["value"] [] := F19.fn.binds rfl (ps := ["value"]) fun _ _ _ _ _ _ us hl => match us, hl with | [_], _ => rfl
  have F20 : C8.Def K mg "is_entry" s_is_entry f20 _ := ⟨⟨⟨oc20, od20, .none, kV20, dc20, pm20, an20, cd20, ct20, sl20, rfl, l20, c20⟩⟩, PySem.W.mg_of X G a20, k20⟩
  have b20 : Binds K _ ["value"] [] := F20.fn.binds rfl (ps := ["value"]) fun _ _ _ _ _ _ us hl => match us, hl with | [_], _ => rfl
  have F21 : C8.Def K mg "_is_table" s__is_table f21 _ := ⟨⟨⟨oc21, od21, .none, kV21, dc21, pm21, an21, cd21, ct21, sl21, rfl, l21, c21⟩⟩, PySem.W.mg_of X G a21, k21⟩
  have b21 : Binds K _ ["memory", "g", "has_form"] [] := F21.fn.binds rfl (ps := ["memory", "g", "has_form"]) fun _ _ _ _ _ _ us hl => match us, hl with | [_, _, _], _ => rfl
  have F22 : C8.Def K mg "_are_leaves_right" s__are_leaves_right f22 _ := ⟨⟨⟨oc22, od22, .none, kV22, dc22, pm22, an22, cd22, ct22, sl22, rfl, l22, c22⟩⟩, PySem.W.mg_of X G a22, k22⟩
  have b22 : Binds K _ ["memory", "root"] [] := F22.fn.binds rfl (ps := ["memory", "root"]) fun _ _ _ _ _ _ us hl => match us, hl with | [_, _], _ => rfl
  have F23 : C8.Def K mg "_is_in_wrong_half" s__is_in_wrong_half f23 _ := ⟨⟨⟨oc23, od23, .none, kV23, dc23, pm23, an23, cd23, ct23, sl23, rfl, l23, c23⟩⟩, PySem.W.mg_of X G a23, k23⟩
  have b23 : Binds K _ ["page", "entry"] [] := F23.fn.binds rfl (ps := ["page", "entry"]) fun _ _ _ _ _ _ us hl => match us, hl with | [_, _], _ => rfl
  have F24 : C8.Def K mg "map_of" s_map_of f24 _ := ⟨⟨⟨oc24, od24, .none, kV24, dc24, pm24, an24, cd24, ct24, sl24, rfl, l24, c24⟩⟩, PySem.W.mg_of X G a24, k24⟩
  have b24 : Binds K _ ["memory", "root"] [] := F24.fn.binds rfl (ps := ["memory", "root"]) fun _ _ _ _ _ _ us hl => match us, hl with | [_, _], _ => rfl
  have F25 : C8.Def K mg "_fault_of_pages" s__fault_of_pages f25 _ := ⟨⟨⟨oc25, od25, .none, kV25, dc25, pm25, an25, cd25, ct25, sl25, rfl, l25, c25⟩⟩, PySem.W.mg_of X G a25, k25⟩
  have b25 : Binds K _ ["memory", "root"] [] := F25.fn.binds rfl (ps := ["memory", "root"]) fun _ _ _ _ _ _ us hl => match us, hl with | [_, _], _ => rfl
  have F26 : C8.Def K mg "tables_fault" s_tables_fault f26 _ := ⟨⟨⟨oc26, od26, .none, kV26, dc26, pm26, an26, cd26, ct26, sl26, rfl, l26, c26⟩⟩, PySem.W.mg_of X G a26, k26⟩
  have b26 : Binds K _ ["memory", "root"] [] := F26.fn.binds rfl (ps := ["memory", "root"]) fun _ _ _ _ _ _ us hl => match us, hl with | [_, _], _ => rfl
  have F27 : C8.Def K mg "_law_next" s__law_next f27 _ := ⟨⟨⟨oc27, od27, .none, kV27, dc27, pm27, an27, cd27, ct27, sl27, rfl, l27, c27⟩⟩, PySem.W.mg_of X G a27, k27⟩
  have b27 : Binds K _ ["tape", "many"] [] := F27.fn.binds rfl (ps := ["tape", "many"]) fun _ _ _ _ _ _ us hl => match us, hl with | [_, _], _ => rfl
  have F28 : C8.Def K mg "_law_monitor" s__law_monitor f28 _ := ⟨⟨⟨oc28, od28, .none, kV28, dc28, pm28, an28, cd28, ct28, sl28, rfl, l28, c28⟩⟩, PySem.W.mg_of X G a28, k28⟩
  have b28 : Binds K _ [] [] := F28.fn.binds rfl (ps := []) fun _ _ _ _ _ _ us hl => match us, hl with | [], _ => rfl
  have F29 : C8.Def K mg "_law_put" s__law_put f29 _ := ⟨⟨⟨oc29, od29, .none, kV29, dc29, pm29, an29, cd29, ct29, sl29, rfl, l29, c29⟩⟩, PySem.W.mg_of X G a29, k29⟩
  have b29 : Binds K _ ["memory", "granule", "words", "state", "owner"] [] := F29.fn.binds rfl (ps := ["memory", "granule", "words", "state", "owner"]) fun _ _ _ _ _ _ us hl => match us, hl with | [_, _, _, _, _], _ => rfl
  have F30 : C8.Def K mg "_law_entry" s__law_entry f30 _ := ⟨⟨⟨oc30, od30, .none, kV30, dc30, pm30, an30, cd30, ct30, sl30, rfl, l30, c30⟩⟩, PySem.W.mg_of X G a30, k30⟩
  have b30 : Binds K _ ["tape", "page", "free"] [] := F30.fn.binds rfl (ps := ["tape", "page", "free"]) fun _ _ _ _ _ _ us hl => match us, hl with | [_, _, _], _ => rfl
  have F31 : C8.Def K mg "_law_built" s__law_built f31 _ := ⟨⟨⟨oc31, od31, .none, kV31, dc31, pm31, an31, cd31, ct31, sl31, rfl, l31, c31⟩⟩, PySem.W.mg_of X G a31, k31⟩
  have b31 : Binds K _ ["tape"] [] := F31.fn.binds rfl (ps := ["tape"]) fun _ _ _ _ _ _ us hl => match us, hl with | [_], _ => rfl
  have F32 : C8.Def K mg "_law_bent" s__law_bent f32 _ := ⟨⟨⟨oc32, od32, .none, kV32, dc32, pm32, an32, cd32, ct32, sl32, rfl, l32, c32⟩⟩, PySem.W.mg_of X G a32, k32⟩
  have b32 : Binds K _ ["tape", "rows"] [] := F32.fn.binds rfl (ps := ["tape", "rows"]) fun _ _ _ _ _ _ us hl => match us, hl with | [_, _], _ => rfl
  have F33 : C8.Def K mg "_law_granule" s__law_granule f33 _ := ⟨⟨⟨oc33, od33, .none, kV33, dc33, pm33, an33, cd33, ct33, sl33, rfl, l33, c33⟩⟩, PySem.W.mg_of X G a33, k33⟩
  have b33 : Binds K _ ["value"] [] := F33.fn.binds rfl (ps := ["value"]) fun _ _ _ _ _ _ us hl => match us, hl with | [_], _ => rfl
  have F34 : C8.Def K mg "_law_form" s__law_form f34 _ := ⟨⟨⟨oc34, od34, .none, kV34, dc34, pm34, an34, cd34, ct34, sl34, rfl, l34, c34⟩⟩, PySem.W.mg_of X G a34, k34⟩
  have b34 : Binds K _ ["word", "kinds"] [] := F34.fn.binds rfl (ps := ["word", "kinds"]) fun _ _ _ _ _ _ us hl => match us, hl with | [_, _], _ => rfl
  have F35 : C8.Def K mg "_law_status" s__law_status f35 _ := ⟨⟨⟨oc35, od35, .none, kV35, dc35, pm35, an35, cd35, ct35, sl35, rfl, l35, c35⟩⟩, PySem.W.mg_of X G a35, k35⟩
  have b35 : Binds K _ ["memory", "granule", "state", "owner"] [] := F35.fn.binds rfl (ps := ["memory", "granule", "state", "owner"]) fun _ _ _ _ _ _ us hl => match us, hl with | [_, _, _, _], _ => rfl
  have F36 : C8.Def K mg "_law_due" s__law_due f36 _ := ⟨⟨⟨oc36, od36, .none, kV36, dc36, pm36, an36, cd36, ct36, sl36, rfl, l36, c36⟩⟩, PySem.W.mg_of X G a36, k36⟩
  have b36 : Binds K _ ["memory"] [] := F36.fn.binds rfl (ps := ["memory"]) fun _ _ _ _ _ _ us hl => match us, hl with | [_], _ => rfl
  have F37 : C8.Def K mg "_law_map" s__law_map f37 _ := ⟨⟨⟨oc37, od37, .none, kV37, dc37, pm37, an37, cd37, ct37, sl37, rfl, l37, c37⟩⟩, PySem.W.mg_of X G a37, k37⟩
  have b37 : Binds K _ ["memory"] [] := F37.fn.binds rfl (ps := ["memory"]) fun _ _ _ _ _ _ us hl => match us, hl with | [_], _ => rfl
  have F38 : C8.Fun K "law" "law" s_law fa _ := ⟨⟨oc38, od38, .none, kV38, dc38, pm38, an38, cd38, ct38, sl38, rfl, l38, c38⟩⟩
  have b38 : Binds K _ ["script"] [] := F38.binds rfl (ps := ["script"]) fun _ _ _ _ _ _ us hl => match us, hl with | [_], _ => rfl
  have F39 : C8.Fun K "__init__" "Memory.__init__" s_Memory___init__ f39 _ := ⟨⟨oc39, od39, .ref dT0, kV39, dc39, pm39, an39, cd39, ct39, sl39, rfl, l39, c39⟩⟩
  have b39 : Binds K (PySem.W.fnOf "__init__" "Memory.__init__" (C8.fnArgs s_Memory___init__) (C8.fnBody s_Memory___init__) (C8.fnScope s_Memory___init__) (.ref dT0) kV39 dc39 pm39 an39 cd39 ct39) ["self", "without"] [.none] := fun s us X hl => by
    obtain ⟨u0, rfl⟩ : ∃ u0, us = [u0] := by
      rw [List.length_append] at hl
      match us, hl with
      | [u0], _ => exact ⟨u0, rfl⟩
    refine BindsTo.of_looks fun M => ?_
    have hb : ∃ k, bindArgs (PySem.W.fnOf "__init__" "Memory.__init__" (C8.fnArgs s_Memory___init__) (C8.fnBody s_Memory___init__) (C8.fnScope s_Memory___init__) (.ref dT0) kV39 dc39 pm39 an39 cd39 ct39) ⟨[u0], []⟩ = seqItems? (.ref dT0) >>= k ∧ k (some #[.none]) = Pure.pure ((["self", "without"] : List Str).zip ([u0] ++ [.none])) := ⟨_, rfl, by kernel_rfl⟩
    obtain ⟨k, e1, e2⟩ := hb
    rw [e1]
    exact looks_items X ldT0 rfl (PySem.W.Looks.of_pure e2)
  have mk39 : Mk K N f39 := ⟨mkN, a39, i39, kcN⟩
  have F40 : C8.Fun K "access" "Memory.access" s_Memory_access f40 _ := ⟨⟨oc40, od40, .none, kV40, dc40, pm40, an40, cd40, ct40, sl40, rfl, l40, c40⟩⟩
  have b40 : Binds K _ ["self", "actor", "request"] [] := F40.binds rfl (ps := ["self", "actor", "request"]) fun _ _ _ _ _ _ us hl => match us, hl with | [_, _, _], _ => rfl
  have me40 : Meth K N "access" f40 := ⟨a40, i40, k40⟩
  have F41 : C8.Fun K "log" "Memory.log" s_Memory_log f41 _ := ⟨⟨oc41, od41, .none, kV41, dc41, pm41, an41, cd41, ct41, sl41, rfl, l41, c41⟩⟩
  have b41 : Binds K _ ["self"] [] := F41.binds rfl (ps := ["self"]) fun _ _ _ _ _ _ us hl => match us, hl with | [_], _ => rfl
  have me41 : Meth K N "log" f41 := ⟨a41, i41, k41⟩
  have F42 : C8.Fun K "status" "Memory.status" s_Memory_status f42 _ := ⟨⟨oc42, od42, .none, kV42, dc42, pm42, an42, cd42, ct42, sl42, rfl, l42, c42⟩⟩
  have b42 : Binds K _ ["self", "g"] [] := F42.binds rfl (ps := ["self", "g"]) fun _ _ _ _ _ _ us hl => match us, hl with | [_, _], _ => rfl
  have me42 : Meth K N "status" f42 := ⟨a42, i42, k42⟩
  have F43 : C8.Fun K "words" "Memory.words" s_Memory_words f43 _ := ⟨⟨oc43, od43, .none, kV43, dc43, pm43, an43, cd43, ct43, sl43, rfl, l43, c43⟩⟩
  have b43 : Binds K _ ["self", "g"] [] := F43.binds rfl (ps := ["self", "g"]) fun _ _ _ _ _ _ us hl => match us, hl with | [_, _], _ => rfl
  have me43 : Meth K N "words" f43 := ⟨a43, i43, k43⟩
  have F44 : C8.Fun K "_act_as_monitor" "Memory._act_as_monitor" s_Memory__act_as_monitor f44 _ := ⟨⟨oc44, od44, .none, kV44, dc44, pm44, an44, cd44, ct44, sl44, rfl, l44, c44⟩⟩
  have b44 : Binds K _ ["self", "p", "name", "parts"] [] := F44.binds rfl (ps := ["self", "p", "name", "parts"]) fun _ _ _ _ _ _ us hl => match us, hl with | [_, _, _, _], _ => rfl
  have me44 : Meth K N "_act_as_monitor" f44 := ⟨a44, i44, k44⟩
  have F45 : C8.Fun K "_write" "Memory._write" s_Memory__write f45 _ := ⟨⟨oc45, od45, .none, kV45, dc45, pm45, an45, cd45, ct45, sl45, rfl, l45, c45⟩⟩
  have b45 : Binds K _ ["self", "g", "i", "word"] [] := F45.binds rfl (ps := ["self", "g", "i", "word"]) fun _ _ _ _ _ _ us hl => match us, hl with | [_, _, _, _], _ => rfl
  have me45 : Meth K N "_write" f45 := ⟨a45, i45, k45⟩
  have F46 : C8.Fun K "_hold" "Memory._hold" s_Memory__hold f46 _ := ⟨⟨oc46, od46, .none, kV46, dc46, pm46, an46, cd46, ct46, sl46, rfl, l46, c46⟩⟩
  have b46 : Binds K _ ["self", "p", "g"] [] := F46.binds rfl (ps := ["self", "p", "g"]) fun _ _ _ _ _ _ us hl => match us, hl with | [_, _, _], _ => rfl
  have me46 : Meth K N "_hold" f46 := ⟨a46, i46, k46⟩
  have F47 : C8.Fun K "_leave" "Memory._leave" s_Memory__leave f47 _ := ⟨⟨oc47, od47, .none, kV47, dc47, pm47, an47, cd47, ct47, sl47, rfl, l47, c47⟩⟩
  have b47 : Binds K _ ["self", "g", "state", "owner"] [] := F47.binds rfl (ps := ["self", "g", "state", "owner"]) fun _ _ _ _ _ _ us hl => match us, hl with | [_, _, _, _], _ => rfl
  have me47 : Meth K N "_leave" f47 := ⟨a47, i47, k47⟩
  refine ⟨PySem.W.fnOf "law" "law" (C8.fnArgs s_law) (C8.fnBody s_law) (C8.fnScope s_law) .none kV38 dc38 pm38 an38 cd38 ct38, fun s v => .of_eq rfl, fun base _ _ => ?_⟩
  have C1 := ok_is_number (P := l.prog) (w := w) (base := base)  F1 b1 T  
  have C2 := ok_is_text (P := l.prog) (w := w) (base := base)  F2 b2 T  
  have C3 := ok__is_within (P := l.prog) (w := w) (base := base)  F3 b3 T  C1 C2
  have C4 := ok_is_word (P := l.prog) (w := w) (base := base)  F4 b4 T  C3
  have C5 := ok_has_name (P := l.prog) (w := w) (base := base)  F5 b5 T  
  have C6 := ok_is_form (P := l.prog) (w := w) (base := base)  F6 b6 T  
  have C7 := ok__is_below (P := l.prog) (w := w) (base := base)  F7 b7 T  
  have C8 := ok_is_page (P := l.prog) (w := w) (base := base)  F8 b8 T  C7
  have C9 := ok_is_granule (P := l.prog) (w := w) (base := base)  F9 b9 T  C7
  have C10 := ok_is_processor (P := l.prog) (w := w) (base := base)  F10 b10 T  C7
  have C11 := ok_fits (P := l.prog) (w := w) (base := base)  F11 b11 T  C9 C8 C10 C7 C4
  have C12 := ok__number_below (P := l.prog) (w := w) (base := base)  F12 b12 T  C7
  have C13 := ok__is_actor (P := l.prog) (w := w) (base := base)  F13 b13 T  C10
  have ktky0 : KTup K ky0 ["host", "read"] := fun H => .inr ⟨_, _, _, wky0, rfl, rfl, (by show 2 ≤ sizeLine; decide), (.cons ⟨_, rfl⟩ (.cons ⟨_, rfl⟩ .nil))⟩
  have ktky1 : KTup K ky1 ["host", "write"] := fun H => .inr ⟨_, _, _, wky1, rfl, rfl, (by show 2 ≤ sizeLine; decide), (.cons ⟨_, rfl⟩ (.cons ⟨_, rfl⟩ .nil))⟩
  have ktky2 : KTup K ky2 ["host", "drop"] := fun H => .inr ⟨_, _, _, wky2, rfl, rfl, (by show 2 ≤ sizeLine; decide), (.cons ⟨_, rfl⟩ (.cons ⟨_, rfl⟩ .nil))⟩
  have ktky3 : KTup K ky3 ["monitor", "read"] := fun H => .inr ⟨_, _, _, wky3, rfl, rfl, (by show 2 ≤ sizeLine; decide), (.cons ⟨_, rfl⟩ (.cons ⟨_, rfl⟩ .nil))⟩
  have ktky4 : KTup K ky4 ["monitor", "write"] := fun H => .inr ⟨_, _, _, wky4, rfl, rfl, (by show 2 ≤ sizeLine; decide), (.cons ⟨_, rfl⟩ (.cons ⟨_, rfl⟩ .nil))⟩
  have ktvl4 : KTup K vl4 ["granule", "index", "word"] := fun H => .inr ⟨_, _, _, wvl4, rfl, rfl, (by show 3 ≤ sizeLine; decide), (.cons ⟨_, rfl⟩ (.cons ⟨_, rfl⟩ (.cons ⟨_, rfl⟩ .nil)))⟩
  have ktky5 : KTup K ky5 ["monitor", "copy"] := fun H => .inr ⟨_, _, _, wky5, rfl, rfl, (by show 2 ≤ sizeLine; decide), (.cons ⟨_, rfl⟩ (.cons ⟨_, rfl⟩ .nil))⟩
  have ktky6 : KTup K ky6 ["monitor", "hold"] := fun H => .inr ⟨_, _, _, wky6, rfl, rfl, (by show 2 ≤ sizeLine; decide), (.cons ⟨_, rfl⟩ (.cons ⟨_, rfl⟩ .nil))⟩
  have ktvl6 : KTup K vl6 ["granule"] := fun H => .inr ⟨_, _, _, wvl6, rfl, rfl, (by show 1 ≤ sizeLine; decide), (.cons ⟨_, rfl⟩ .nil)⟩
  have ktky7 : KTup K ky7 ["monitor", "leave"] := fun H => .inr ⟨_, _, _, wky7, rfl, rfl, (by show 2 ≤ sizeLine; decide), (.cons ⟨_, rfl⟩ (.cons ⟨_, rfl⟩ .nil))⟩
  have ktvl7 : KTup K vl7 ["granule", "state", "owner"] := fun H => .inr ⟨_, _, _, wvl7, rfl, rfl, (by show 3 ≤ sizeLine; decide), (.cons ⟨_, rfl⟩ (.cons ⟨_, rfl⟩ (.cons ⟨_, rfl⟩ .nil)))⟩
  have ktky8 : KTup K ky8 ["monitor", "release"] := fun H => .inr ⟨_, _, _, wky8, rfl, rfl, (by show 2 ≤ sizeLine; decide), (.cons ⟨_, rfl⟩ (.cons ⟨_, rfl⟩ .nil))⟩
  have ktky9 : KTup K ky9 ["monitor", "look"] := fun H => .inr ⟨_, _, _, wky9, rfl, rfl, (by show 2 ≤ sizeLine; decide), (.cons ⟨_, rfl⟩ (.cons ⟨_, rfl⟩ .nil))⟩
  have ktky10 : KTup K ky10 ["monitor", "swap"] := fun H => .inr ⟨_, _, _, wky10, rfl, rfl, (by show 2 ≤ sizeLine; decide), (.cons ⟨_, rfl⟩ (.cons ⟨_, rfl⟩ .nil))⟩
  have ktky11 : KTup K ky11 ["monitor", "rest"] := fun H => .inr ⟨_, _, _, wky11, rfl, rfl, (by show 2 ≤ sizeLine; decide), (.cons ⟨_, rfl⟩ (.cons ⟨_, rfl⟩ .nil))⟩
  have ktky12 : KTup K ky12 ["monitor", "present"] := fun H => .inr ⟨_, _, _, wky12, rfl, rfl, (by show 2 ≤ sizeLine; decide), (.cons ⟨_, rfl⟩ (.cons ⟨_, rfl⟩ .nil))⟩
  have ktky13 : KTup K ky13 ["monitor", "seen"] := fun H => .inr ⟨_, _, _, wky13, rfl, rfl, (by show 2 ≤ sizeLine; decide), (.cons ⟨_, rfl⟩ (.cons ⟨_, rfl⟩ .nil))⟩
  have ktky14 : KTup K ky14 ["monitor", "ticket"] := fun H => .inr ⟨_, _, _, wky14, rfl, rfl, (by show 2 ≤ sizeLine; decide), (.cons ⟨_, rfl⟩ (.cons ⟨_, rfl⟩ .nil))⟩
  have ktky15 : KTup K ky15 ["monitor", "once"] := fun H => .inr ⟨_, _, _, wky15, rfl, rfl, (by show 2 ≤ sizeLine; decide), (.cons ⟨_, rfl⟩ (.cons ⟨_, rfl⟩ .nil))⟩
  have ktky16 : KTup K ky16 ["core", "walk"] := fun H => .inr ⟨_, _, _, wky16, rfl, rfl, (by show 2 ≤ sizeLine; decide), (.cons ⟨_, rfl⟩ (.cons ⟨_, rfl⟩ .nil))⟩
  have ktky17 : KTup K ky17 ["core", "leaf"] := fun H => .inr ⟨_, _, _, wky17, rfl, rfl, (by show 2 ≤ sizeLine; decide), (.cons ⟨_, rfl⟩ (.cons ⟨_, rfl⟩ .nil))⟩
  have ktky18 : KTup K ky18 ["core", "touch"] := fun H => .inr ⟨_, _, _, wky18, rfl, rfl, (by show 2 ≤ sizeLine; decide), (.cons ⟨_, rfl⟩ (.cons ⟨_, rfl⟩ .nil))⟩
  have ktky19 : KTup K ky19 ["core", "put"] := fun H => .inr ⟨_, _, _, wky19, rfl, rfl, (by show 2 ≤ sizeLine; decide), (.cons ⟨_, rfl⟩ (.cons ⟨_, rfl⟩ .nil))⟩
  have KR : Hr.KDT K w Rq esR nR [(["host", "read"], ky0, .ref vl0), (["host", "write"], ky1, .ref vl1), (["host", "drop"], ky2, .ref vl2), (["monitor", "read"], ky3, .ref vl3), (["monitor", "write"], ky4, .ref vl4), (["monitor", "copy"], ky5, .ref vl5), (["monitor", "hold"], ky6, .ref vl6), (["monitor", "leave"], ky7, .ref vl7), (["monitor", "release"], ky8, .ref vl8), (["monitor", "look"], ky9, .ref vl9), (["monitor", "swap"], ky10, .ref vl10), (["monitor", "rest"], ky11, .ref vl11), (["monitor", "present"], ky12, .ref vl12), (["monitor", "seen"], ky13, .ref vl13), (["monitor", "ticket"], ky14, .ref vl14), (["monitor", "once"], ky15, .ref vl15), (["core", "walk"], ky16, .ref vl16), (["core", "leaf"], ky17, .ref vl17), (["core", "touch"], ky18, .ref vl18), (["core", "put"], ky19, .ref vl19)] := ⟨lR, oR, eR, fun x hx => by
    simp only [List.mem_cons, List.not_mem_nil, or_false] at hx
    rcases hx with rfl | rfl | rfl | rfl | rfl | rfl | rfl | rfl | rfl | rfl | rfl | rfl | rfl | rfl | rfl | rfl | rfl | rfl | rfl | rfl
    · exact ktky0
    · exact ktky1
    · exact ktky2
    · exact ktky3
    · exact ktky4
    · exact ktky5
    · exact ktky6
    · exact ktky7
    · exact ktky8
    · exact ktky9
    · exact ktky10
    · exact ktky11
    · exact ktky12
    · exact ktky13
    · exact ktky14
    · exact ktky15
    · exact ktky16
    · exact ktky17
    · exact ktky18
    · exact ktky19, by show List.Nodup ([["host", "read"], ["host", "write"], ["host", "drop"], ["monitor", "read"], ["monitor", "write"], ["monitor", "copy"], ["monitor", "hold"], ["monitor", "leave"], ["monitor", "release"], ["monitor", "look"], ["monitor", "swap"], ["monitor", "rest"], ["monitor", "present"], ["monitor", "seen"], ["monitor", "ticket"], ["monitor", "once"], ["core", "walk"], ["core", "leaf"], ["core", "touch"], ["core", "put"]] : List (List Str)); decide +kernel⟩
  have hq : ∀ p ∈ monF, ∃ t, Hr.txAt [(["host", "read"], ky0, .ref vl0), (["host", "write"], ky1, .ref vl1), (["host", "drop"], ky2, .ref vl2), (["monitor", "read"], ky3, .ref vl3), (["monitor", "write"], ky4, .ref vl4), (["monitor", "copy"], ky5, .ref vl5), (["monitor", "hold"], ky6, .ref vl6), (["monitor", "leave"], ky7, .ref vl7), (["monitor", "release"], ky8, .ref vl8), (["monitor", "look"], ky9, .ref vl9), (["monitor", "swap"], ky10, .ref vl10), (["monitor", "rest"], ky11, .ref vl11), (["monitor", "present"], ky12, .ref vl12), (["monitor", "seen"], ky13, .ref vl13), (["monitor", "ticket"], ky14, .ref vl14), (["monitor", "once"], ky15, .ref vl15), (["core", "walk"], ky16, .ref vl16), (["core", "leaf"], ky17, .ref vl17), (["core", "touch"], ky18, .ref vl18), (["core", "put"], ky19, .ref vl19)] ["monitor", p.1] = some (.ref t) ∧ KTup K t p.2 := fun p hp => by
    simp only [monF, List.mem_cons, List.not_mem_nil, or_false] at hp
    rcases hp with rfl | rfl | rfl
    · exact ⟨vl6, rfl, ktvl6⟩
    · exact ⟨vl4, rfl, ktvl4⟩
    · exact ⟨vl7, rfl, ktvl7⟩
  have C14 := ok_is_access (P := l.prog) (w := w) (base := base) F14 b14 T ⟨_, PySem.W.mg_of X G aR, rfl⟩ KR hq C13 C5 C11
  have C15 := ok_granule_of (P := l.prog) (w := w) (base := base)  F15 b15 T  C6 C9
  have C16 := ok_leaf_of (P := l.prog) (w := w) (base := base)  F16 b16 T  C15
  have C17 := ok__is_from_one_on (P := l.prog) (w := w) (base := base)  F17 b17 T  C1
  have C18 := ok_is_leaving (P := l.prog) (w := w) (base := base)  F18 b18 T  C6 C9 C17
  have C19 := ok_is_root_word (P := l.prog) (w := w) (base := base)  F19 b19 T  C16 C18
  have C20 := ok_is_entry (P := l.prog) (w := w) (base := base)  F20 b20 T  C6 C15 C18 C17
  have GN : MeC K mg N := ⟨clsN, PySem.W.mg_of X G aN, nvN_without, nvN_statuses, nvN_words, nvN_presences, nvN_rows, nvN_walks, nvN_drops, nvN_tickets, nvN_taken, nvN_log⟩
  have kM := ok_minit (P := l.prog) (w := w) (base := base) mk39 GN T F39 b39
  have mMW := ok_write (P := l.prog) (w := w) (base := base) me45 GN T F45 b45
  have MW : Hr.MetS l.prog w K mg base 1 N "_write" f45 _ := Hr.mets_of mMW ⟨me45, gf45, tk45, by decide +kernel, fi45⟩
  have mMH := ok_hold (P := l.prog) (w := w) (base := base) me46 GN T F46 b46
  have MH : Hr.MetS l.prog w K mg base 1 N "_hold" f46 _ := Hr.mets_of mMH ⟨me46, gf46, tk46, by decide +kernel, fi46⟩
  have mML := ok_leave (P := l.prog) (w := w) (base := base) me47 GN T F47 b47
  have ML : Hr.MetS l.prog w K mg base 1 N "_leave" f47 _ := Hr.mets_of mML ⟨me47, gf47, tk47, by decide +kernel, fi47⟩
  have mA := ok_aam (P := l.prog) (w := w) (base := base) me44 GN T MW MH ML F44 b44
  have mS := ok_status (P := l.prog) (w := w) (base := base) me42 GN T C12 F42 b42
  have mW := ok_words (P := l.prog) (w := w) (base := base) me43 GN T C12 F43 b43
  have mL := ok_log (P := l.prog) (w := w) (base := base) me41 GN T F41 b41
  have mX := ok_access (P := l.prog) (w := w) (base := base) me40 GN T C14 mA F40 b40
  have C21 := ok__is_table (P := l.prog) (w := w) (base := base) F21 b21 T mS mW (calAt C19 (PySem.W.mg_of X G a19)) (calAt C20 (PySem.W.mg_of X G a20))
  have C22 := ok__are_leaves_right (P := l.prog) (w := w) (base := base) F22 b22 T ⟨_, PySem.W.mg_of X G a20, rfl⟩ mS mW C21
  have C23 := ok__is_in_wrong_half (P := l.prog) (w := w) (base := base) F23 b23 T 
  have C24 := ok_map_of (P := l.prog) (w := w) (base := base) F24 b24 T mW C16
  have C25 := ok__fault_of_pages (P := l.prog) (w := w) (base := base) F25 b25 T mS C24 C23
  have C26 := ok_tables_fault (P := l.prog) (w := w) (base := base) F26 b26 T ⟨_, PySem.W.mg_of X G a19, rfl⟩ C21 C22 C25
  have C27 := ok__law_next (P := l.prog) (w := w) (base := base) F27 b27 T 
  have C28 := ok__law_monitor (P := l.prog) (w := w) (base := base) F28 b28 T 
  have C29 := ok__law_put (P := l.prog) (w := w) (base := base) F29 b29 T C28 mX
  have C30 := ok__law_entry (P := l.prog) (w := w) (base := base) F30 b30 T C27
  have C31 := ok__law_built (P := l.prog) (w := w) (base := base) F31 b31 T hNC kM C27 C30
  have C32 := ok__law_bent (P := l.prog) (w := w) (base := base) F32 b32 T C27
  have C33 := ok__law_granule (P := l.prog) (w := w) (base := base) F33 b33 T 
  have C34 := ok__law_form (P := l.prog) (w := w) (base := base) F34 b34 T C33
  have C35 := ok__law_status (P := l.prog) (w := w) (base := base) F35 b35 T mS
  have C36 := ok__law_due (P := l.prog) (w := w) (base := base) F36 b36 T mS mW C34 C35
  have C37 := ok__law_map (P := l.prog) (w := w) (base := base) F37 b37 T mW C33
  exact fn_law F38 b38 T C27 C31 C32 C29 mL C26 C36 C37 C24
end Hc

/-! running a top past a written dict whose keys are tuples of texts: bounded runs, one behind the other -/
namespace Hd
open PySem PySem.W PySem.Calls PyProof.Rows
/-- where a top's statement runs -/
structure At where
  p : Program
  w : World
  n : Nat
  ann : Option Value
  c : Code
  q : Pos
abbrev At.top (x : At) (N : Nat) (s : Shared) (cur : Sem Fin) (pos : Pos) : Option Shared := topRun treeTable x.p x.w x.n x.ann N s ⟨cur, x.c, pos, [topFrame x.q]⟩
/-- m comes from s to the answer a and s', in at most n steps -/
def Goes {α : Type} (x : At) (lv : List Value → List Value) (n : Nat) (m : Sem α) (s : Shared) (pos : Pos) (a : α) (s' : Shared) (pos' : Pos) : Prop :=
  ∀ (K : α → Sem Fin) (H : Value → Sem Fin) (N : Nat) (r : Shared), x.top N s' (K a) pos' = some r → x.top (n + N) s (m.wrap K H id lv) pos = some r
section
variable {α β : Type} {x : At} {lv : List Value → List Value} {n n1 n2 : Nat} {s s1 s2 : Shared} {pos p1 p2 : Pos}
theorem more (k : Nat) {N : Nat} {s r : Shared} {cur : Sem Fin} {pos : Pos} (h : x.top N s cur pos = some r) : x.top (k + N) s cur pos = some r := by
  rw [Nat.add_comm]; exact topRun_mono k N s _ r h
theorem Goes.le {m : Sem α} {a : α} (h : Goes x lv n m s pos a s1 p1) {k : Nat} (hk : n ≤ k) : Goes x lv k m s pos a s1 p1 := fun K H N r q => by
  have := more (x := x) (k - n) (h K H N r q)
  rwa [show k - n + (n + N) = k + N by omega] at this
theorem Goes.pure (a : α) : Goes x lv 0 (Pure.pure a : Sem α) s pos a s pos := fun K H N r q => by rw [Nat.zero_add]; exact q
theorem Goes.bind {m : Sem α} {f : α → Sem β} {a : α} {b : β} (h1 : Goes x lv n1 m s pos a s1 p1) (h2 : Goes x lv n2 (f a) s1 p1 b s2 p2) : Goes x lv (n1 + n2) (m >>= f) s pos b s2 p2 := fun K H N r q => by
  rw [Sem.bind_eq_wrap', Sem.wrap_wrap, Nat.add_assoc]
  exact h1 (fun a => (f a).wrap K H id lv) H (n2 + N) r (h2 K H N r q)
theorem Goes.keep {m : Sem α} {a : α} {vs : List Value} (h : Goes x (fun l => lv (vs ++ l)) n m s pos a s1 p1) : Goes x lv n (m.keep vs) s pos a s1 p1 := fun K H N r q => by
  rw [Sem.keep_eq_wrap, Sem.wrap_wrap]
  exact h K H N r q
theorem Goes.onRaise {m : Sem α} {a : α} {f : Value → Sem Unit} (h : Goes x lv n m s pos a s1 p1) : Goes x lv n (m.onRaise f) s pos a s1 p1 := fun K H N r q => by
  rw [Sem.onRaise_eq_wrap, Sem.wrap_wrap]
  exact h K _ N r q
def isRef : Value → Bool
  | .ref _ => true
  | _ => false
theorem holding_eq (vs : List Value) (m : Sem α) : PySem.holding vs m = match vs.filter isRef with | [] => m | rs => m.keep rs := by
  have e : (vs.filter fun | .ref _ => true | _ => false) = vs.filter isRef := List.filter_congr fun v _ => by cases v <;> rfl
  unfold PySem.holding
  split
  · rename_i h
    have h2 : vs.filter isRef = [] := e.symm.trans h
    rw [h2]
  · rename_i rs hn
    have h2 : ¬ vs.filter isRef = [] := fun z => hn (e.trans z)
    cases h3 : vs.filter isRef with
    | nil => exact absurd h3 h2
    | cons r rs' => exact congrArg (fun l => m.keep l) (e.trans h3)
/-- what holding does to the lists -/
def hold (vs : List Value) (lv : List Value → List Value) : List Value → List Value := fun l => lv (vs.filter isRef ++ l)
theorem Goes.holding {m : Sem α} {a : α} {vs : List Value} (h : Goes x (hold vs lv) n m s pos a s1 p1) : Goes x lv n (PySem.holding vs m) s pos a s1 p1 := by
  rw [holding_eq]
  unfold hold at h
  cases e : vs.filter isRef with
  | nil => rw [e] at h; exact h
  | cons r rs => rw [e] at h; exact Goes.keep h
/-- by a run that has been reckoned -/
theorem Goes.seg {m : Sem α} {a : α} (res : α → Flow) (hi : ∀ b, res b = res a → b = a) (h : segRun treeTable x.p x.w x.n x.ann 1 n s ⟨m.wrap (fun b => .pure (.done (res b))) deadEnd id lv, x.c, pos, [topFrame x.q]⟩ = some (res a, s1, x.c, p1)) : Goes x lv n m s pos a s1 p1 := fun K H N r q => by
  obtain ⟨b, hb, hN⟩ := seg_top (res := res) (K' := K) (H' := H) (gd := id) (lv := lv) (B := [topFrame x.q]) rfl n s ⟨m.wrap (fun b => .pure (.done (res b))) deadEnd id lv, x.c, pos, [topFrame x.q]⟩ ⟨m.wrap K H id lv, x.c, pos, [topFrame x.q]⟩ _ _ _ _ ⟨rfl, rfl, .inl ⟨rfl, rfl, m, rfl, rfl⟩⟩ h
  obtain rfl := hi b hb
  exact hN N r q
/-- one step that changes nothing -/
theorem Goes.step1 {m m' : Sem α} {a : α} (hok : ∀ (K : α → Sem Fin) H, stepOk x.n x.ann ⟨m.wrap K H id lv, x.c, pos, [topFrame x.q]⟩ = true) (hs : ∀ (K : α → Sem Fin) H, step (denote treeTable) x.p x.w s ⟨m.wrap K H id lv, x.c, pos, [topFrame x.q]⟩ = .go s ⟨m'.wrap K H id lv, x.c, pos, [topFrame x.q]⟩) (h : Goes x lv n m' s pos a s1 p1) : Goes x lv (n + 1) m s pos a s1 p1 := fun K H N r q => by
  have h1 := h K H N r q
  have h2 : through ⟨m.wrap K H id lv, x.c, pos, [topFrame x.q]⟩ = false := rfl
  rw [show n + 1 + N = n + N + 1 by omega]
  show topRun treeTable x.p x.w x.n x.ann (n + N + 1) s ⟨m.wrap K H id lv, x.c, pos, [topFrame x.q]⟩ = some r
  unfold topRun
  rw [h2, hok K H, hs K H]
  exact h1
theorem Goes.rule {k : Unit → Sem α} {t : String} {a : α} (h : Goes x lv n (k ()) s pos a s1 p1) : Goes x lv (n + 1) (.rule t k) s pos a s1 p1 := by
  exact Goes.step1 (fun K H => rfl) (fun K H => rfl) h
theorem Goes.load {k : Obj → Sem α} {a0 : Addr} {pt : Option Value} {o : Obj} {a : α} (ho : s.heap.get? a0 = some o) (h : Goes x lv n (k o) s pos a s1 p1) : Goes x lv (n + 1) (.load a0 pt k) s pos a s1 p1 := by
  refine Goes.step1 (fun K H => rfl) (fun K H => ?_) h
  · show step (denote treeTable) x.p x.w s ⟨.load a0 pt fun o => (k o).wrap K H id lv, x.c, pos, [topFrame x.q]⟩ = _
    simp only [step, ho]
end
end Hd

namespace Hd
open PySem PySem.W PySem.Calls PyProof.Rows
section
variable {α β σ : Type} {x : At} {lv : List Value → List Value} {n : Nat} {s s1 : Shared} {pos p1 : Pos}
theorem Goes.loop {f : α → σ → Sem (ForInStep σ)} {σ0 : σ} : ∀ {P : List α}, (∀ i ∈ P, Goes x lv n (f i σ0) s pos (.yield σ0) s pos) → Goes x lv (P.length * n) (forIn P σ0 f) s pos σ0 s pos
  | [], _ => (Goes.pure σ0).le (by simp)
  | a :: P, h => by
    rw [List.forIn_cons]
    have h1 := h a (List.mem_cons_self ..)
    have h2 := Goes.loop (P := P) fun i hi => h i (List.mem_cons_of_mem _ hi)
    refine (Goes.bind h1 ?_).le (k := (a :: P).length * n) (n := n + P.length * n) (by rw [List.length_cons, Nat.succ_mul]; omega)
    exact h2
theorem Goes.part {a0 : Addr} {pt : Option Value} {o : Obj} (ho : s.heap.get? a0 = some o) : Goes x lv 1 (loadPart a0 pt) s pos o s pos := Goes.load ho (Goes.pure o)
theorem Goes.epoch {d : Addr} {pt : Option Value} {o : Obj} {es : Array DictEntry} {ep : Nat} (ho : s.heap.get? d = some o) (hd : o.data = .dict es ep) : Goes x lv 1 (dictEpoch d pt) s pos ep s pos := by
  unfold dictEpoch
  refine Goes.bind (n1 := 1) (n2 := 0) (Goes.part ho) ?_
  rw [hd]
  exact Goes.pure ep
theorem Goes.entries {d : Addr} {pt : Option Value} {o : Obj} {es : Array DictEntry} {ep : Nat} (ho : s.heap.get? d = some o) (hd : o.data = .dict es ep) : Goes x lv 1 (dictEntries d pt) s pos es s pos := by
  unfold dictEntries
  refine Goes.bind (n1 := 1) (n2 := 0) (Goes.part ho) ?_
  rw [hd]
  exact Goes.pure es
theorem Goes.rul {t : String} : Goes x lv 1 (PySem.rule t) s pos () s pos := Goes.rule (Goes.pure ())
theorem Goes.tells {key : Value} {nq : Nat} (hb : Goes x lv nq (eqIsQuiet 8 key) s pos true s pos) {st : List Value} (hs : ∀ k ∈ st, Goes x lv nq (eqIsQuiet 8 k) s pos true s pos) : Goes x lv (nq + st.length * nq) (tableMayTell key st) s pos false s pos := by
  unfold tableMayTell
  cases hst : st.isEmpty with
  | true => exact (Goes.pure false).le (Nat.zero_le _)
  | false =>
    rw [if_neg (by simp)]
    refine Goes.bind (n1 := nq) (n2 := st.length * nq) hb ?_
    rw [if_neg (by simp)]
    refine Goes.bind (n1 := st.length * nq) (n2 := 0) (Goes.loop (n := nq) (σ0 := ((none : Option Bool), ())) fun k hk => ?_) (Goes.pure false)
    refine Goes.bind (n1 := nq) (n2 := 0) (hs k hk) ?_
    rw [if_neg (by simp)]
    exact Goes.pure _
/-- that a key is not found in a dict of other tuples -/
theorem Goes.find {d b : Addr} {h : Int} {o : Obj} {es : Array DictEntry} {ep nq ne M : Nat} (ho : s.heap.get? d = some o) (hd : o.data = .dict es ep) (hM : es.size ≤ M)
    (hb : Goes x (hold [.ref b] lv) nq (eqIsQuiet 8 (.ref b)) s pos true s pos)
    (hk : ∀ (i : Nat) (e : DictEntry), es[i]? = some e → ∃ a, e.key = .ref a ∧ a ≠ b ∧ Goes x (hold [.ref b] lv) nq (eqIsQuiet 8 (.ref a)) s pos true s pos ∧ Goes x (hold [.ref b] lv) ne (eqBool (.ref a) (.ref b)) s pos false s pos) :
    Goes x lv (1 + ((nq + M * nq) + M * (ne + 3))) (dictFind d (.ref b) h) s pos none s pos := by
  unfold dictFind
  refine Goes.holding ?_
  refine Goes.bind (n1 := 1) (Goes.entries ho hd) ?_
  have hpl : (placesWithHash es.size (fun i => Option.map (fun x => x.hash) es[i]?) h).length ≤ M := by
    unfold placesWithHash
    exact Nat.le_trans (List.length_filter_le _ _) (by rw [List.length_range]; exact hM)
  generalize placesWithHash es.size (fun i => Option.map (fun x => x.hash) es[i]?) h = P at hpl
  have hsl : (P.filterMap fun i => Option.map (fun x => x.key) es[i]?).length ≤ M := Nat.le_trans (List.length_filterMap_le _ _) hpl
  have hst : ∀ k ∈ P.filterMap fun i => Option.map (fun x => x.key) es[i]?, Goes x (hold [.ref b] lv) nq (eqIsQuiet 8 k) s pos true s pos := by
    intro k hk'
    obtain ⟨i, _, hi⟩ := List.mem_filterMap.mp hk'
    obtain ⟨e, he, rfl⟩ := Option.map_eq_some_iff.mp hi
    obtain ⟨a, ea, _, hq, _⟩ := hk i e he
    rw [ea]; exact hq
  have hany : (es.any fun e => e.key == .ref b && e.hash != h) = false := by
    rw [Array.any_eq_false]
    intro i hi
    obtain ⟨a, ea, hne, _⟩ := hk i es[i] (Array.getElem?_eq_getElem hi)
    rw [ea]
    have : ((Value.ref a == Value.ref b) = false) := by
      cases e : (Value.ref a == Value.ref b) with
      | false => rfl
      | true => exact absurd (Value.ref.inj (eq_of_beq e)) hne
    simp [this]
  dsimp only
  rw [if_neg (by simp [carriedByValue])]
  rw [hany, if_neg (by simp)]
  generalize P.filterMap (fun i => Option.map (fun x => x.key) es[i]?) = st at hsl hst
  cases he : (st == [Value.ref b])
  · rw [if_neg (by simp)]
    refine Goes.bind (n1 := nq + M * nq) (n2 := M * (ne + 3)) ((Goes.tells hb hst).le (by have := Nat.mul_le_mul_right nq hsl; omega)) ?_
    rw [if_neg (by simp)]
    refine (Goes.bind (n1 := P.length * (ne + 3)) (n2 := 0) (Goes.loop (n := ne + 3) (σ0 := ((none : Option (Option Nat)), (none : Option Nat))) fun i hi => ?_) (Goes.pure none)).le (by have := Nat.mul_le_mul_right (ne + 3) hpl; omega)
    have hki := hk i
    cases hei : es[i]? with
    | none => exact (Goes.pure _).le (Nat.zero_le _)
    | some e =>
      obtain ⟨a, ea, hne, _, hq⟩ := hki e hei
      dsimp only
      cases hh : e.hash == h with
      | false => rw [if_neg (by simp)]; exact (Goes.pure _).le (Nat.zero_le _)
      | true =>
        rw [if_pos rfl]
        refine (Goes.bind (n1 := 1) (n2 := ne + 2) (Goes.epoch ho hd) ?_).le (by omega)
        rw [ea]
        refine (Goes.bind (n1 := ne) (n2 := 2) hq ?_).le (by omega)
        refine Goes.bind (n1 := 1) (n2 := 1) (Goes.epoch ho hd) ?_
        rw [if_neg (by simp), if_neg (by simp)]
        refine Goes.bind (n1 := 1) (n2 := 0) Goes.rul ?_
        rw [if_neg (by simp)]
        exact Goes.pure _
  · rw [if_pos rfl]
    refine (Goes.bind (n1 := 0) (n2 := M * (ne + 3)) (Goes.pure false) ?_).le (by omega)
    rw [if_neg (by simp)]
    refine (Goes.bind (n1 := P.length * (ne + 3)) (n2 := 0) (Goes.loop (n := ne + 3) (σ0 := ((none : Option (Option Nat)), (none : Option Nat))) fun i hi => ?_) (Goes.pure none)).le (by have := Nat.mul_le_mul_right (ne + 3) hpl; omega)
    have hki := hk i
    cases hei : es[i]? with
    | none => exact (Goes.pure _).le (Nat.zero_le _)
    | some e =>
      obtain ⟨a, ea, hne, _, hq⟩ := hki e hei
      dsimp only
      cases hh : e.hash == h with
      | false => rw [if_neg (by simp)]; exact (Goes.pure _).le (Nat.zero_le _)
      | true =>
        rw [if_pos rfl]
        refine (Goes.bind (n1 := 1) (n2 := ne + 2) (Goes.epoch ho hd) ?_).le (by omega)
        rw [ea]
        refine (Goes.bind (n1 := ne) (n2 := 2) hq ?_).le (by omega)
        refine Goes.bind (n1 := 1) (n2 := 1) (Goes.epoch ho hd) ?_
        rw [if_neg (by simp), if_neg (by simp)]
        refine Goes.bind (n1 := 1) (n2 := 0) Goes.rul ?_
        rw [if_neg (by simp)]
        exact Goes.pure _
end
end Hd

namespace Hd
open PySem PySem.W PySem.Calls PyProof.Rows
/-- the code at the bottom of a stack -/
def baseOf : List Frame → Code → Option Code
  | [], _ => none
  | [_], c => some c
  | .ret _ _ _ _ c _ _ :: r, _ => baseOf r c
  | .gen _ _ _ c _ :: r, _ => baseOf r c
def two : List Frame → Bool
  | .ret .. :: _ :: _ => true
  | _ => false
/-- steps that change nothing but the thread -/
def ro (t : Thread) : Bool := match t.cur with
  | .pure (.again _) | .pure (.done _) | .raise _ => two t.stack
  | .rule .. | .at .. | .load .. | .loadIfAlive .. | .point .. | .ask .. | .handled .. | .stack .. | .call .. | .thread .. => true
  | _ => false
/-- plain steps -/
def plain (t : Thread) : Bool := ro t || match t.cur with
  | .update .. | .alloc .. | .fresh .. => true
  | _ => false
theorem two_spec {st : List Frame} (h : two st = true) : ∃ k hd g l c p kp f r, st = .ret k hd g l c p kp :: f :: r := by
  cases st with
  | nil => cases h
  | cons fr r =>
    cases r with
    | nil => cases fr <;> cases h
    | cons f r =>
      cases fr with
      | ret k hd g l c p kp => exact ⟨k, hd, g, l, c, p, kp, f, r, rfl⟩
      | gen n k l c p => cases h
section
variable {den : Code → Sem Fin} {p : Program} {w : World} {s s' : Shared} {t t' : Thread}
theorem ro_step (h : ro t = true) (hne : t.stack ≠ []) (hs : step den p w s t = .go s' t') : s' = s ∧ baseOf t'.stack t'.code = baseOf t.stack t.code := by
  obtain ⟨cur, code, pos, stack⟩ := t
  obtain ⟨heap, gens, drawn, toks, os⟩ := s
  cases cur with
  | pure f =>
    have h2 : two stack = true := by cases f <;> exact h
    obtain ⟨k, hd, g, l, c, q, kp, fr, r, rfl⟩ := two_spec h2
    cases f with
    | done f => simp only [step, Step.go.injEq] at hs; obtain ⟨rfl, rfl⟩ := hs; exact ⟨rfl, by cases fr <;> cases r <;> rfl⟩
    | again c2 =>
      rw [W.step_again] at hs
      cases hs
      exact ⟨rfl, rfl⟩
  | raise e =>
    obtain ⟨k, hd, g, l, c, q, kp, fr, r, rfl⟩ := two_spec h
    simp only [step, Step.go.injEq] at hs; obtain ⟨rfl, rfl⟩ := hs; exact ⟨rfl, by cases fr <;> cases r <;> rfl⟩
  | load a q k =>
    simp only [step] at hs
    split at hs
    · cases hs; exact ⟨rfl, rfl⟩
    · cases hs
  | call c m g l k =>
    simp only [step, Step.go.injEq] at hs
    obtain ⟨rfl, rfl⟩ := hs
    refine ⟨rfl, ?_⟩
    cases stack with
    | nil => exact absurd rfl hne
    | cons f r => rfl
  | rule | «at» | point | ask | thread | loadIfAlive => simp only [step, Step.go.injEq] at hs; obtain ⟨rfl, rfl⟩ := hs; exact ⟨rfl, rfl⟩
  | handled own k => simp only [step, Step.go.injEq] at hs; obtain ⟨rfl, rfl⟩ := hs; exact ⟨rfl, rfl⟩
  | stack k => simp only [step, Step.go.injEq] at hs; obtain ⟨rfl, rfl⟩ := hs; exact ⟨rfl, rfl⟩
  | _ => cases h
theorem ro_two (h : ro t = true) (hn : t.stack = []) : ro t = false ∨ t.stack = [] := .inr hn
theorem plain_step (h : plain t = true) (hne : t.stack ≠ []) (hs : step den p w s t = .go s' t') : baseOf t'.stack t'.code = baseOf t.stack t.code := by
  cases hr : ro t with
  | true => exact (ro_step hr hne hs).2
  | false =>
    obtain ⟨cur, code, pos, stack⟩ := t
    obtain ⟨heap, gens, drawn, toks, os⟩ := s
    simp only [plain, hr, Bool.false_or] at h
    cases cur with
    | update a q f k =>
      simp only [step] at hs
      split at hs
      · cases hs; rfl
      · cases hs
    | alloc o k => cases hs; rfl
    | fresh k => cases hs; rfl
    | _ => cases h
end
/-- a run to the end of a piece, the kept ones alone -/
def segF (st : SharedT → Thread → Option (SharedT × Thread)) (chk : Thread → Bool) (n0 : Nat) (ann : Option Value) : Nat → SharedT → Thread → Option (Flow × SharedT × Pos)
  | 0, _, _ => none
  | m + 1, s, t => match endAt 1 t with
    | some f => some (f, s, t.pos)
    | none => match stepOk n0 ann t && chk t with
      | false => none
      | true => match st s t with
        | some (s', t') => HandSHeadRun.frS s' fun s' => segF st chk n0 ann m s' t'
        | none => none
section
variable {tb : String → Option Builtin} {p : Program} {w : World} {n0 : Nat} {ann : Option Value}
theorem segF_ok : ∀ {m : Nat} {s s' : SharedT} {t : Thread} {f : Flow} {q : Pos} {c : Code}, baseOf t.stack t.code = some c → t.stack ≠ [] → segF (stepT (denote tb) p w) plain n0 ann m s t = some (f, s', q) → segRun tb p w n0 ann 1 m s.abs t = some (f, s'.abs, c, q)
  | 0, _, _, _, _, _, _, _, _, h => by cases h
  | m + 1, s, s', t, f, q, c, hb, hne, h => by
    unfold segF at h
    unfold segRun
    cases he : endAt 1 t with
    | some g =>
      rw [he] at h
      cases h
      have hl : t.stack.length = 1 := by
        unfold endAt at he
        split at he
        · rename_i e _; exact eq_of_beq e
        · cases he
      have : t.code = c := by
        obtain ⟨cur, code, pos, stack⟩ := t
        cases stack with
        | nil => cases hl
        | cons fr r =>
          cases r with
          | nil =>
            have hb' : some code = some c := by
              have e : baseOf [fr] code = some code := by cases fr <;> rfl
              rw [← e]; exact hb
            exact Option.some.inj hb'
          | cons _ _ => cases hl
      rw [this]
    | none =>
      rw [he] at h
      cases hk : stepOk n0 ann t && plain t with
      | false => rw [hk] at h; cases h
      | true =>
        rw [hk] at h
        obtain ⟨h1, h2⟩ := Bool.and_eq_true_iff.mp hk
        cases hs : stepT (denote tb) p w s t with
        | none => rw [hs] at h; cases h
        | some r =>
          obtain ⟨s2, t2⟩ := r
          rw [hs] at h
          have h3 : HandSHeadRun.frS s2 (fun s' => segF (stepT (denote tb) p w) plain n0 ann m s' t2) = some (f, s', q) := h
          rw [HandSHeadRun.frS_eq] at h3
          have sp := stepT_spec hs
          have b2 := plain_step h2 hne sp
          have hne2 : t2.stack ≠ [] := fun z => by
            rw [z, hb] at b2
            cases b2
          have := segF_ok (b2.trans hb) hne2 h3
          rw [h1]
          show (match step (denote tb) p w s.abs t with
            | .go s' t' => segRun tb p w n0 ann 1 m s' t'
            | .halt _ _ => none) = _
          rw [sp]
          exact this
theorem segF_ro : ∀ {m : Nat} {s s' : SharedT} {t : Thread} {f : Flow} {q : Pos} {c : Code}, baseOf t.stack t.code = some c → t.stack ≠ [] → segF (stepT (denote tb) p w) ro n0 ann m s t = some (f, s', q) → segRun tb p w n0 ann 1 m s.abs t = some (f, s.abs, c, q)
  | 0, _, _, _, _, _, _, _, _, h => by cases h
  | m + 1, s, s', t, f, q, c, hb, hne, h => by
    unfold segF at h
    unfold segRun
    cases he : endAt 1 t with
    | some g =>
      rw [he] at h
      cases h
      have hl : t.stack.length = 1 := by
        unfold endAt at he
        split at he
        · rename_i e _; exact eq_of_beq e
        · cases he
      have : t.code = c := by
        obtain ⟨cur, code, pos, stack⟩ := t
        cases stack with
        | nil => cases hl
        | cons fr r =>
          cases r with
          | nil =>
            have hb' : some code = some c := by
              have e : baseOf [fr] code = some code := by cases fr <;> rfl
              rw [← e]; exact hb
            exact Option.some.inj hb'
          | cons _ _ => cases hl
      rw [this]
    | none =>
      rw [he] at h
      cases hk : stepOk n0 ann t && ro t with
      | false => rw [hk] at h; cases h
      | true =>
        rw [hk] at h
        obtain ⟨h1, h2⟩ := Bool.and_eq_true_iff.mp hk
        cases hs : stepT (denote tb) p w s t with
        | none => rw [hs] at h; cases h
        | some r =>
          obtain ⟨s2, t2⟩ := r
          rw [hs] at h
          have h3 : HandSHeadRun.frS s2 (fun s' => segF (stepT (denote tb) p w) ro n0 ann m s' t2) = some (f, s', q) := h
          rw [HandSHeadRun.frS_eq] at h3
          have sp := stepT_spec hs
          obtain ⟨es, b2⟩ := ro_step h2 hne sp
          have hne2 : t2.stack ≠ [] := fun z => by
            rw [z, hb] at b2
            cases b2
          have := segF_ro (b2.trans hb) hne2 h3
          rw [h1]
          show (match step (denote tb) p w s.abs t with
            | .go s' t' => segRun tb p w n0 ann 1 m s' t'
            | .halt _ _ => none) = _
          rw [sp, ← es]
          exact this
end
end Hd

set_option maxHeartbeats 1000000
namespace Hd
open PySem PySem.W PySem.Calls PyProof.Rows
abbrev St := SharedT → Thread → Option (SharedT × Thread)
/-- answers as flows -/
def rV (v : Value) : Flow := .ret v
def rI (i : Int) : Flow := .ret (.int i 0)
def rU (_ : Unit) : Flow := .next
def rB (b : Bool) : Flow := if b then .next else .brk
def rA (a : Addr) : Flow := .ret (.ref a)
def rO : Option Value → Flow
  | some v => .ret v
  | none => .next
def asV : Flow → Option Value
  | .ret v => some v
  | _ => none
def asI : Flow → Option Int
  | .ret (.int i 0) => some i
  | _ => none
def asA : Flow → Option Addr
  | .ret (.ref a) => some a
  | _ => none
def isN : Flow → Bool
  | .next => true
  | _ => false
def isB : Flow → Bool
  | .brk => true
  | _ => false
theorem asV_ok {f : Flow} {v : Value} (h : asV f = some v) : f = rV v := by cases f <;> cases h; rfl
theorem asI_ok {f : Flow} {i : Int} (h : asI f = some i) : f = rI i := by
  unfold asI at h
  split at h
  · cases h; rfl
  · cases h
theorem asA_ok {f : Flow} {a : Addr} (h : asA f = some a) : f = rA a := by
  unfold asA at h
  split at h
  · cases h; rfl
  · cases h
theorem isN_ok {f : Flow} (h : isN f = true) : f = .next := by cases f <;> first | rfl | cases h
theorem isB_ok {f : Flow} (h : isB f = true) : f = .brk := by cases f <;> first | rfl | cases h
theorem rV_inj (v b : Value) (h : rV b = rV v) : b = v := by cases h; rfl
theorem rI_inj (v b : Int) (h : rI b = rI v) : b = v := by cases h; rfl
theorem rA_inj (v b : Addr) (h : rA b = rA v) : b = v := by cases h; rfl
theorem rB_inj (v b : Bool) (h : rB b = rB v) : b = v := by cases v <;> cases b <;> first | rfl | cases h
theorem rU_inj (v b : Unit) (_ : rU b = rU v) : b = v := rfl
theorem rO_inj (v b : Option Value) (h : rO b = rO v) : b = v := by cases v <;> cases b <;> cases h <;> rfl
def seg (st : St) (chk : Thread → Bool) (x : At) (lv : List Value → List Value) {α : Type} (res : α → Flow) (m : Sem α) (s : SharedT) (pos : Pos) : Option (Flow × SharedT × Pos) :=
  segF st chk x.n x.ann 400 s ⟨m.wrap (fun b => .pure (.done (res b))) deadEnd id lv, x.c, pos, [topFrame x.q]⟩
section
variable {st : St} {x : At} {lv : List Value → List Value} {s s' : SharedT} {pos p1 : Pos} {α : Type}
theorem seg_goes (hst : st = stepT (denote treeTable) x.p x.w) {res : α → Flow} {a : α} {m : Sem α} (hi : ∀ b, res b = res a → b = a) (h : seg st plain x lv res m s pos = some (res a, s', p1)) : Goes x lv 400 m s.abs pos a s'.abs p1 := by
  subst hst
  exact Goes.seg res hi (segF_ok rfl (List.cons_ne_nil _ _) h)
theorem seg_goesR (hst : st = stepT (denote treeTable) x.p x.w) {res : α → Flow} {a : α} {m : Sem α} (hi : ∀ b, res b = res a → b = a) (h : seg st ro x lv res m s pos = some (res a, s', p1)) : Goes x lv 400 m s.abs pos a s.abs p1 := by
  subst hst
  exact Goes.seg res hi (segF_ro rfl (List.cons_ne_nil _ _) h)
/-- a quiet question, answered b, at the same place -/
def askB (st : St) (x : At) (lv : List Value → List Value) (m : Sem Bool) (b : Bool) (s : SharedT) (pos : Pos) : Bool := match seg st ro x lv rB m s pos with
  | some (f, _, p) => (if b then isN f else isB f) && decide (p = pos)
  | none => false
theorem askB_ok (hst : st = stepT (denote treeTable) x.p x.w) {m : Sem Bool} {b : Bool} (h : askB st x lv m b s pos = true) : Goes x lv 400 m s.abs pos b s.abs pos := by
  unfold askB at h
  split at h
  · rename_i f s2 p e
    obtain ⟨h1, h2⟩ := Bool.and_eq_true_iff.mp h
    have h2 := of_decide_eq_true h2
    subst h2
    have ef : f = rB b := by
      cases b with
      | true => rw [if_pos rfl] at h1; exact isN_ok h1
      | false => rw [if_neg (by simp)] at h1; exact isB_ok h1
    rw [ef] at e
    exact seg_goesR hst (rB_inj b) e
  · cases h
def chkE (st : St) (x : At) (lv : List Value → List Value) (b : Addr) (s : SharedT) (pos : Pos) (e : DictEntry) : Bool := match e.key with
  | .ref a => !decide (a = b) && (askB st x lv (eqIsQuiet 8 (.ref a)) true s pos && askB st x lv (eqBool (.ref a) (.ref b)) false s pos)
  | _ => false
def chkFind (st : St) (x : At) (lv : List Value → List Value) (d b : Addr) (s : SharedT) (pos : Pos) : Bool := match HandSHeadRun.getT s d with
  | some ⟨_, _, .dict es _, _⟩ => decide (es.size ≤ 20) && (askB st x (hold [.ref b] lv) (eqIsQuiet 8 (.ref b)) true s pos && es.toList.all fun e => chkE st x (hold [.ref b] lv) b s pos e)
  | _ => false
def nF : Nat := 1 + ((400 + 20 * 400) + 20 * (400 + 3))
theorem chkFind_ok (hst : st = stepT (denote treeTable) x.p x.w) {d b : Addr} {h : Int} (hc : chkFind st x lv d b s pos = true) : Goes x lv nF (dictFind d (.ref b) h) s.abs pos none s.abs pos := by
  unfold chkFind at hc
  split at hc
  · rename_i oc od es ep sl hg
    obtain ⟨h1, h2⟩ := Bool.and_eq_true_iff.mp hc
    obtain ⟨h2, h3⟩ := Bool.and_eq_true_iff.mp h2
    rw [HandSHeadRun.getT_eq] at hg
    refine Goes.find hg rfl (of_decide_eq_true h1) (askB_ok hst h2) fun i e he => ?_
    have hm : e ∈ es.toList := by
      have := Array.mem_of_getElem? he
      exact Array.mem_toList_iff.mpr this
    have h4 := List.all_eq_true.mp h3 e hm
    unfold chkE at h4
    split at h4
    · rename_i a ea
      obtain ⟨h5, h6⟩ := Bool.and_eq_true_iff.mp h4
      obtain ⟨h6, h7⟩ := Bool.and_eq_true_iff.mp h6
      exact ⟨a, ea, by simpa using h5, askB_ok hst h6, askB_ok hst h7⟩
    · cases h4
  · cases hc
/-- a new entry -/
def cPut (st : St) (x : At) (lv : List Value → List Value) (d : Addr) (h : Int) (key v : Value) (s : SharedT) (pos : Pos) : Option (SharedT × Pos) := match key with
  | .ref b => match chkFind st x lv d b s pos with
    | true => (seg st plain x lv rU (updateDictKeys d fun es => es.push ⟨h, .ref b, v⟩) s pos).bind fun r => match isN r.1 with
      | true => some r.2
      | false => none
    | false => none
  | _ => none
theorem cPut_ok (hst : st = stepT (denote treeTable) x.p x.w) {d : Addr} {h : Int} {key v : Value} (hc : cPut st x lv d h key v s pos = some (s', p1)) : ∃ b, key = .ref b ∧ Goes x lv nF (dictFind d (.ref b) h) s.abs pos none s.abs pos ∧ Goes x lv 400 (updateDictKeys d fun es => es.push ⟨h, .ref b, v⟩) s.abs pos () s'.abs p1 := by
  unfold cPut at hc
  split at hc
  · rename_i b
    cases h1 : chkFind st x lv d b s pos with
    | false => rw [h1] at hc; cases hc
    | true =>
      rw [h1] at hc
      obtain ⟨r, h2, h3⟩ := Option.bind_eq_some_iff.mp hc
      cases h4 : isN r.1 with
      | false => rw [h4] at h3; cases h3
      | true =>
        rw [h4] at h3
        obtain ⟨f, s2, p2⟩ := r
        cases h3
        have := isN_ok h4
        have ef : f = rU () := this
        rw [ef] at h2
        exact ⟨b, rfl, chkFind_ok hst h1, seg_goes hst (rU_inj ()) h2⟩
  · cases hc
def askO (st : St) (x : At) (lv : List Value → List Value) (m : Sem (Option Value)) (b : String) (s : SharedT) (pos : Pos) : Bool := match seg st ro x lv rO m s pos with
  | some (.ret (.builtin c), _, p) => decide (c = b) && decide (p = pos)
  | _ => false
theorem askO_ok (hst : st = stepT (denote treeTable) x.p x.w) {lv : List Value → List Value} {m : Sem (Option Value)} {b : String} (h : askO st x lv m b s pos = true) : Goes x lv 400 m s.abs pos (some (.builtin b)) s.abs pos := by
  unfold askO at h
  split at h
  · rename_i c s2 p e
    obtain ⟨h1, h2⟩ := Bool.and_eq_true_iff.mp h
    have h2 := of_decide_eq_true h2
    have h1 := of_decide_eq_true h1
    subst h2
    subst h1
    exact seg_goesR (res := rO) (a := some (.builtin c)) hst (rO_inj _) e
  · cases h
/-- a quiet word -/
def askU (st : St) (x : At) (lv : List Value → List Value) (m : Sem Unit) (s : SharedT) (pos : Pos) : Bool := match seg st ro x lv rU m s pos with
  | some (f, _, p) => isN f && decide (p = pos)
  | none => false
theorem askU_ok (hst : st = stepT (denote treeTable) x.p x.w) {m : Sem Unit} (h : askU st x lv m s pos = true) : Goes x lv 400 m s.abs pos () s.abs pos := by
  unfold askU at h
  split at h
  · rename_i f s2 p e
    obtain ⟨h1, h2⟩ := Bool.and_eq_true_iff.mp h
    have h2 := of_decide_eq_true h2
    subst h2
    obtain rfl : f = rU () := isN_ok h1
    exact seg_goesR hst (rU_inj ()) e
  · cases h
/-- the asking of a tuple's hash, ahead of its reduction -/
structure HS (v : Value) where
  F1 : Option Value → Sem Int
  ok1 : pyHashByItsType v = cRoomFor "hash" [v] >>= fun _ => specialOf v (Str.ofString "__hash__") >>= F1
  F2 : Option Value → Sem Int
  ok2 : F1 (some (.builtin "tuple.__hash__")) = specialOf v (Str.ofString "__hash__") >>= F2
  m : Sem (Option Value)
  F3 : Option Value → Sem Int
  ok3 : F2 (some (.builtin "tuple.__hash__")) = m >>= F3
  ok4 : ∀ i t, F3 (some (.int i t)) = pyHashByItsType.reduced i
def hs (v : Value) : HS v := by
  refine ⟨?F1, ?o, ?F2, ?a, ?m, ?F3, ?b, fun i t => ?c⟩
  case o => unfold pyHashByItsType; rfl
  case a =>
    dsimp only
    rw [if_neg (by decide)]
  case b =>
    first | (rw [if_neg (by decide)]; done) | (rw [if_neg (by decide)]; rfl)
  case c => rfl
theorem redH_goes (i : Int) (x : At) (lv : List Value → List Value) (s : Shared) (pos : Pos) : Goes x lv 1 (pyHashByItsType.reduced i) s pos (reduceHash i) s pos := by
  unfold pyHashByItsType.reduced reduceHash
  cases e : (decide (-(2 ^ 63 : Int) ≤ i) && decide (i < 2 ^ 63)) with
  | true => exact (Goes.pure _).le (Nat.zero_le _)
  | false =>
    dsimp only
    simp only [Bool.false_eq_true, if_false]
    exact Goes.bind (n1 := 1) (n2 := 0) Goes.rul (Goes.pure _)
noncomputable def cSet (st : St) (x : At) (lv : List Value → List Value) (d : Addr) (key v : Value) (s : SharedT) (pos : Pos) : Option (SharedT × Pos) := match key with
  | .ref b => (match askU st x (hold [.ref b, v] lv) (cRoomFor "hash" [.ref b]) s pos && askO st x (hold [.ref b, v] lv) (specialOf (.ref b) (Str.ofString "__hash__")) "tuple.__hash__" s pos with
    | true => (seg st plain x (hold [.ref b, v] lv) rO (hs (.ref b)).m s pos).bind fun r => (match r.1 with
      | .ret (.int i _) => cPut st x (hold [.ref b, v] (hold [.ref b, v] lv)) d (reduceHash i) (.ref b) v r.2.1 r.2.2
      | _ => none)
    | false => none)
  | _ => none
def nS : Nat := 1601 + (nF + (1 + 400))
theorem cSet_ok (hst : st = stepT (denote treeTable) x.p x.w) {d : Addr} {key v : Value} (hc : cSet st x lv d key v s pos = some (s', p1)) : Goes x lv nS (dictSet d key v) s.abs pos () s'.abs p1 := by
  unfold cSet at hc
  split at hc
  · rename_i b
    split at hc
    · rename_i hq
      obtain ⟨q1, q2⟩ := Bool.and_eq_true_iff.mp hq
      obtain ⟨⟨f, s2, p2⟩, h1, h2⟩ := Option.bind_eq_some_iff.mp hc
      dsimp only at h2
      split at h2
      · rename_i i t
        obtain ⟨b', eb, g1, g2⟩ := cPut_ok hst h2
        cases eb
        unfold dictSet
        refine Goes.holding (Goes.bind (n1 := 1601) (n2 := nF + (1 + 400)) (a := reduceHash i) (s1 := s2.abs) (p1 := p2) ?_ ?_)
        · show Goes x _ 1601 (pyHashByItsType (.ref b)) s.abs pos (reduceHash i) s2.abs p2
          rw [(hs (.ref b)).ok1]
          refine Goes.bind (n1 := 400) (n2 := 1201) (askU_ok hst q1) ?_
          refine Goes.bind (n1 := 400) (n2 := 801) (askO_ok hst q2) ?_
          rw [(hs (.ref b)).ok2]
          refine Goes.bind (n1 := 400) (n2 := 401) (askO_ok hst q2) ?_
          rw [(hs (.ref b)).ok3]
          refine Goes.bind (n1 := 400) (n2 := 1) (seg_goes (res := rO) (a := some (.int i t)) hst (rO_inj _) h1) ?_
          rw [(hs (.ref b)).ok4]
          exact redH_goes i x (hold [.ref b, v] lv) s2.abs p2
        · unfold dictSetHashed
          refine Goes.holding (Goes.bind (n1 := nF) (n2 := 1 + 400) g1 ?_)
          exact Goes.bind (n1 := 1) (n2 := 400) Goes.rul g2
      · cases h2
    · cases hc
  · cases hc
theorem cPutD_ok (hst : st = stepT (denote treeTable) x.p x.w) {d : Addr} {h : Int} {key v : Value} (hc : cPut st x lv d h key v s pos = some (s', p1)) : Goes x lv (nF + 400) (dictPut d h key v) s.abs pos () s'.abs p1 := by
  obtain ⟨b, rfl, g1, g2⟩ := cPut_ok hst hc
  unfold dictPut
  exact Goes.bind (n1 := nF) (n2 := 400) g1 g2
end
end Hd

set_option maxHeartbeats 1000000
namespace Hd
open PySem PySem.W PySem.Calls PyProof.Rows
abbrev Pr := Sem Value × Sem Value
/-- a long display's pairs -/
noncomputable def cLong (st : St) (x : At) (lv : List Value → List Value) (d : Addr) : List Pr → SharedT → Pos → Option (SharedT × Pos)
  | [], s, p => some (s, p)
  | (k, v) :: r, s, p => (seg st plain x lv rV k s p).bind fun r1 => (asV r1.1).bind fun kv =>
    (seg st plain x (hold [kv] lv) rV v r1.2.1 r1.2.2).bind fun r2 => (asV r2.1).bind fun vv =>
    (cSet st x (hold [kv, vv] lv) d kv vv r2.2.1 r2.2.2).bind fun r3 => cLong st x lv d r r3.1 r3.2
/-- a short display's values -/
def cEval (st : St) (x : At) : (List Value → List Value) → List Pr → SharedT → Pos → Option (List (Value × Value) × SharedT × Pos)
  | _, [], s, p => some ([], s, p)
  | lv, (k, v) :: r, s, p => (seg st plain x lv rV k s p).bind fun r1 => (asV r1.1).bind fun kv =>
    (seg st plain x (hold [kv] lv) rV v r1.2.1 r1.2.2).bind fun r2 => (asV r2.1).bind fun vv =>
    (cEval st x (hold [kv, vv] lv) r r2.2.1 r2.2.2).bind fun r3 => some ((kv, vv) :: r3.1, r3.2)
noncomputable def cSets (st : St) (x : At) (lv : List Value → List Value) (d : Addr) : List (Value × Value) → SharedT → Pos → Option (SharedT × Pos)
  | [], s, p => some (s, p)
  | (k, v) :: r, s, p => (cSet st x lv d k v s p).bind fun r1 => cSets st x lv d r r1.1 r1.2
def nL : Nat := 400 + (400 + nS)
section
variable {st : St} {x : At} {s s' : SharedT} {pos p1 : Pos} {α β : Type}
theorem Goes.each {lv : List Value → List Value} {n1 n2 : Nat} {a : α} {P : List α} {f : α → PUnit → Sem (ForInStep PUnit)} {s1 s2 s3 : Shared} {q1 q2 q3 : Pos} (h1 : Goes x lv n1 (f a PUnit.unit) s1 q1 (.yield PUnit.unit) s2 q2) (h2 : Goes x lv n2 (forIn P PUnit.unit f) s2 q2 PUnit.unit s3 q3) : Goes x lv (n1 + n2) (forIn (a :: P) PUnit.unit f) s1 q1 PUnit.unit s3 q3 := by
  rw [List.forIn_cons]
  exact Goes.bind h1 h2
theorem cLong_ok (hst : st = stepT (denote treeTable) x.p x.w) {lv : List Value → List Value} {d : Addr} : ∀ {ps : List Pr} {s s' : SharedT} {pos p1 : Pos}, cLong st x lv d ps s pos = some (s', p1) →
    Goes x lv (ps.length * nL) (forIn ps PUnit.unit fun (y : Pr) (_ : PUnit) => (do
      let kv ← y.1
      let vv ← holding [kv] y.2
      holding [kv, vv] (dictSet d kv vv)
      Pure.pure (ForInStep.yield PUnit.unit) : Sem (ForInStep PUnit))) s.abs pos PUnit.unit s'.abs p1
  | [], s, s', pos, p1, h => by
    cases h
    exact (Goes.pure _).le (Nat.zero_le _)
  | (k, v) :: ps, s, s', pos, p1, h => by
    obtain ⟨⟨f1, t1, q1⟩, h1, ga⟩ := Option.bind_eq_some_iff.mp h
    obtain ⟨kv, h2, gb⟩ := Option.bind_eq_some_iff.mp ga
    obtain ⟨⟨f2, t2, q2⟩, h3, gc⟩ := Option.bind_eq_some_iff.mp gb
    obtain ⟨vv, h4, gd⟩ := Option.bind_eq_some_iff.mp gc
    obtain ⟨⟨t3, q3⟩, h5, ge⟩ := Option.bind_eq_some_iff.mp gd
    obtain rfl : f1 = rV kv := asV_ok h2
    obtain rfl : f2 = rV vv := asV_ok h4
    have ih := cLong_ok hst ge
    refine (Goes.each (n1 := nL) (n2 := ps.length * nL) ?_ ih).le (by rw [List.length_cons, Nat.succ_mul]; omega)
    refine Goes.bind (n1 := 400) (n2 := 400 + nS) (seg_goes hst (rV_inj kv) h1) ?_
    refine Goes.bind (n1 := 400) (n2 := nS) (Goes.holding (seg_goes hst (rV_inj vv) h3)) ?_
    exact Goes.bind (n1 := nS) (n2 := 0) (Goes.holding (cSet_ok hst h5)) (Goes.pure _)
theorem cSets_ok (hst : st = stepT (denote treeTable) x.p x.w) {lv : List Value → List Value} {d : Addr} : ∀ {ps : List (Value × Value)} {s s' : SharedT} {pos p1 : Pos}, cSets st x lv d ps s pos = some (s', p1) →
    Goes x lv (ps.length * nS) (forIn ps PUnit.unit fun (y : Value × Value) (_ : PUnit) => (do
      dictSet d y.1 y.2
      Pure.pure (ForInStep.yield PUnit.unit) : Sem (ForInStep PUnit))) s.abs pos PUnit.unit s'.abs p1
  | [], s, s', pos, p1, h => by
    cases h
    exact (Goes.pure _).le (Nat.zero_le _)
  | (k, v) :: ps, s, s', pos, p1, h => by
    obtain ⟨⟨t3, q3⟩, h5, ga⟩ := Option.bind_eq_some_iff.mp h
    have ih := cSets_ok hst ga
    refine (Goes.each (n1 := nS) (n2 := ps.length * nS) ?_ ih).le (by rw [List.length_cons, Nat.succ_mul]; omega)
    exact Goes.bind (n1 := nS) (n2 := 0) (cSet_ok hst h5) (Goes.pure _)
theorem cEval_len : ∀ {ps : List Pr} {lv : List Value → List Value} {s s' : SharedT} {pos p1 : Pos} {vs : List (Value × Value)}, cEval st x lv ps s pos = some (vs, s', p1) → vs.length = ps.length
  | [], lv, s, s', pos, p1, vs, h => by cases h; rfl
  | (k, v) :: ps, lv, s, s', pos, p1, vs, h => by
    obtain ⟨⟨f1, t1, q1⟩, h1, ga⟩ := Option.bind_eq_some_iff.mp h
    obtain ⟨kv, h2, gb⟩ := Option.bind_eq_some_iff.mp ga
    obtain ⟨⟨f2, t2, q2⟩, h3, gc⟩ := Option.bind_eq_some_iff.mp gb
    obtain ⟨vv, h4, gd⟩ := Option.bind_eq_some_iff.mp gc
    obtain ⟨⟨vs', t3, q3⟩, h5, ge⟩ := Option.bind_eq_some_iff.mp gd
    have e : (kv, vv) :: vs' = vs := congrArg Prod.fst (Option.some.inj ge)
    rw [← e, List.length_cons, List.length_cons, cEval_len h5]
theorem cEval_ok (hst : st = stepT (denote treeTable) x.p x.w) : ∀ {ps : List Pr} {lv : List Value → List Value} {s s' : SharedT} {pos p1 : Pos} {vs : List (Value × Value)}, cEval st x lv ps s pos = some (vs, s', p1) →
    Goes x lv (ps.length * 800) (evalPairs ps) s.abs pos vs s'.abs p1
  | [], lv, s, s', pos, p1, vs, h => by
    cases h
    exact (Goes.pure _).le (Nat.zero_le _)
  | (k, v) :: ps, lv, s, s', pos, p1, vs, h => by
    obtain ⟨⟨f1, t1, q1⟩, h1, ga⟩ := Option.bind_eq_some_iff.mp h
    obtain ⟨kv, h2, gb⟩ := Option.bind_eq_some_iff.mp ga
    obtain ⟨⟨f2, t2, q2⟩, h3, gc⟩ := Option.bind_eq_some_iff.mp gb
    obtain ⟨vv, h4, gd⟩ := Option.bind_eq_some_iff.mp gc
    obtain ⟨⟨vs', t3, q3⟩, h5, ge⟩ := Option.bind_eq_some_iff.mp gd
    obtain rfl : f1 = rV kv := asV_ok h2
    obtain rfl : f2 = rV vv := asV_ok h4
    cases ge
    have ih := cEval_ok hst h5
    refine (Goes.bind (n1 := 400) (n2 := 400 + ps.length * 800) (seg_goes hst (rV_inj kv) h1) ?_).le (by rw [List.length_cons, Nat.succ_mul]; omega)
    refine Goes.bind (n1 := 400) (n2 := ps.length * 800) (Goes.holding (seg_goes hst (rV_inj vv) h3)) ?_
    exact Goes.bind (n1 := ps.length * 800) (n2 := 0) (Goes.holding ih) (Goes.pure _)
end
/-- {..} of up to seventeen pairs -/
noncomputable def cSub (st : St) (x : At) (lv : List Value → List Value) (ps : List Pr) (s : SharedT) (p : Pos) : Option (Addr × SharedT × Pos) :=
  (seg st plain x lv rA (PySem.alloc { cls := .type "dict", data := .dict #[] }) s p).bind fun r => (asA r.1).bind fun d =>
  match Nat.ble ps.length 15 with
  | true => (cEval st x (hold [.ref d] lv) ps r.2.1 r.2.2).bind fun r2 => (cSets st x (hold (r2.1.flatMap fun y => [y.1, y.2]) (hold [.ref d] lv)) d r2.1 r2.2.1 r2.2.2).bind fun r3 => some (d, r3)
  | false => (cLong st x (hold [.ref d] lv) d ps r.2.1 r.2.2).bind fun r3 => some (d, r3)
def nB (n : Nat) : Nat := 400 + (1 + n * nL + n * 800 + n * nS)
section
variable {st : St} {x : At} {lv : List Value → List Value} {s s' : SharedT} {pos p1 : Pos}
theorem cSub_ok (hst : st = stepT (denote treeTable) x.p x.w) {ps : List Pr} {d : Addr} (h : cSub st x lv ps s pos = some (d, s', p1)) : Goes x lv (nB ps.length) (subDict ps) s.abs pos d s'.abs p1 := by
  obtain ⟨⟨f1, t1, q1⟩, h1, ga⟩ := Option.bind_eq_some_iff.mp h
  obtain ⟨d', h2, gb⟩ := Option.bind_eq_some_iff.mp ga
  obtain rfl : f1 = rA d' := asA_ok h2
  unfold subDict
  cases hb : Nat.ble ps.length 15 with
  | true =>
    rw [hb] at gb
    obtain ⟨⟨vs, t2, q2⟩, h3, gc⟩ := Option.bind_eq_some_iff.mp gb
    obtain ⟨⟨t3, q3⟩, h4, gd⟩ := Option.bind_eq_some_iff.mp gc
    cases gd
    have hl := cEval_len h3
    refine (Goes.bind (n1 := 400) (n2 := ps.length * 800 + ps.length * nS) (seg_goes hst (rA_inj d) h1) ?_).le (by unfold nB; omega)
    refine Goes.bind (a := ()) (n1 := ps.length * 800 + ps.length * nS) (n2 := 0) (Goes.holding ?_) (Goes.pure _)
    rw [if_pos (Nat.le_of_ble_eq_true hb)]
    refine Goes.bind (n1 := ps.length * 800) (n2 := ps.length * nS) (cEval_ok hst h3) ?_
    have := cSets_ok hst h4
    rw [hl] at this
    exact Goes.holding (Goes.bind (n2 := 0) this (Goes.pure _))
  | false =>
    rw [hb] at gb
    obtain ⟨⟨t3, q3⟩, h4, gc⟩ := Option.bind_eq_some_iff.mp gb
    cases gc
    refine (Goes.bind (n1 := 400) (n2 := 1 + ps.length * nL) (seg_goes hst (rA_inj d) h1) ?_).le (by unfold nB; omega)
    refine Goes.bind (a := ()) (n1 := 1 + ps.length * nL) (n2 := 0) (Goes.holding ?_) (Goes.pure _)
    rw [if_neg (fun z => by rw [Nat.ble_eq_true_of_le z] at hb; cases hb)]
    exact Goes.bind (n1 := 1) (n2 := ps.length * nL) Goes.rul (Goes.bind (n2 := 0) (cLong_ok hst h4) (Goes.pure _))
end
end Hd

set_option maxHeartbeats 1000000
namespace Hd
open PySem PySem.W PySem.Calls PyProof.Rows
/-- what a display does with a run of pairs -/
def flushS (run : List Pr) (main : Option Addr) : Sem (Option Addr) :=
    if run.isEmpty = true then Pure.pure main
    else
      match main with
      | none => do
        let a ← subDict run
        Pure.pure (some a)
      | some d => do
        let sub ← PySem.holding [Value.ref d] (subDict run)
        (PySem.holding [Value.ref d, Value.ref sub] (mergeMapping d (Value.ref sub) false)).onRaise fun x => do
            let _ ← PySem.holding [Value.ref d, x] (runValue (Code.builtin "proto.let_go" { }))
            Pure.pure ()
        Pure.pure (some d)
def itF (y : Option (Sem Value) × Sem Value) (z : Option Addr × List Pr) : Sem (ForInStep (Option Addr × List Pr)) := match y with
  | (some k, v) => if ((z.2 ++ [(k, v)]).length == 17) = true then do
      let main ← flushS (z.2 ++ [(k, v)]) z.1
      Pure.pure (ForInStep.yield (main, []))
    else Pure.pure (ForInStep.yield (z.1, z.2 ++ [(k, v)]))
  | (none, _) => Pure.pure (ForInStep.yield z)
def pairsI (ps : List Pr) : List (Option (Sem Value) × Sem Value) := ps.map fun y => (some y.1, y.2)
/-- a display of pairs alone -/
def dispS (ps : List Pr) : Sem Value := do
  let z ← forIn (pairsI ps) ((none, []) : Option Addr × List Pr) itF
  let m ← flushS z.2 z.1
  match m with
  | some d => Pure.pure (Value.ref d)
  | none => newDict
theorem forIn_same {α σ : Type} {l : List α} {f g : α → σ → Sem (ForInStep σ)} (h : ∀ a ∈ l, ∀ z, f a z = g a z) : ∀ z : σ, forIn l z f = forIn l z g := by
  induction l with
  | nil => intro z; rfl
  | cons a l ih =>
    intro z
    rw [List.forIn_cons, List.forIn_cons, h a (List.mem_cons_self ..) z]
    refine congrArg _ (funext fun r => ?_)
    cases r with
    | done b => rfl
    | yield b => exact ih (fun a ha z => h a (List.mem_cons_of_mem _ ha) z) b
theorem disp_eq (ps : List Pr) : dictDisplay (pairsI ps) = dispS ps := by
  unfold dictDisplay dispS
  dsimp only
  refine congr (congrArg _ (forIn_same (fun a ha z => ?_) _)) (funext fun z => ?_)
  · obtain ⟨y, _, rfl⟩ := List.mem_map.mp ha
    obtain ⟨m, r⟩ := z
    rfl
  · rfl
def mBody (d a : Addr) (ep : Nat) (i : Nat) (_ : PUnit) : Sem (ForInStep PUnit) := do
      let es ← dictEntries a
      match es[i]? with
        | some e => do
          PySem.holding [e.key, e.val] (dictPut d e.hash e.key e.val)
          let e2 ← dictEpoch a
          if (e2 != ep) = true then do
              unsupported "dict.changed-during-merge"
              Pure.pure (ForInStep.yield PUnit.unit)
            else Pure.pure (ForInStep.yield PUnit.unit)
        | none => do
          unsupported "dict.changed-during-merge"
          Pure.pure (ForInStep.yield PUnit.unit)
def cMergeL (st : St) (x : At) (lv : List Value → List Value) (d a : Addr) (ep : Nat) : List Nat → SharedT → Pos → Option (SharedT × Pos)
  | [], s, p => some (s, p)
  | i :: r, s, p => match HandSHeadRun.getT s a with
    | some ⟨_, _, .dict es _, _⟩ => (match es[i]? with
      | some e => (cPut st x (hold [e.key, e.val] lv) d e.hash e.key e.val s p).bind fun r1 => (match HandSHeadRun.getT r1.1 a with
        | some ⟨_, _, .dict _ ep', _⟩ => (match Nat.beq ep' ep with
          | true => cMergeL st x lv d a ep r r1.1 r1.2
          | false => none)
        | _ => none)
      | none => none)
    | _ => none
def cMerge (st : St) (x : At) (lv : List Value → List Value) (d a : Addr) (s : SharedT) (p : Pos) : Option (SharedT × Pos) :=
  match askB st x lv (isInstance (.ref a) (.type "dict")) true s p && (askO st x lv (specialOf (.ref a) (Str.ofString "__iter__")) "dict.__iter__" s p && !(a == sysModules)) with
  | true => (match HandSHeadRun.getT s d with
    | some ⟨_, _, .dict es0 _, _⟩ => (match es0.isEmpty with
      | false => (match HandSHeadRun.getT s a with
        | some ⟨_, _, .dict es ep, _⟩ => (match Nat.ble es.size 20 with
          | true => cMergeL st x lv d a ep (List.range es.size) s p
          | false => none)
        | _ => none)
      | true => none)
    | _ => none)
  | false => none
noncomputable def cFlush (st : St) (x : At) (lv : List Value → List Value) (run : List Pr) (main : Option Addr) (s : SharedT) (p : Pos) : Option (Option Addr × SharedT × Pos) := match run with
  | [] => some (main, s, p)
  | y :: r => match Nat.ble (y :: r).length 20 with
   | false => none
   | true => match main with
    | none => (cSub st x lv (y :: r) s p).bind fun r1 => some (some r1.1, r1.2)
    | some d => (cSub st x (hold [.ref d] lv) (y :: r) s p).bind fun r1 => (cMerge st x (hold [.ref d, .ref r1.1] lv) d r1.1 r1.2.1 r1.2.2).bind fun r2 => some (some d, r2)
noncomputable def cGath (st : St) (x : At) (lv : List Value → List Value) : List Pr → Option Addr → List Pr → SharedT → Pos → Option ((Option Addr × List Pr) × SharedT × Pos)
  | [], main, run, s, p => some ((main, run), s, p)
  | y :: r, main, run, s, p => match (run ++ [y]).length == 17 with
    | true => (cFlush st x lv (run ++ [y]) main s p).bind fun r1 => cGath st x lv r r1.1 [] r1.2.1 r1.2.2
    | false => cGath st x lv r main (run ++ [y]) s p
noncomputable def cDisp (st : St) (x : At) (lv : List Value → List Value) (ps : List Pr) (s : SharedT) (p : Pos) : Option (Addr × SharedT × Pos) :=
  (cGath st x lv ps none [] s p).bind fun r => (cFlush st x lv r.1.2 r.1.1 r.2.1 r.2.2).bind fun r2 => r2.1.bind fun d => some (d, r2.2)
section
variable {st : St} {x : At} {s s' : SharedT} {pos p1 : Pos}
theorem Goes.cong {α : Type} {lv : List Value → List Value} {n : Nat} {m m' : Sem α} {a : α} {s1 s2 : Shared} {q1 q2 : Pos} (e : m = m') (h : Goes x lv n m' s1 q1 a s2 q2) : Goes x lv n m s1 q1 a s2 q2 := by rw [e]; exact h
theorem Goes.eachS {α σ : Type} {lv : List Value → List Value} {n1 n2 : Nat} {a : α} {P : List α} {z z1 z2 : σ} {f : α → σ → Sem (ForInStep σ)} {s1 s2 s3 : Shared} {q1 q2 q3 : Pos} (h1 : Goes x lv n1 (f a z) s1 q1 (.yield z1) s2 q2) (h2 : Goes x lv n2 (forIn P z1 f) s2 q2 z2 s3 q3) : Goes x lv (n1 + n2) (forIn (a :: P) z f) s1 q1 z2 s3 q3 := by
  rw [List.forIn_cons]
  exact Goes.bind h1 h2
def nML : Nat := nF + 402
def nM : Nat := 803 + 20 * nML
theorem cMergeL_ok (hst : st = stepT (denote treeTable) x.p x.w) {lv : List Value → List Value} {d a : Addr} {ep : Nat} : ∀ {is : List Nat} {s s' : SharedT} {pos p1 : Pos}, cMergeL st x lv d a ep is s pos = some (s', p1) →
    Goes x lv (is.length * nML) (forIn is PUnit.unit (mBody d a ep)) s.abs pos PUnit.unit s'.abs p1
  | [], s, s', pos, p1, h => by
    cases h
    exact (Goes.pure _).le (Nat.zero_le _)
  | i :: is, s, s', pos, p1, h => by
    unfold cMergeL at h
    split at h
    · rename_i c od es ep0 sl hg
      split at h
      · rename_i e he
        obtain ⟨⟨t1, q1⟩, g1, ga⟩ := Option.bind_eq_some_iff.mp h
        dsimp only at ga
        split at ga
        · rename_i c2 od2 es2 ep2 sl2 hg2
          split at ga
          · rename_i hb
            have ih := cMergeL_ok hst ga
            have hb' : ep2 = ep := Nat.eq_of_beq_eq_true hb
            rw [HandSHeadRun.getT_eq] at hg hg2
            refine (Goes.eachS (n1 := 1 + ((nF + 400) + (1 + 0))) ?_ ih).le (by rw [List.length_cons, Nat.succ_mul]; unfold nML; omega)
            unfold mBody
            refine Goes.bind (Goes.entries hg rfl) ?_
            rw [he]
            refine Goes.bind (Goes.holding (cPutD_ok hst g1)) ?_
            refine Goes.bind (n2 := 0) (Goes.epoch hg2 rfl) ?_
            rw [hb', if_neg (by simp)]
            exact Goes.pure _
          · cases ga
        · cases ga
      · cases h
    · cases h
theorem cMerge_ok (hst : st = stepT (denote treeTable) x.p x.w) {lv : List Value → List Value} {d a : Addr} (h : cMerge st x lv d a s pos = some (s', p1)) : Goes x lv nM (mergeMapping d (.ref a) false) s.abs pos () s'.abs p1 := by
  unfold cMerge at h
  split at h
  · rename_i hq
    obtain ⟨h1, h2⟩ := Bool.and_eq_true_iff.mp hq
    obtain ⟨h2, h3⟩ := Bool.and_eq_true_iff.mp h2
    have h3' : (a == sysModules) = false := by cases e : a == sysModules <;> simp_all
    split at h
    · rename_i c od es0 ep0 sl hg
      split at h
      · rename_i hem
        split at h
        · rename_i c2 od2 es ep sl2 hg2
          split at h
          · rename_i hsz
            have hsz' := Nat.le_of_ble_eq_true hsz
            have ih := cMergeL_ok hst h
            rw [List.length_range] at ih
            have ih := ih.le (Nat.mul_le_mul_right nML hsz')
            rw [HandSHeadRun.getT_eq] at hg hg2
            refine Goes.le (n := 400 + (400 + (0 + (1 + (1 + (1 + (20 * nML + 0))))))) ?_ (by unfold nM; omega)
            unfold mergeMapping
            refine Goes.bind (askB_ok hst h1) ?_
            rw [if_pos rfl]
            refine Goes.bind (askO_ok hst h2) ?_
            refine Goes.bind (Goes.pure _) ?_
            dsimp only
            rw [show (some (Value.builtin "dict.__iter__") == some (Value.builtin "dict.__iter__")) = true from rfl]
            dsimp only
            rw [h3', if_neg (by simp)]
            refine Goes.bind (Goes.entries hg rfl) ?_
            rw [hem, if_neg (by simp)]
            refine Goes.bind (Goes.entries hg2 rfl) ?_
            refine Goes.bind (Goes.epoch hg2 rfl) ?_
            simp only [Bool.false_eq_true, if_false]
            refine Goes.bind (n1 := 20 * nML) (a := PUnit.unit) ?_ (Goes.pure _)
            refine Goes.cong (forIn_same (fun i _ z => ?_) _) ih
            unfold mBody
            refine congrArg _ (funext fun es => ?_)
            cases es[i]? <;> rfl
          · cases h
        · cases h
      · cases h
    · cases h
  · cases h
def nFl : Nat := nB 20 + nM
theorem nB_le {n : Nat} (h : n ≤ 20) : nB n ≤ nB 20 := by
  have h1 := Nat.mul_le_mul_right nL h
  have h2 := Nat.mul_le_mul_right nS h
  unfold nB; omega
theorem cFlush_ok (hst : st = stepT (denote treeTable) x.p x.w) {lv : List Value → List Value} {run : List Pr} {main m2 : Option Addr} (h : cFlush st x lv run main s pos = some (m2, s', p1)) : Goes x lv nFl (flushS run main) s.abs pos m2 s'.abs p1 := by
  cases run with
  | nil =>
    cases h
    exact (Goes.pure _).le (Nat.zero_le _)
  | cons y r =>
    unfold flushS
    rw [if_neg (by simp)]
    unfold cFlush at h
    dsimp only at h
    cases hb : Nat.ble (y :: r).length 20 with
    | false => rw [hb] at h; cases h
    | true =>
    rw [hb] at h
    have hle := nB_le (Nat.le_of_ble_eq_true hb)
    cases main with
    | none =>
      obtain ⟨⟨d, t1, q1⟩, h1, ga⟩ := Option.bind_eq_some_iff.mp h
      cases ga
      refine Goes.le (n := nB (y :: r).length + 0) (k := nFl) ?_ (by unfold nFl; omega)
      dsimp only
      exact Goes.bind (cSub_ok hst h1) (Goes.pure _)
    | some d =>
      obtain ⟨⟨b, t1, q1⟩, h1, ga⟩ := Option.bind_eq_some_iff.mp h
      obtain ⟨⟨t2, q2⟩, h2, gb⟩ := Option.bind_eq_some_iff.mp ga
      cases gb
      have hm := cMerge_ok hst h2
      refine Goes.le (n := nB (y :: r).length + (nM + 0)) (k := nFl) ?_ (by unfold nFl; omega)
      dsimp only
      refine Goes.bind (Goes.holding (cSub_ok hst h1)) ?_
      refine Goes.bind (a := ()) ?_ (Goes.pure _)
      exact Goes.onRaise (Goes.holding hm)
theorem cGath_ok (hst : st = stepT (denote treeTable) x.p x.w) {lv : List Value → List Value} : ∀ {ps run : List Pr} {main : Option Addr} {z : Option Addr × List Pr} {s s' : SharedT} {pos p1 : Pos}, cGath st x lv ps main run s pos = some (z, s', p1) → Goes x lv (ps.length * nFl) (forIn (pairsI ps) (main, run) itF) s.abs pos z s'.abs p1
  | [], run, main, z, s, s', pos, p1, h => by
    cases h
    exact (Goes.pure _).le (Nat.zero_le _)
  | y :: ps, run, main, z, s, s', pos, p1, h => by
    unfold cGath at h
    split at h
    · rename_i hl
      obtain ⟨⟨m2, t1, q1⟩, h1, ga⟩ := Option.bind_eq_some_iff.mp h
      have g1 := cFlush_ok hst h1
      have g2 := cGath_ok hst ga
      refine (Goes.eachS (n1 := nFl + 0) (z1 := (m2, [])) ?_ g2).le (by rw [List.length_cons, Nat.succ_mul]; omega)
      unfold itF
      dsimp only
      rw [if_pos hl]
      exact Goes.bind g1 (Goes.pure _)
    · rename_i hl
      have g2 := cGath_ok hst h
      refine (Goes.eachS (n1 := 0) (z1 := (main, run ++ [y])) ?_ g2).le (by rw [List.length_cons, Nat.succ_mul]; omega)
      unfold itF
      dsimp only
      rw [if_neg (by simpa using hl)]
      exact Goes.pure _
theorem cDisp_ok (hst : st = stepT (denote treeTable) x.p x.w) {lv : List Value → List Value} {ps : List Pr} {d : Addr} (h : cDisp st x lv ps s pos = some (d, s', p1)) : Goes x lv (ps.length * nFl + nFl) (dictDisplay (pairsI ps)) s.abs pos (.ref d) s'.abs p1 := by
  obtain ⟨⟨⟨m, run⟩, t1, q1⟩, h1, ga⟩ := Option.bind_eq_some_iff.mp h
  obtain ⟨⟨m2, t2, q2⟩, h2, gb⟩ := Option.bind_eq_some_iff.mp ga
  obtain ⟨d2, h3, gc⟩ := Option.bind_eq_some_iff.mp gb
  cases gc
  have g1 := cGath_ok hst h1
  have g2 := cFlush_ok hst h2
  rw [disp_eq]
  have h3' : m2 = some d := h3
  subst h3'
  exact Goes.bind g1 (Goes.bind (n2 := 0) g2 (Goes.pure _))
end
end Hd

set_option maxHeartbeats 1000000
namespace Hd
open PySem PySem.W PySem.Calls PyProof.Rows
/-- a written dict's pairs -/
def psOf (env : Env) (dpos : Pos) : List (Option Expr) → List Expr → List Pr
  | some k :: ks, v :: vs => (eval k env, do let x ← eval v env; standAt dpos; Pure.pure x) :: psOf env dpos ks vs
  | _, _ => []
noncomputable def cAsg (st : St) (x : At) (env : Env) (X : Str) (pos' : Pos) (ps : List Pr) (dpos pos : Pos) (s : SharedT) (p : Pos) : Option (SharedT × Pos) :=
  (seg st plain x id rU (standAt pos) s p).bind fun r1 => (seg st plain x id rU (standAt dpos) r1.2.1 r1.2.2).bind fun r2 =>
  (cDisp st x id ps r2.2.1 r2.2.2).bind fun r3 => (seg st plain x id id (do standAt pos'; bindName env X (.ref r3.1); Pure.pure Flow.next) r3.2.1 r3.2.2).bind fun r4 => match isN r1.1 && (isN r2.1 && isN r4.1) with
  | true => some r4.2
  | false => none
def nA (n : Nat) : Nat := 400 + (400 + (n * nFl + nFl) + 400)
section
variable {st : St} {x : At} {s s' : SharedT} {pos p1 : Pos}
theorem cAsg_ok (hst : st = stepT (denote treeTable) x.p x.w) {env : Env} {X : Str} {pos' dpos pos0 : Pos} {keys : List (Option Expr)} {values : List Expr} {ps : List Pr}
    (hsw : swapsWith (.Dict keys values dpos) (some (.Name X pos')) pos0.line env = Pure.pure false)
    (hps : (evalEachOpt keys env).zip ((evalEach values env).map fun v => (do let x ← v; standAt dpos; Pure.pure x : Sem Value)) = pairsI ps)
    (h : cAsg st x env X pos' ps dpos pos0 s pos = some (s', p1)) : Goes x id (nA ps.length) (exec (.Assign [.Name X pos'] (.Dict keys values dpos) pos0) env) s.abs pos .next s'.abs p1 := by
  obtain ⟨⟨f1, t1, q1⟩, h1, ga⟩ := Option.bind_eq_some_iff.mp h
  obtain ⟨⟨f2, t2, q2⟩, h2, gb⟩ := Option.bind_eq_some_iff.mp ga
  obtain ⟨⟨d, t3, q3⟩, h3, gc⟩ := Option.bind_eq_some_iff.mp gb
  obtain ⟨⟨f4, t4, q4⟩, h4, gd⟩ := Option.bind_eq_some_iff.mp gc
  dsimp only at gd
  split at gd
  · rename_i hq
    obtain ⟨i1, i2⟩ := Bool.and_eq_true_iff.mp hq
    obtain ⟨i2, i4⟩ := Bool.and_eq_true_iff.mp i2
    obtain rfl : f1 = rU () := isN_ok i1
    obtain rfl : f2 = rU () := isN_ok i2
    obtain rfl : f4 = .next := isN_ok i4
    cases gd
    rw [exec_Assign_Name env X pos' (.Dict keys values dpos) pos0 hsw, arm_eval_Dict, hps]
    refine Goes.bind (n1 := 400) (n2 := 400 + (ps.length * nFl + nFl) + 400) (seg_goes hst (rU_inj ()) h1) ?_
    refine Goes.bind (n1 := 400 + (ps.length * nFl + nFl)) (n2 := 400) (Goes.bind (seg_goes hst (rU_inj ()) h2) (cDisp_ok hst h3)) ?_
    exact seg_goes (res := id) hst (fun b e => e) h4
  · cases gd
end
/-- so many steps -/
def goK (st : St) (n0 : Nat) (ann : Option Value) : Nat → SharedT → Thread → Option (SharedT × Thread)
  | 0, s, t => some (s, t)
  | m + 1, s, t => match through t with
    | true => none
    | false => match stepOk n0 ann t with
      | false => none
      | true => match st s t with
        | some (s', t') => HandSHeadRun.frS s' fun s' => goK st n0 ann m s' t'
        | none => none
theorem goK_ok {tb : String → Option Builtin} {p : Program} {w : World} {n0 : Nat} {ann : Option Value} : ∀ {m : Nat} {s s' : SharedT} {t t' : Thread}, goK (stepT (denote tb) p w) n0 ann m s t = some (s', t') → topGo tb p w n0 ann m s.abs t = some (s'.abs, t')
  | 0, _, _, _, _, h => by cases h; rfl
  | m + 1, s, s', t, t', h => by
    unfold goK at h
    unfold topGo
    cases ht : through t with
    | true => rw [ht] at h; cases h
    | false =>
      rw [ht] at h
      cases hk : stepOk n0 ann t with
      | false => rw [hk] at h; cases h
      | true =>
        rw [hk] at h
        cases hs : stepT (denote tb) p w s t with
        | none => rw [hs] at h; cases h
        | some r =>
          obtain ⟨s2, t2⟩ := r
          rw [hs] at h
          have h3 : HandSHeadRun.frS s2 (fun s' => goK (stepT (denote tb) p w) n0 ann m s' t2) = some (s', t') := h
          rw [HandSHeadRun.frS_eq] at h3
          have := goK_ok h3
          show (match step (denote tb) p w s.abs t with
            | .go s' t' => topGo tb p w n0 ann m s' t'
            | .halt _ _ => none) = _
          rw [stepT_spec hs]
          exact this
/-- what is written of a top with one such statement -/
structure Cut where
  env : Env
  l1 : List Stmt
  l2 : List Stmt
  X : Str
  pos' : Pos
  keys : List (Option Expr)
  values : List Expr
  dpos : Pos
  pos : Pos
  k1 : Nat
  k2 : Nat
  k3 : Nat
  q : Pos
  apos : Pos
abbrev Cut.stmt (c : Cut) : Stmt := .Assign [.Name c.X c.pos'] (.Dict c.keys c.values c.dpos) c.pos
abbrev Cut.body (c : Cut) : List Stmt := c.l1 ++ (c.stmt :: c.l2)
abbrev Cut.code (c : Cut) : Code := .body c.body c.env
abbrev Cut.ps (c : Cut) : List Pr := psOf c.env c.dpos c.keys c.values
def pieceF (st : St) (n0 : Nat) (ann : Option Value) (m : Nat) (s : SharedT) (t : Thread) : Option (SharedT × Pos) := match segF st plain n0 ann m s t with
  | some (f, s', p) => (match isN f with
    | true => HandSHeadRun.frS s' fun s' => some (s', p)
    | false => none)
  | none => none
/-- the state ahead of the body, and its place -/
noncomputable def cut1 (c : Cut) (st : St) (p : Program) (w : World) (os : OsState) : Option ((SharedT × Thread) × Nat) := match HandSHeadRun.putAll (boot_heap w.params).objs.toList .nil 0 with
  | some (t, n) => HandSHeadRun.frNat n fun n0 => (goK st n0 (HandSHeadRun.bootAnn w) c.k1 (HandSHeadRun.bootT w os (t, n0)) (topStub p)).map fun r => (r, n0)
  | none => none
/-- the state behind the top -/
noncomputable def cutF (c : Cut) (st : St) (p : Program) (w : World) (os : OsState) : Option SharedT := (cut1 c st p w os).bind fun r1 =>
  (pieceF st r1.2 (HandSHeadRun.bootAnn w) c.k2 r1.1.1 (blockOf c.body c.env c.code c.apos [topFrame c.q])).bind fun r2 =>
  (pieceF st r1.2 (HandSHeadRun.bootAnn w) c.k3 r2.1 (piecesOf c.l1 c.env c.code r2.2 [topFrame c.q])).bind fun r3 =>
  (cAsg st ⟨p, w, r1.2, HandSHeadRun.bootAnn w, c.code, c.q⟩ c.env c.X c.pos' c.ps c.dpos c.pos r3.1 r3.2).bind fun r4 =>
  (pieceF st r1.2 (HandSHeadRun.bootAnn w) c.k3 r4.1 (piecesOf c.l2 c.env c.code r4.2 [topFrame c.q])).bind fun r5 =>
  HandSHeadRun.goF st r1.2 (HandSHeadRun.bootAnn w) 40 r5.1 ⟨doneF .next, c.code, r5.2, [topFrame c.q]⟩
section
variable {c : Cut} {p : Program} {w : World} {os : OsState} {n0 : Nat} {ann : Option Value}
theorem pieceF_ok {m : Nat} {s s' : SharedT} {cur : Sem Fin} {co : Code} {pos pos' q : Pos} (h : pieceF (stepT (denote treeTable) p w) n0 ann m s ⟨cur, co, pos, [topFrame q]⟩ = some (s', pos')) : segRun treeTable p w n0 ann 1 m s.abs ⟨cur, co, pos, [topFrame q]⟩ = some (.next, s'.abs, co, pos') := by
  unfold pieceF at h
  split at h
  · rename_i f s2 p2 e
    split at h
    · rename_i hf
      rw [HandSHeadRun.frS_eq] at h
      cases h
      obtain rfl := isN_ok hf
      exact segF_ok rfl (List.cons_ne_nil _ _) e
    · cases h
  · cases h
def Cut.N (c : Cut) : Nat := c.k1 + (c.k2 + (c.k3 + (nA c.ps.length + (c.k3 + 40))))
theorem cutF_ok {s : SharedT} (hsw : swapsWith (.Dict c.keys c.values c.dpos) (some (.Name c.X c.pos')) c.pos.line c.env = Pure.pure false)
    (hps : (evalEachOpt c.keys c.env).zip ((evalEach c.values c.env).map fun v => (do let x ← v; standAt c.dpos; Pure.pure x : Sem Value)) = pairsI c.ps)
    (hth : (cut1 c (stepT (denote treeTable) p w) p w os).map (fun r => r.1.2) = some ⟨denote treeTable c.code, c.code, c.apos, [topFrame c.q]⟩)
    (h : cutF c (stepT (denote treeTable) p w) p w os = some s) :
    topRun treeTable p w (boot_heap w.params).objs.size (HandSHeadRun.bootAnn w) c.N ⟨boot_heap w.params, #[], boot_drawn, boot_toks, os⟩ (topStub p) = some s.abs := by
  obtain ⟨⟨⟨t1, th⟩, n0⟩, g1, ga⟩ := Option.bind_eq_some_iff.mp h
  rw [g1] at hth
  have hth' : th = ⟨denote treeTable c.code, c.code, c.apos, [topFrame c.q]⟩ := Option.some.inj hth
  subst hth'
  obtain ⟨⟨t2, q2⟩, g2, gb⟩ := Option.bind_eq_some_iff.mp ga
  obtain ⟨⟨t3, q3⟩, g3, gc⟩ := Option.bind_eq_some_iff.mp gb
  obtain ⟨⟨t4, q4⟩, g4, gd⟩ := Option.bind_eq_some_iff.mp gc
  obtain ⟨⟨t5, q5⟩, g5, g6⟩ := Option.bind_eq_some_iff.mp gd
  unfold cut1 at g1
  cases e : HandSHeadRun.putAll (boot_heap w.params).objs.toList .nil 0 with
  | none => rw [e] at g1; cases g1
  | some r =>
    obtain ⟨t, n⟩ := r
    rw [e] at g1
    have h1 : (HandSHeadRun.frNat n fun n0 => (goK (stepT (denote treeTable) p w) n0 (HandSHeadRun.bootAnn w) c.k1 (HandSHeadRun.bootT w os (t, n0)) (topStub p)).map fun r => (r, n0)) = some ((t1, ⟨denote treeTable c.code, c.code, c.apos, [topFrame c.q]⟩), n0) := g1
    rw [HandSHeadRun.frNat_eq] at h1
    obtain ⟨r0, h2, h3⟩ := Option.map_eq_some_iff.mp h1
    obtain ⟨rfl, rfl⟩ := Prod.mk.inj h3
    have eh := HandSHeadRun.putAll_heap e
    have en : (boot_heap w.params).objs.size = n := by
      rw [← eh]
      exact absHeap_size t n _
    have eb : (HandSHeadRun.bootT w os (t, n)).abs = ⟨boot_heap w.params, #[], boot_drawn, boot_toks, os⟩ := by
      show (⟨absHeap t n (boot_heap w.params).life, #[], boot_drawn, boot_toks, os⟩ : Shared) = _
      rw [eh]
    have k1 := goK_ok h2
    rw [eb] at k1
    rw [en]
    unfold Cut.N
    refine go_top k1 (piece_block (pieceF_ok g2) (piece_app (pieceF_ok g3) ?_))
    have k4 := cAsg_ok (x := ⟨p, w, n, HandSHeadRun.bootAnn w, c.code, c.q⟩) rfl hsw hps g4
    unfold restOf
    rw [execs_cons_wrap]
    refine k4 (fun f => match f with | .next => (execs c.l2 c.env).wrap doneF (leaveH c.env) id id | f => doneF f) (leaveH c.env) (c.k3 + 40) s.abs ?_
    have := piece_app (rest := []) (pieceF_ok g5) (piece_nil (HandSHeadRun.goF_ok g6))
    rw [List.append_nil] at this
    exact this
end
end Hd

set_option maxHeartbeats 1000000
namespace Hd
open PySem PySem.W PySem.Calls PyProof.Rows
/-- the cut of a text at its i-th statement -/
def cutOf (p : Program) (i k1 k2 k3 : Nat) (code : Addr) (frame : Addr) : Cut := match p.main.body.drop i with
  | .Assign [.Name X pos'] (.Dict keys values dpos) pos :: l2 => ⟨{ scope := p.main.scope, locals := mainNs, globals := mainNs, cells := [], code := .ref code, frame := some frame }, p.main.body.take i, l2, X, pos', keys, values, dpos, pos, k1, k2, k3, default, default⟩
  | _ => ⟨{ scope := p.main.scope, locals := mainNs, globals := mainNs, cells := [], code := .ref code, frame := some frame }, [], [], "", default, [], [], default, default, k1, k2, k3, default, default⟩
end Hd

set_option maxHeartbeats 1000000
namespace Hd
open PySem PySem.W PySem.Calls PyProof.Rows
theorem left_cut {p q : Program} {loose : List Str} {Xt : Shared → Bool} {α : Type} {Yf : Shared → α} {Ya : World → α} {N : Nat} {c : Cut}
    (e : opening p = plainProg p.main.scope.names) (hN : Nat.ble 600 N = true) (f : ∀ s, fenceModules? p s = some s) (le : c.N ≤ N)
    (hsw : swapsWith (.Dict c.keys c.values c.dpos) (some (.Name c.X c.pos')) c.pos.line c.env = Pure.pure false)
    (hps : (evalEachOpt c.keys c.env).zip ((evalEach c.values c.env).map fun v => (do let x ← v; standAt c.dpos; Pure.pure x : Sem Value)) = pairsI c.ps)
    (hth : ∀ (w : World) (os : OsState), (cut1 c (stepT (denote treeTable) p w) p w os).map (fun r => r.1.2) = some ⟨denote treeTable c.code, c.code, c.apos, [topFrame c.q]⟩)
    (run : ∀ (w : World) (os : OsState), (cutF c (stepT (denote treeTable) p w) p w os).map (fun s => (HandSHeadRun.looksF p (boot_heap w.params) s.abs, openSeen q loose (importedModules p.main.body) Xt true s.abs, Yf s.abs)) = some (true, openGood q loose, Ya w)) :
    LeftO p q loose Xt Yf Ya N true := fun w => by
  obtain ⟨⟨h, gs, d, k, os⟩, a, a'⟩ := Option.map_eq_some_iff.mp (boot_open e hN f w)
  obtain ⟨rfl, rfl, rfl, rfl⟩ : h = boot_heap w.params ∧ gs = Array.mk [] ∧ d = boot_drawn ∧ k = boot_toks := by simpa using a'
  obtain ⟨s, hs, hv⟩ := Option.map_eq_some_iff.mp (run w os)
  obtain ⟨l1, l2, l3⟩ : _ ∧ _ ∧ _ := by simpa only [Prod.mk.injEq] using hv
  have r := topRun_mono (N - c.N) _ _ _ _ (cutF_ok hsw hps (hth w os) hs)
  rw [show c.N + (N - c.N) = N by omega] at r
  have l1' : (staticsOk (importedModules p.main.body) (boot_heap w.params) s.abs.heap && namesBound p s.abs.heap && gensDone s.abs && laidKept (boot_heap w.params) s.abs.heap) = true := l1
  have t : topFrom treeTable p w N ⟨boot_heap w.params, Array.mk [], boot_drawn, boot_toks, os⟩ = some s.abs := by
    unfold topFrom
    dsimp only
    rw [HandSHeadRun.boot_ns]
    show (topRun treeTable p w (boot_heap w.params).objs.size (HandSHeadRun.bootAnn w) N ⟨boot_heap w.params, #[], boot_drawn, boot_toks, os⟩ (topStub p)).bind _ = _
    rw [r]
    show (match staticsOk (importedModules p.main.body) (boot_heap w.params) s.abs.heap && namesBound p s.abs.heap && gensDone s.abs && laidKept (boot_heap w.params) s.abs.heap with | true => some s.abs | false => none) = _
    rw [l1']
  unfold openEnds
  rw [a]
  show (topFrom treeTable p w N _).map _ = _
  rw [t]
  exact congrArg some (Prod.ext l2 l3)
/-- a Hook of objects written out -/
def hookK (as : List Addr) (Kl : World → PySem.W.Frag) : Hook where
  α := PySem.W.Frag
  obs s := He.frG s.heap.get? as
  val := Kl
  says w h := (Kl w).In h
  of w s e := by rw [← e]; exact He.frG_in
  keeps w h h' i k := fun a o e => k a o (i a o e)
def RunCut (r : OpenRow) (q : Program) (c : Cut) (as : List Addr) (Kl : World → PySem.W.Frag) (loose : List PySem.Str) (w : World) : Prop :=
  ∀ os : OsState, (cutF c (HandSHeadRun.stepQ (HandSHeadRun.denQ HandSHeadRun.tabQ) r.prog w) r.prog w os).map (fun s => (HandSHeadRun.looksF r.prog (boot_heap w.params) s.abs, HandSHeadRun.seenQ q loose (importedModules r.prog.main.body) (fun s => xlAt q [] s && recOk r.toRowW.records s) s.abs, He.frG (HandSHeadRun.getT s) as)) = some (true, openGood q loose, Kl w)
theorem head_cut {r : OpenRow} {q : Program} {c : Cut} {as : List Addr} {Kl : World → PySem.W.Frag} {loose : List PySem.Str} {d : DefRec} {kwd : List (PySem.Str × PySem.Expr)}
    (e : opening r.prog = plainProg r.prog.main.scope.names) (f : ∀ s, fenceModules? r.prog s = some s)
    (hsw : swapsWith (.Dict c.keys c.values c.dpos) (some (.Name c.X c.pos')) c.pos.line c.env = Pure.pure false)
    (hps : (evalEachOpt c.keys c.env).zip ((evalEach c.values c.env).map fun v => (do let x ← v; standAt c.dpos; Pure.pure x : Sem Value)) = pairsI c.ps)
    (hth : ∀ (w : World) (os : OsState), (cut1 c (HandSHeadRun.stepQ (HandSHeadRun.denQ HandSHeadRun.tabQ) r.prog w) r.prog w os).map (fun r => r.1.2) = some ⟨HandSHeadRun.denQ HandSHeadRun.tabQ c.code, c.code, c.apos, [topFrame c.q]⟩)
    (run : ∀ w, RunCut r q c as Kl loose w)
    (hdef : defOf q r.name = some (d, kwd)) (hp : r.prog.theDef r.name = some (d.params, d.body, d.scope)) (hk : kwWritten? d.params.kwonlyargs d.params.kw_defaults = some kwd)
    (hwr : (!r.writes || r.records.isEmpty) = true) (k1 : r.wellSaid = true) (ok : (chainsOk q && opensWell r.prog && (frees r.toRowW && r.within.isEmpty)) = true) (hb : r.prog.bare) (hw : r.toRowW.promised)
    (call : WalkO q loose (XL q []) (hookK as Kl).says r.toRowW d kwd fun f vs => PySem.call f vs) : r.Holds := by
  have left : LeftO r.prog q loose (fun s => xlAt q [] s && recOk r.toRowW.records s) (hookK as Kl).obs (hookK as Kl).val (c.N + 600) true :=
    left_cut (c := c) e (Nat.ble_eq_true_of_le (by omega)) f (by omega) hsw hps (fun w os => by rw [HandSHeadRun.stepQ_eq, HandSHeadRun.denQ_eq, HandSHeadRun.tabQ_eq]; exact hth w os) fun w os => by
      have z := run w os
      have eo : (fun s : SharedT => He.frG (HandSHeadRun.getT s) as) = fun s => (hookK as Kl).obs s.abs := funext fun s => by
        show He.frG (HandSHeadRun.getT s) as = He.frG s.abs.heap.get? as
        rw [show HandSHeadRun.getT s = s.abs.heap.get? from funext (HandSHeadRun.getT_eq s)]
      rw [HandSHeadRun.stepQ_eq, HandSHeadRun.denQ_eq, HandSHeadRun.tabQ_eq]
      simp only [HandSHeadRun.seenQ_eq]
      have z2 : Option.map (fun s : SharedT => (HandSHeadRun.looksF r.prog (boot_heap w.params) s.abs, HandSHeadRun.seenQ q loose (importedModules r.prog.main.body) (fun s => xlAt q [] s && recOk r.toRowW.records s) s.abs, (fun s : SharedT => He.frG (HandSHeadRun.getT s) as) s)) (cutF c (HandSHeadRun.stepQ (HandSHeadRun.denQ HandSHeadRun.tabQ) r.prog w) r.prog w os) = some (true, openGood q loose, Kl w) := z
      rw [eo] at z2
      exact z2
  exact holds_open (r := r) (q := q) (loose := loose) (XP := XL q []) (YP := (hookK as Kl).says) (d := d) (kwd := kwd) left (hookK as Kl).of (hookK as Kl).keeps (fun s z => xl_of s (Bool.and_eq_true_iff.mp z).1) XL.keeps hdef hp hk (fun s z => recFacts_of (Bool.and_eq_true_iff.mp z).2) hwr k1 ok hb hw call
end Hd

set_option maxHeartbeats 1000000
namespace Hd
open PySem PySem.W PySem.Calls PyProof.Rows
/-- the hash of a tuple of texts -/
def tHP (P : Params) (ks : List Str) : Int := hashW P (.tuple (ks.map WData.str))
end Hd

set_option maxHeartbeats 0
namespace Hz
open PySem PySem.W PySem.Calls PyProof.Rows Hd
abbrev P0 : Program := PySem.Challenge.pw_hermitcell_k22_maps_and_faults_of_tables
abbrev c0 : Cut := cutOf P0 31 12 20000 20000 13 14
def K0 (P : PySem.Params) : PySem.W.Frag :=
  (nat_lit 2, ({ cls := PySem.Value.none, data := PySem.Data.dict #[] } : PySem.Obj)) ::
  (nat_lit 3, ({ cls := PySem.Value.type "dict", data := PySem.Data.dict #[PySem.DictEntry.mk (PySem.PyData.keyHash P (PySem.Str.ofString "__name__")) (PySem.Value.str (PySem.Str.ofString "__name__") 165) (PySem.Value.str (PySem.Str.ofString "law_hermitcell_k22_maps_and_faults_of_tables") 1154), PySem.DictEntry.mk (PySem.PyData.keyHash P (PySem.Str.ofString "__doc__")) (PySem.Value.str (PySem.Str.ofString "__doc__") 166) (PySem.Value.none), PySem.DictEntry.mk (PySem.PyData.keyHash P (PySem.Str.ofString "__package__")) (PySem.Value.str (PySem.Str.ofString "__package__") 167) (PySem.Value.none), PySem.DictEntry.mk (PySem.PyData.keyHash P (PySem.Str.ofString "__loader__")) (PySem.Value.str (PySem.Str.ofString "__loader__") 168) (PySem.Value.builtin "__main__.__loader__#opaque"), PySem.DictEntry.mk (PySem.PyData.keyHash P (PySem.Str.ofString "__spec__")) (PySem.Value.str (PySem.Str.ofString "__spec__") 169) (PySem.Value.none), PySem.DictEntry.mk (PySem.PyData.keyHash P (PySem.Str.ofString "__annotations__")) (PySem.Value.str (PySem.Str.ofString "__annotations__") 170) (PySem.Value.ref 6), PySem.DictEntry.mk (PySem.PyData.keyHash P (PySem.Str.ofString "__builtins__")) (PySem.Value.str (PySem.Str.ofString "__builtins__") 171) (PySem.Value.ref 4), PySem.DictEntry.mk (PySem.PyData.keyHash P (PySem.Str.ofString "__file__")) (PySem.Value.str (PySem.Str.ofString "__file__") 173) (PySem.Value.str (PySem.Str.ofString "/claim/cut.py") 172), PySem.DictEntry.mk (PySem.PyData.keyHash P (PySem.Str.ofString "__cached__")) (PySem.Value.str (PySem.Str.ofString "__cached__") 174) (PySem.Value.none), PySem.DictEntry.mk (PySem.PyData.keyHash P (PySem.Str.ofString "_wall")) (PySem.Value.str (PySem.Str.ofString "_wall") 193) (PySem.Value.ref 21), PySem.DictEntry.mk (PySem.PyData.keyHash P (PySem.Str.ofString "HermitError")) (PySem.Value.str (PySem.Str.ofString "HermitError") 213) (PySem.Value.ref 31), PySem.DictEntry.mk (PySem.PyData.keyHash P (PySem.Str.ofString "NotValid")) (PySem.Value.str (PySem.Str.ofString "NotValid") 229) (PySem.Value.ref 44), PySem.DictEntry.mk (PySem.PyData.keyHash P (PySem.Str.ofString "LEAST")) (PySem.Value.str (PySem.Str.ofString "LEAST") 234) (PySem.Value.int (-2147483648) 233), PySem.DictEntry.mk (PySem.PyData.keyHash P (PySem.Str.ofString "GREATEST")) (PySem.Value.str (PySem.Str.ofString "GREATEST") 236) (PySem.Value.int 2147483647 235), PySem.DictEntry.mk (PySem.PyData.keyHash P (PySem.Str.ofString "MOST_CHARACTERS")) (PySem.Value.str (PySem.Str.ofString "MOST_CHARACTERS") 238) (PySem.Value.int 24 237), PySem.DictEntry.mk (PySem.PyData.keyHash P (PySem.Str.ofString "MOST_DEEP")) (PySem.Value.str (PySem.Str.ofString "MOST_DEEP") 240) (PySem.Value.int 40 239), PySem.DictEntry.mk (PySem.PyData.keyHash P (PySem.Str.ofString "MOST_RANK")) (PySem.Value.str (PySem.Str.ofString "MOST_RANK") 242) (PySem.Value.int 40 241), PySem.DictEntry.mk (PySem.PyData.keyHash P (PySem.Str.ofString "MOST_RANK_HOST")) (PySem.Value.str (PySem.Str.ofString "MOST_RANK_HOST") 244) (PySem.Value.int 36 243), PySem.DictEntry.mk (PySem.PyData.keyHash P (PySem.Str.ofString "_FORMS")) (PySem.Value.str (PySem.Str.ofString "_FORMS") 274) (PySem.Value.ref 47), PySem.DictEntry.mk (PySem.PyData.keyHash P (PySem.Str.ofString "is_number")) (PySem.Value.str (PySem.Str.ofString "is_number") 281) (PySem.Value.ref 59), PySem.DictEntry.mk (PySem.PyData.keyHash P (PySem.Str.ofString "is_text")) (PySem.Value.str (PySem.Str.ofString "is_text") 287) (PySem.Value.ref 64), PySem.DictEntry.mk (PySem.PyData.keyHash P (PySem.Str.ofString "is_word")) (PySem.Value.str (PySem.Str.ofString "is_word") 294) (PySem.Value.ref 71), PySem.DictEntry.mk (PySem.PyData.keyHash P (PySem.Str.ofString "is_form")) (PySem.Value.str (PySem.Str.ofString "is_form") 303) (PySem.Value.ref 78), PySem.DictEntry.mk (PySem.PyData.keyHash P (PySem.Str.ofString "rank_of")) (PySem.Value.str (PySem.Str.ofString "rank_of") 309) (PySem.Value.ref 83), PySem.DictEntry.mk (PySem.PyData.keyHash P (PySem.Str.ofString "Atom")) (PySem.Value.str (PySem.Str.ofString "Atom") 367) (PySem.Value.ref 121), PySem.DictEntry.mk (PySem.PyData.keyHash P (PySem.Str.ofString "_is_within")) (PySem.Value.str (PySem.Str.ofString "_is_within") 373) (PySem.Value.ref 130), PySem.DictEntry.mk (PySem.PyData.keyHash P (PySem.Str.ofString "_places_of_atoms")) (PySem.Value.str (PySem.Str.ofString "_places_of_atoms") 383) (PySem.Value.ref 137), PySem.DictEntry.mk (PySem.PyData.keyHash P (PySem.Str.ofString "_are_equal")) (PySem.Value.str (PySem.Str.ofString "_are_equal") 395) (PySem.Value.ref 144), PySem.DictEntry.mk (PySem.PyData.keyHash P (PySem.Str.ofString "_is_term")) (PySem.Value.str (PySem.Str.ofString "_is_term") 401) (PySem.Value.ref 149), PySem.DictEntry.mk (PySem.PyData.keyHash P (PySem.Str.ofString "_has_form")) (PySem.Value.str (PySem.Str.ofString "_has_form") 409) (PySem.Value.ref 156), PySem.DictEntry.mk (PySem.PyData.keyHash P (PySem.Str.ofString "_rank_of_atom")) (PySem.Value.str (PySem.Str.ofString "_rank_of_atom") 417) (PySem.Value.ref 163), PySem.DictEntry.mk (PySem.PyData.keyHash P (PySem.Str.ofString "_most_rank")) (PySem.Value.str (PySem.Str.ofString "_most_rank") 424) (PySem.Value.ref 170), PySem.DictEntry.mk (PySem.PyData.keyHash P (PySem.Str.ofString "GRANULES")) (PySem.Value.str (PySem.Str.ofString "GRANULES") 428) (PySem.Value.int 24 427), PySem.DictEntry.mk (PySem.PyData.keyHash P (PySem.Str.ofString "WORDS")) (PySem.Value.str (PySem.Str.ofString "WORDS") 430) (PySem.Value.int 4 429), PySem.DictEntry.mk (PySem.PyData.keyHash P (PySem.Str.ofString "PROCESSORS")) (PySem.Value.str (PySem.Str.ofString "PROCESSORS") 432) (PySem.Value.int 3 431), PySem.DictEntry.mk (PySem.PyData.keyHash P (PySem.Str.ofString "PAGES")) (PySem.Value.str (PySem.Str.ofString "PAGES") 434) (PySem.Value.int 16 433), PySem.DictEntry.mk (PySem.PyData.keyHash P (PySem.Str.ofString "STATES")) (PySem.Value.str (PySem.Str.ofString "STATES") 442) (PySem.Value.ref 171), PySem.DictEntry.mk (PySem.PyData.keyHash P (PySem.Str.ofString "_REQUESTS")) (PySem.Value.str (PySem.Str.ofString "_REQUESTS") 578) (PySem.Value.ref 172), PySem.DictEntry.mk (PySem.PyData.keyHash P (PySem.Str.ofString "is_granule")) (PySem.Value.str (PySem.Str.ofString "is_granule") 585) (PySem.Value.ref 220), PySem.DictEntry.mk (PySem.PyData.keyHash P (PySem.Str.ofString "is_processor")) (PySem.Value.str (PySem.Str.ofString "is_processor") 592) (PySem.Value.ref 227), PySem.DictEntry.mk (PySem.PyData.keyHash P (PySem.Str.ofString "is_page")) (PySem.Value.str (PySem.Str.ofString "is_page") 599) (PySem.Value.ref 234), PySem.DictEntry.mk (PySem.PyData.keyHash P (PySem.Str.ofString "is_access")) (PySem.Value.str (PySem.Str.ofString "is_access") 605) (PySem.Value.ref 239), PySem.DictEntry.mk (PySem.PyData.keyHash P (PySem.Str.ofString "has_name")) (PySem.Value.str (PySem.Str.ofString "has_name") 612) (PySem.Value.ref 246), PySem.DictEntry.mk (PySem.PyData.keyHash P (PySem.Str.ofString "fits")) (PySem.Value.str (PySem.Str.ofString "fits") 620) (PySem.Value.ref 253), PySem.DictEntry.mk (PySem.PyData.keyHash P (PySem.Str.ofString "is_row")) (PySem.Value.str (PySem.Str.ofString "is_row") 627) (PySem.Value.ref 260), PySem.DictEntry.mk (PySem.PyData.keyHash P (PySem.Str.ofString "Memory")) (PySem.Value.str (PySem.Str.ofString "Memory") 1025) (PySem.Value.ref 547), PySem.DictEntry.mk (PySem.PyData.keyHash P (PySem.Str.ofString "_is_below")) (PySem.Value.str (PySem.Str.ofString "_is_below") 1033) (PySem.Value.ref 558), PySem.DictEntry.mk (PySem.PyData.keyHash P (PySem.Str.ofString "_number_below")) (PySem.Value.str (PySem.Str.ofString "_number_below") 1041) (PySem.Value.ref 565), PySem.DictEntry.mk (PySem.PyData.keyHash P (PySem.Str.ofString "_is_actor")) (PySem.Value.str (PySem.Str.ofString "_is_actor") 1048) (PySem.Value.ref 572), PySem.DictEntry.mk (PySem.PyData.keyHash P (PySem.Str.ofString "FIRST_SHARED")) (PySem.Value.str (PySem.Str.ofString "FIRST_SHARED") 1052) (PySem.Value.int 8 1051), PySem.DictEntry.mk (PySem.PyData.keyHash P (PySem.Str.ofString "granule_of")) (PySem.Value.str (PySem.Str.ofString "granule_of") 1060) (PySem.Value.ref 579), PySem.DictEntry.mk (PySem.PyData.keyHash P (PySem.Str.ofString "leaf_of")) (PySem.Value.str (PySem.Str.ofString "leaf_of") 1067) (PySem.Value.ref 586), PySem.DictEntry.mk (PySem.PyData.keyHash P (PySem.Str.ofString "is_root_word")) (PySem.Value.str (PySem.Str.ofString "is_root_word") 1074) (PySem.Value.ref 593), PySem.DictEntry.mk (PySem.PyData.keyHash P (PySem.Str.ofString "is_entry")) (PySem.Value.str (PySem.Str.ofString "is_entry") 1081) (PySem.Value.ref 600), PySem.DictEntry.mk (PySem.PyData.keyHash P (PySem.Str.ofString "is_leaving")) (PySem.Value.str (PySem.Str.ofString "is_leaving") 1088) (PySem.Value.ref 607), PySem.DictEntry.mk (PySem.PyData.keyHash P (PySem.Str.ofString "map_of")) (PySem.Value.str (PySem.Str.ofString "map_of") 1099) (PySem.Value.ref 614), PySem.DictEntry.mk (PySem.PyData.keyHash P (PySem.Str.ofString "tables_fault")) (PySem.Value.str (PySem.Str.ofString "tables_fault") 1107) (PySem.Value.ref 621), PySem.DictEntry.mk (PySem.PyData.keyHash P (PySem.Str.ofString "_is_from_one_on")) (PySem.Value.str (PySem.Str.ofString "_is_from_one_on") 1114) (PySem.Value.ref 628), PySem.DictEntry.mk (PySem.PyData.keyHash P (PySem.Str.ofString "_is_table")) (PySem.Value.str (PySem.Str.ofString "_is_table") 1120) (PySem.Value.ref 633), PySem.DictEntry.mk (PySem.PyData.keyHash P (PySem.Str.ofString "_are_leaves_right")) (PySem.Value.str (PySem.Str.ofString "_are_leaves_right") 1132) (PySem.Value.ref 640), PySem.DictEntry.mk (PySem.PyData.keyHash P (PySem.Str.ofString "_fault_of_pages")) (PySem.Value.str (PySem.Str.ofString "_fault_of_pages") 1145) (PySem.Value.ref 647), PySem.DictEntry.mk (PySem.PyData.keyHash P (PySem.Str.ofString "_is_in_wrong_half")) (PySem.Value.str (PySem.Str.ofString "_is_in_wrong_half") 1153) (PySem.Value.ref 654), PySem.DictEntry.mk (PySem.PyData.keyHash P (PySem.Str.ofString "_law_next")) (PySem.Value.str (PySem.Str.ofString "_law_next") 1165) (PySem.Value.ref 661), PySem.DictEntry.mk (PySem.PyData.keyHash P (PySem.Str.ofString "_law_monitor")) (PySem.Value.str (PySem.Str.ofString "_law_monitor") 1171) (PySem.Value.ref 668), PySem.DictEntry.mk (PySem.PyData.keyHash P (PySem.Str.ofString "_law_put")) (PySem.Value.str (PySem.Str.ofString "_law_put") 1183) (PySem.Value.ref 675), PySem.DictEntry.mk (PySem.PyData.keyHash P (PySem.Str.ofString "_law_entry")) (PySem.Value.str (PySem.Str.ofString "_law_entry") 1193) (PySem.Value.ref 682), PySem.DictEntry.mk (PySem.PyData.keyHash P (PySem.Str.ofString "_law_built")) (PySem.Value.str (PySem.Str.ofString "_law_built") 1199) (PySem.Value.ref 687), PySem.DictEntry.mk (PySem.PyData.keyHash P (PySem.Str.ofString "_law_bent")) (PySem.Value.str (PySem.Str.ofString "_law_bent") 1212) (PySem.Value.ref 694), PySem.DictEntry.mk (PySem.PyData.keyHash P (PySem.Str.ofString "_law_granule")) (PySem.Value.str (PySem.Str.ofString "_law_granule") 1219) (PySem.Value.ref 701), PySem.DictEntry.mk (PySem.PyData.keyHash P (PySem.Str.ofString "_law_form")) (PySem.Value.str (PySem.Str.ofString "_law_form") 1227) (PySem.Value.ref 708), PySem.DictEntry.mk (PySem.PyData.keyHash P (PySem.Str.ofString "_law_status")) (PySem.Value.str (PySem.Str.ofString "_law_status") 1237) (PySem.Value.ref 715), PySem.DictEntry.mk (PySem.PyData.keyHash P (PySem.Str.ofString "_law_due")) (PySem.Value.str (PySem.Str.ofString "_law_due") 1243) (PySem.Value.ref 720), PySem.DictEntry.mk (PySem.PyData.keyHash P (PySem.Str.ofString "_law_map")) (PySem.Value.str (PySem.Str.ofString "_law_map") 1252) (PySem.Value.ref 727), PySem.DictEntry.mk (PySem.PyData.keyHash P (PySem.Str.ofString "law")) (PySem.Value.str (PySem.Str.ofString "law") 1266) (PySem.Value.ref 734)] 74 } : PySem.Obj)) ::
  (nat_lit 15, ({ cls := PySem.Value.type "tuple", data := PySem.Data.seq #[] } : PySem.Obj)) ::
  (nat_lit 17, ({ cls := PySem.Value.type "tuple", data := PySem.Data.seq #[PySem.Value.str (PySem.Str.ofString "k") 190] } : PySem.Obj)) ::
  (nat_lit 18, ({ cls := PySem.Value.type "tuple", data := PySem.Data.seq #[] } : PySem.Obj)) ::
  (nat_lit 22, ({ cls := PySem.Value.type "tuple", data := PySem.Data.seq #[PySem.Value.type "ValueError"] } : PySem.Obj)) ::
  (nat_lit 29, ({ cls := PySem.Value.type "tuple", data := PySem.Data.seq #[] } : PySem.Obj)) ::
  (nat_lit 30, ({ cls := PySem.Value.type "dict", data := PySem.Data.dict #[PySem.DictEntry.mk (PySem.PyData.keyHash P (PySem.Str.ofString "__module__")) (PySem.Value.str (PySem.Str.ofString "__module__") 203) (PySem.Value.str (PySem.Str.ofString "hermitcell.errors") 194), PySem.DictEntry.mk (PySem.PyData.keyHash P (PySem.Str.ofString "__firstlineno__")) (PySem.Value.str (PySem.Str.ofString "__firstlineno__") 207) (PySem.Value.int 5 206), PySem.DictEntry.mk (PySem.PyData.keyHash P (PySem.Str.ofString "__static_attributes__")) (PySem.Value.str (PySem.Str.ofString "__static_attributes__") 208) (PySem.Value.ref 29), PySem.DictEntry.mk (PySem.PyData.keyHash P (PySem.Str.ofString "__weakref__")) (PySem.Value.str (PySem.Str.ofString "__weakref__") 210) (PySem.Value.ref 32), PySem.DictEntry.mk (PySem.PyData.keyHash P (PySem.Str.ofString "__doc__")) (PySem.Value.str (PySem.Str.ofString "__doc__") 211) (PySem.Value.none)] 3 } : PySem.Obj)) ::
  (nat_lit 31, ({ cls := PySem.Value.type "type", data := PySem.Data.cls { name := PySem.Str.ofString "HermitError", bases := [PySem.Value.type "ValueError"], mro := [PySem.Value.ref 31, PySem.Value.type "ValueError", PySem.Value.type "Exception", PySem.Value.type "BaseException", PySem.Value.type "object"], ns := 30, qualname := PySem.Str.ofString "HermitError", subclasses := [PySem.Value.ref 44] }, slots := #[Option.some (PySem.Value.ref 22), Option.none, Option.some (PySem.Value.str (PySem.Str.ofString "HermitError") 196), Option.some (PySem.Value.str (PySem.Str.ofString "HermitError") 204), Option.some (PySem.Value.builtin "ValueError.__new__"), Option.some (PySem.Value.bool Bool.true)] } : PySem.Obj)) ::
  (nat_lit 32, ({ cls := PySem.Value.type "getset_descriptor", data := PySem.Data.fields #[PySem.Value.str (PySem.Str.ofString "__weakref__") 209, PySem.Value.ref 31, PySem.Value.builtin "ExceptionGroup.__weakref__", PySem.Value.none] } : PySem.Obj)) ::
  (nat_lit 35, ({ cls := PySem.Value.type "tuple", data := PySem.Data.seq #[PySem.Value.ref 31] } : PySem.Obj)) ::
  (nat_lit 42, ({ cls := PySem.Value.type "tuple", data := PySem.Data.seq #[] } : PySem.Obj)) ::
  (nat_lit 43, ({ cls := PySem.Value.type "dict", data := PySem.Data.dict #[PySem.DictEntry.mk (PySem.PyData.keyHash P (PySem.Str.ofString "__module__")) (PySem.Value.str (PySem.Str.ofString "__module__") 221) (PySem.Value.str (PySem.Str.ofString "hermitcell.errors") 194), PySem.DictEntry.mk (PySem.PyData.keyHash P (PySem.Str.ofString "__firstlineno__")) (PySem.Value.str (PySem.Str.ofString "__firstlineno__") 225) (PySem.Value.int 7 224), PySem.DictEntry.mk (PySem.PyData.keyHash P (PySem.Str.ofString "__static_attributes__")) (PySem.Value.str (PySem.Str.ofString "__static_attributes__") 226) (PySem.Value.ref 42), PySem.DictEntry.mk (PySem.PyData.keyHash P (PySem.Str.ofString "__doc__")) (PySem.Value.str (PySem.Str.ofString "__doc__") 227) (PySem.Value.none)] 2 } : PySem.Obj)) ::
  (nat_lit 44, ({ cls := PySem.Value.type "type", data := PySem.Data.cls { name := PySem.Str.ofString "NotValid", bases := [PySem.Value.ref 31], mro := [PySem.Value.ref 44, PySem.Value.ref 31, PySem.Value.type "ValueError", PySem.Value.type "Exception", PySem.Value.type "BaseException", PySem.Value.type "object"], ns := 43, qualname := PySem.Str.ofString "NotValid" }, slots := #[Option.some (PySem.Value.ref 35), Option.none, Option.some (PySem.Value.str (PySem.Str.ofString "NotValid") 214), Option.some (PySem.Value.str (PySem.Str.ofString "NotValid") 222), Option.some (PySem.Value.builtin "ValueError.__new__"), Option.some (PySem.Value.bool Bool.true)] } : PySem.Obj)) ::
  (nat_lit 47, ({ cls := PySem.Value.type "dict", data := PySem.Data.dict #[PySem.DictEntry.mk (PySem.PyData.keyHash P (PySem.Str.ofString "token")) (PySem.Value.str (PySem.Str.ofString "token") 245) (PySem.Value.ref 48), PySem.DictEntry.mk (PySem.PyData.keyHash P (PySem.Str.ofString "challenge")) (PySem.Value.str (PySem.Str.ofString "challenge") 249) (PySem.Value.ref 49), PySem.DictEntry.mk (PySem.PyData.keyHash P (PySem.Str.ofString "seal")) (PySem.Value.str (PySem.Str.ofString "seal") 252) (PySem.Value.ref 50), PySem.DictEntry.mk (PySem.PyData.keyHash P (PySem.Str.ofString "page")) (PySem.Value.str (PySem.Str.ofString "page") 257) (PySem.Value.ref 51), PySem.DictEntry.mk (PySem.PyData.keyHash P (PySem.Str.ofString "ticket")) (PySem.Value.str (PySem.Str.ofString "ticket") 262) (PySem.Value.ref 52)] 5 } : PySem.Obj)) ::
  (nat_lit 48, ({ cls := PySem.Value.type "tuple", data := PySem.Data.seq #[PySem.Value.str (PySem.Str.ofString "text") 246, PySem.Value.str (PySem.Str.ofString "tuple") 247, PySem.Value.str (PySem.Str.ofString "word") 248] } : PySem.Obj)) ::
  (nat_lit 49, ({ cls := PySem.Value.type "tuple", data := PySem.Data.seq #[PySem.Value.str (PySem.Str.ofString "text") 250, PySem.Value.str (PySem.Str.ofString "number") 251] } : PySem.Obj)) ::
  (nat_lit 50, ({ cls := PySem.Value.type "tuple", data := PySem.Data.seq #[PySem.Value.str (PySem.Str.ofString "text") 253, PySem.Value.str (PySem.Str.ofString "number") 254, PySem.Value.str (PySem.Str.ofString "number") 255, PySem.Value.str (PySem.Str.ofString "hidden") 256] } : PySem.Obj)) ::
  (nat_lit 51, ({ cls := PySem.Value.type "tuple", data := PySem.Data.seq #[PySem.Value.str (PySem.Str.ofString "text") 258, PySem.Value.str (PySem.Str.ofString "number") 259, PySem.Value.str (PySem.Str.ofString "number") 260, PySem.Value.str (PySem.Str.ofString "hidden") 261] } : PySem.Obj)) ::
  (nat_lit 52, ({ cls := PySem.Value.type "tuple", data := PySem.Data.seq #[PySem.Value.str (PySem.Str.ofString "text") 263, PySem.Value.str (PySem.Str.ofString "number") 264, PySem.Value.str (PySem.Str.ofString "text") 265, PySem.Value.str (PySem.Str.ofString "tuple") 266, PySem.Value.str (PySem.Str.ofString "pages") 267, PySem.Value.str (PySem.Str.ofString "tuple") 268] } : PySem.Obj)) ::
  (nat_lit 53, ({ cls := PySem.Value.type "tuple", data := PySem.Data.seq #[] } : PySem.Obj)) ::
  (nat_lit 55, ({ cls := PySem.Value.type "tuple", data := PySem.Data.seq #[PySem.Value.str (PySem.Str.ofString "value") 278] } : PySem.Obj)) ::
  (nat_lit 56, ({ cls := PySem.Value.type "tuple", data := PySem.Data.seq #[] } : PySem.Obj)) ::
  (nat_lit 58, ({ cls := PySem.Value.type "code", data := PySem.Data.fields #[PySem.Value.str (PySem.Str.ofString "is_number") 275, PySem.Value.str (PySem.Str.ofString "is_number") 276, PySem.Value.str (PySem.Str.ofString "/claim/cut.py") 277, PySem.Value.int 17 0, PySem.Value.int 1 0, PySem.Value.int 0 0, PySem.Value.int 0 0, PySem.Value.int 3 0, PySem.Value.ref 53, PySem.Value.bool Bool.true, PySem.Value.int 181 0, PySem.Value.ref 54, PySem.Value.none, PySem.Value.ref 55, PySem.Value.ref 56, PySem.Value.ref 57, PySem.Value.int 279 0, PySem.Value.int 17 0, PySem.Value.str (PySem.Str.ofString "/claim/cut.py") 280] } : PySem.Obj)) ::
  (nat_lit 59, (⟨PySem.Value.type "function", Option.none, .func (PySem.W.fnOf "is_number" "is_number" (C8.fnArgs Hc.s_is_number) (C8.fnBody Hc.s_is_number) (C8.fnScope Hc.s_is_number) (PySem.Value.none) (PySem.Value.none) (PySem.Value.none) (PySem.Value.str (PySem.Str.ofString "hermitcell.words") 230) (Option.none) (PySem.Value.ref 58) (PySem.Value.none)), #[]⟩ : PySem.Obj)) ::
  (nat_lit 60, ({ cls := PySem.Value.type "tuple", data := PySem.Data.seq #[] } : PySem.Obj)) ::
  (nat_lit 63, ({ cls := PySem.Value.type "code", data := PySem.Data.fields #[PySem.Value.str (PySem.Str.ofString "is_text") 282, PySem.Value.str (PySem.Str.ofString "is_text") 283, PySem.Value.str (PySem.Str.ofString "/claim/cut.py") 284, PySem.Value.int 19 0, PySem.Value.int 1 0, PySem.Value.int 0 0, PySem.Value.int 0 0, PySem.Value.int 3 0, PySem.Value.ref 60, PySem.Value.bool Bool.true, PySem.Value.int 181 0, PySem.Value.ref 61, PySem.Value.none, PySem.Value.none, PySem.Value.none, PySem.Value.ref 62, PySem.Value.int 285 0, PySem.Value.int 19 0, PySem.Value.str (PySem.Str.ofString "/claim/cut.py") 286] } : PySem.Obj)) ::
  (nat_lit 64, (⟨PySem.Value.type "function", Option.none, .func (PySem.W.fnOf "is_text" "is_text" (C8.fnArgs Hc.s_is_text) (C8.fnBody Hc.s_is_text) (C8.fnScope Hc.s_is_text) (PySem.Value.none) (PySem.Value.none) (PySem.Value.none) (PySem.Value.str (PySem.Str.ofString "hermitcell.words") 230) (Option.none) (PySem.Value.ref 63) (PySem.Value.none)), #[]⟩ : PySem.Obj)) ::
  (nat_lit 65, ({ cls := PySem.Value.type "tuple", data := PySem.Data.seq #[] } : PySem.Obj)) ::
  (nat_lit 67, ({ cls := PySem.Value.type "tuple", data := PySem.Data.seq #[PySem.Value.str (PySem.Str.ofString "value") 291] } : PySem.Obj)) ::
  (nat_lit 68, ({ cls := PySem.Value.type "tuple", data := PySem.Data.seq #[] } : PySem.Obj)) ::
  (nat_lit 70, ({ cls := PySem.Value.type "code", data := PySem.Data.fields #[PySem.Value.str (PySem.Str.ofString "is_word") 288, PySem.Value.str (PySem.Str.ofString "is_word") 289, PySem.Value.str (PySem.Str.ofString "/claim/cut.py") 290, PySem.Value.int 23 0, PySem.Value.int 1 0, PySem.Value.int 0 0, PySem.Value.int 0 0, PySem.Value.int 3 0, PySem.Value.ref 65, PySem.Value.bool Bool.true, PySem.Value.int 181 0, PySem.Value.ref 66, PySem.Value.none, PySem.Value.ref 67, PySem.Value.ref 68, PySem.Value.ref 69, PySem.Value.int 292 0, PySem.Value.int 23 0, PySem.Value.str (PySem.Str.ofString "/claim/cut.py") 293] } : PySem.Obj)) ::
  (nat_lit 71, (⟨PySem.Value.type "function", Option.none, .func (PySem.W.fnOf "is_word" "is_word" (C8.fnArgs Hc.s_is_word) (C8.fnBody Hc.s_is_word) (C8.fnScope Hc.s_is_word) (PySem.Value.none) (PySem.Value.none) (PySem.Value.none) (PySem.Value.str (PySem.Str.ofString "hermitcell.words") 230) (Option.none) (PySem.Value.ref 70) (PySem.Value.none)), #[]⟩ : PySem.Obj)) ::
  (nat_lit 72, ({ cls := PySem.Value.type "tuple", data := PySem.Data.seq #[] } : PySem.Obj)) ::
  (nat_lit 74, ({ cls := PySem.Value.type "tuple", data := PySem.Data.seq #[PySem.Value.str (PySem.Str.ofString "value") 298, PySem.Value.str (PySem.Str.ofString "name") 299, PySem.Value.str (PySem.Str.ofString "many") 300] } : PySem.Obj)) ::
  (nat_lit 75, ({ cls := PySem.Value.type "tuple", data := PySem.Data.seq #[] } : PySem.Obj)) ::
  (nat_lit 77, ({ cls := PySem.Value.type "code", data := PySem.Data.fields #[PySem.Value.str (PySem.Str.ofString "is_form") 295, PySem.Value.str (PySem.Str.ofString "is_form") 296, PySem.Value.str (PySem.Str.ofString "/claim/cut.py") 297, PySem.Value.int 25 0, PySem.Value.int 3 0, PySem.Value.int 0 0, PySem.Value.int 0 0, PySem.Value.int 3 0, PySem.Value.ref 72, PySem.Value.bool Bool.true, PySem.Value.int 181 0, PySem.Value.ref 73, PySem.Value.none, PySem.Value.ref 74, PySem.Value.ref 75, PySem.Value.ref 76, PySem.Value.int 301 0, PySem.Value.int 25 0, PySem.Value.str (PySem.Str.ofString "/claim/cut.py") 302] } : PySem.Obj)) ::
  (nat_lit 78, (⟨PySem.Value.type "function", Option.none, .func (PySem.W.fnOf "is_form" "is_form" (C8.fnArgs Hc.s_is_form) (C8.fnBody Hc.s_is_form) (C8.fnScope Hc.s_is_form) (PySem.Value.none) (PySem.Value.none) (PySem.Value.none) (PySem.Value.str (PySem.Str.ofString "hermitcell.words") 230) (Option.none) (PySem.Value.ref 77) (PySem.Value.none)), #[]⟩ : PySem.Obj)) ::
  (nat_lit 79, ({ cls := PySem.Value.type "tuple", data := PySem.Data.seq #[] } : PySem.Obj)) ::
  (nat_lit 91, ({ cls := PySem.Value.type "tuple", data := PySem.Data.seq #[] } : PySem.Obj)) ::
  (nat_lit 93, ({ cls := PySem.Value.type "tuple", data := PySem.Data.seq #[PySem.Value.str (PySem.Str.ofString "self") 325, PySem.Value.str (PySem.Str.ofString "kind") 326, PySem.Value.str (PySem.Str.ofString "term") 327, PySem.Value.str (PySem.Str.ofString "rank") 328] } : PySem.Obj)) ::
  (nat_lit 94, ({ cls := PySem.Value.type "tuple", data := PySem.Data.seq #[] } : PySem.Obj)) ::
  (nat_lit 98, ({ cls := PySem.Value.type "tuple", data := PySem.Data.seq #[] } : PySem.Obj)) ::
  (nat_lit 100, ({ cls := PySem.Value.type "tuple", data := PySem.Data.seq #[PySem.Value.str (PySem.Str.ofString "self") 335, PySem.Value.str (PySem.Str.ofString "other") 336] } : PySem.Obj)) ::
  (nat_lit 101, ({ cls := PySem.Value.type "tuple", data := PySem.Data.seq #[] } : PySem.Obj)) ::
  (nat_lit 105, ({ cls := PySem.Value.type "tuple", data := PySem.Data.seq #[] } : PySem.Obj)) ::
  (nat_lit 107, ({ cls := PySem.Value.type "tuple", data := PySem.Data.seq #[PySem.Value.str (PySem.Str.ofString "self") 343, PySem.Value.str (PySem.Str.ofString "other") 344] } : PySem.Obj)) ::
  (nat_lit 108, ({ cls := PySem.Value.type "tuple", data := PySem.Data.seq #[] } : PySem.Obj)) ::
  (nat_lit 112, ({ cls := PySem.Value.type "tuple", data := PySem.Data.seq #[] } : PySem.Obj)) ::
  (nat_lit 114, ({ cls := PySem.Value.type "tuple", data := PySem.Data.seq #[PySem.Value.str (PySem.Str.ofString "self") 351] } : PySem.Obj)) ::
  (nat_lit 115, ({ cls := PySem.Value.type "tuple", data := PySem.Data.seq #[] } : PySem.Obj)) ::
  (nat_lit 119, ({ cls := PySem.Value.type "tuple", data := PySem.Data.seq #[PySem.Value.str (PySem.Str.ofString "_stripped") 355, PySem.Value.str (PySem.Str.ofString "kind") 356, PySem.Value.str (PySem.Str.ofString "rank") 357, PySem.Value.str (PySem.Str.ofString "term") 358] } : PySem.Obj)) ::
  (nat_lit 120, ({ cls := PySem.Value.type "dict", data := PySem.Data.dict #[PySem.DictEntry.mk (PySem.PyData.keyHash P (PySem.Str.ofString "__module__")) (PySem.Value.str (PySem.Str.ofString "__module__") 317) (PySem.Value.str (PySem.Str.ofString "hermitcell.words") 230), PySem.DictEntry.mk (PySem.PyData.keyHash P (PySem.Str.ofString "__firstlineno__")) (PySem.Value.str (PySem.Str.ofString "__firstlineno__") 321) (PySem.Value.int 29 320), PySem.DictEntry.mk (PySem.PyData.keyHash P (PySem.Str.ofString "__init__")) (PySem.Value.str (PySem.Str.ofString "__init__") 331) (PySem.Value.ref 97), PySem.DictEntry.mk (PySem.PyData.keyHash P (PySem.Str.ofString "__eq__")) (PySem.Value.str (PySem.Str.ofString "__eq__") 339) (PySem.Value.ref 104), PySem.DictEntry.mk (PySem.PyData.keyHash P (PySem.Str.ofString "is_same")) (PySem.Value.str (PySem.Str.ofString "is_same") 347) (PySem.Value.ref 111), PySem.DictEntry.mk (PySem.PyData.keyHash P (PySem.Str.ofString "stripped")) (PySem.Value.str (PySem.Str.ofString "stripped") 354) (PySem.Value.ref 118), PySem.DictEntry.mk (PySem.PyData.keyHash P (PySem.Str.ofString "__static_attributes__")) (PySem.Value.str (PySem.Str.ofString "__static_attributes__") 359) (PySem.Value.ref 119), PySem.DictEntry.mk (PySem.PyData.keyHash P (PySem.Str.ofString "__dict__")) (PySem.Value.str (PySem.Str.ofString "__dict__") 361) (PySem.Value.ref 122), PySem.DictEntry.mk (PySem.PyData.keyHash P (PySem.Str.ofString "__weakref__")) (PySem.Value.str (PySem.Str.ofString "__weakref__") 363) (PySem.Value.ref 123), PySem.DictEntry.mk (PySem.PyData.keyHash P (PySem.Str.ofString "__doc__")) (PySem.Value.str (PySem.Str.ofString "__doc__") 364) (PySem.Value.none), PySem.DictEntry.mk (PySem.PyData.keyHash P (PySem.Str.ofString "__hash__")) (PySem.Value.str (PySem.Str.ofString "__hash__") 365) (PySem.Value.none)] 5 } : PySem.Obj)) ::
  (nat_lit 121, ({ cls := PySem.Value.type "type", data := PySem.Data.cls { name := PySem.Str.ofString "Atom", bases := [PySem.Value.type "object"], mro := [PySem.Value.ref 121, PySem.Value.type "object"], ns := 120, qualname := PySem.Str.ofString "Atom" }, slots := #[Option.none, Option.none, Option.some (PySem.Value.str (PySem.Str.ofString "Atom") 310), Option.some (PySem.Value.str (PySem.Str.ofString "Atom") 318), Option.some (PySem.Value.builtin "object.__new__"), Option.some (PySem.Value.bool Bool.true)] } : PySem.Obj)) ::
  (nat_lit 122, ({ cls := PySem.Value.type "getset_descriptor", data := PySem.Data.fields #[PySem.Value.str (PySem.Str.ofString "__dict__") 360, PySem.Value.ref 121, PySem.Value.builtin "function.__dict__", PySem.Value.builtin "function.__dict__#set"] } : PySem.Obj)) ::
  (nat_lit 123, ({ cls := PySem.Value.type "getset_descriptor", data := PySem.Data.fields #[PySem.Value.str (PySem.Str.ofString "__weakref__") 362, PySem.Value.ref 121, PySem.Value.builtin "ExceptionGroup.__weakref__", PySem.Value.none] } : PySem.Obj)) ::
  (nat_lit 126, ({ cls := PySem.Value.type "tuple", data := PySem.Data.seq #[] } : PySem.Obj)) ::
  (nat_lit 129, ({ cls := PySem.Value.type "code", data := PySem.Data.fields #[PySem.Value.str (PySem.Str.ofString "_is_within") 368, PySem.Value.str (PySem.Str.ofString "_is_within") 369, PySem.Value.str (PySem.Str.ofString "/claim/cut.py") 370, PySem.Value.int 52 0, PySem.Value.int 3 0, PySem.Value.int 0 0, PySem.Value.int 0 0, PySem.Value.int 3 0, PySem.Value.ref 126, PySem.Value.bool Bool.true, PySem.Value.int 181 0, PySem.Value.ref 127, PySem.Value.none, PySem.Value.none, PySem.Value.none, PySem.Value.ref 128, PySem.Value.int 371 0, PySem.Value.int 52 0, PySem.Value.str (PySem.Str.ofString "/claim/cut.py") 372] } : PySem.Obj)) ::
  (nat_lit 130, (⟨PySem.Value.type "function", Option.none, .func (PySem.W.fnOf "_is_within" "_is_within" (C8.fnArgs Hc.s__is_within) (C8.fnBody Hc.s__is_within) (C8.fnScope Hc.s__is_within) (PySem.Value.none) (PySem.Value.none) (PySem.Value.none) (PySem.Value.str (PySem.Str.ofString "hermitcell.words") 230) (Option.none) (PySem.Value.ref 129) (PySem.Value.none)), #[]⟩ : PySem.Obj)) ::
  (nat_lit 131, ({ cls := PySem.Value.type "tuple", data := PySem.Data.seq #[] } : PySem.Obj)) ::
  (nat_lit 133, ({ cls := PySem.Value.type "tuple", data := PySem.Data.seq #[PySem.Value.str (PySem.Str.ofString "value") 377, PySem.Value.str (PySem.Str.ofString "found") 378, PySem.Value.str (PySem.Str.ofString "todo") 379, PySem.Value.str (PySem.Str.ofString "part") 380] } : PySem.Obj)) ::
  (nat_lit 134, ({ cls := PySem.Value.type "tuple", data := PySem.Data.seq #[] } : PySem.Obj)) ::
  (nat_lit 138, ({ cls := PySem.Value.type "tuple", data := PySem.Data.seq #[] } : PySem.Obj)) ::
  (nat_lit 140, ({ cls := PySem.Value.type "tuple", data := PySem.Data.seq #[PySem.Value.str (PySem.Str.ofString "ones") 387, PySem.Value.str (PySem.Str.ofString "others") 388, PySem.Value.str (PySem.Str.ofString "left") 389, PySem.Value.str (PySem.Str.ofString "right") 390, PySem.Value.str (PySem.Str.ofString "one") 391, PySem.Value.str (PySem.Str.ofString "other") 392] } : PySem.Obj)) ::
  (nat_lit 141, ({ cls := PySem.Value.type "tuple", data := PySem.Data.seq #[] } : PySem.Obj)) ::
  (nat_lit 145, ({ cls := PySem.Value.type "tuple", data := PySem.Data.seq #[] } : PySem.Obj)) ::
  (nat_lit 150, ({ cls := PySem.Value.type "tuple", data := PySem.Data.seq #[] } : PySem.Obj)) ::
  (nat_lit 152, ({ cls := PySem.Value.type "tuple", data := PySem.Data.seq #[PySem.Value.str (PySem.Str.ofString "part") 405, PySem.Value.str (PySem.Str.ofString "form") 406] } : PySem.Obj)) ::
  (nat_lit 153, ({ cls := PySem.Value.type "tuple", data := PySem.Data.seq #[] } : PySem.Obj)) ::
  (nat_lit 157, ({ cls := PySem.Value.type "tuple", data := PySem.Data.seq #[] } : PySem.Obj)) ::
  (nat_lit 159, ({ cls := PySem.Value.type "tuple", data := PySem.Data.seq #[PySem.Value.str (PySem.Str.ofString "kind") 413, PySem.Value.str (PySem.Str.ofString "term") 414] } : PySem.Obj)) ::
  (nat_lit 160, ({ cls := PySem.Value.type "tuple", data := PySem.Data.seq #[] } : PySem.Obj)) ::
  (nat_lit 164, ({ cls := PySem.Value.type "tuple", data := PySem.Data.seq #[] } : PySem.Obj)) ::
  (nat_lit 166, ({ cls := PySem.Value.type "tuple", data := PySem.Data.seq #[PySem.Value.str (PySem.Str.ofString "kind") 421] } : PySem.Obj)) ::
  (nat_lit 167, ({ cls := PySem.Value.type "tuple", data := PySem.Data.seq #[] } : PySem.Obj)) ::
  (nat_lit 171, ({ cls := PySem.Value.type "tuple", data := PySem.Data.seq #[PySem.Value.str (PySem.Str.ofString "host") 435, PySem.Value.str (PySem.Str.ofString "free") 436, PySem.Value.str (PySem.Str.ofString "desc") 437, PySem.Value.str (PySem.Str.ofString "table") 438, PySem.Value.str (PySem.Str.ofString "cpu") 439, PySem.Value.str (PySem.Str.ofString "running") 440, PySem.Value.str (PySem.Str.ofString "data") 441] } : PySem.Obj)) ::
  (nat_lit 172, ({ cls := PySem.Value.type "dict", data := PySem.Data.dict #[PySem.DictEntry.mk (Hd.tHP P [PySem.Str.ofString "host", PySem.Str.ofString "read"]) (PySem.Value.ref 173) (PySem.Value.ref 174), PySem.DictEntry.mk (Hd.tHP P [PySem.Str.ofString "host", PySem.Str.ofString "write"]) (PySem.Value.ref 175) (PySem.Value.ref 176), PySem.DictEntry.mk (Hd.tHP P [PySem.Str.ofString "host", PySem.Str.ofString "drop"]) (PySem.Value.ref 177) (PySem.Value.ref 178), PySem.DictEntry.mk (Hd.tHP P [PySem.Str.ofString "monitor", PySem.Str.ofString "read"]) (PySem.Value.ref 179) (PySem.Value.ref 180), PySem.DictEntry.mk (Hd.tHP P [PySem.Str.ofString "monitor", PySem.Str.ofString "write"]) (PySem.Value.ref 181) (PySem.Value.ref 182), PySem.DictEntry.mk (Hd.tHP P [PySem.Str.ofString "monitor", PySem.Str.ofString "copy"]) (PySem.Value.ref 183) (PySem.Value.ref 184), PySem.DictEntry.mk (Hd.tHP P [PySem.Str.ofString "monitor", PySem.Str.ofString "hold"]) (PySem.Value.ref 185) (PySem.Value.ref 186), PySem.DictEntry.mk (Hd.tHP P [PySem.Str.ofString "monitor", PySem.Str.ofString "leave"]) (PySem.Value.ref 187) (PySem.Value.ref 188), PySem.DictEntry.mk (Hd.tHP P [PySem.Str.ofString "monitor", PySem.Str.ofString "release"]) (PySem.Value.ref 189) (PySem.Value.ref 190), PySem.DictEntry.mk (Hd.tHP P [PySem.Str.ofString "monitor", PySem.Str.ofString "look"]) (PySem.Value.ref 191) (PySem.Value.ref 192), PySem.DictEntry.mk (Hd.tHP P [PySem.Str.ofString "monitor", PySem.Str.ofString "swap"]) (PySem.Value.ref 193) (PySem.Value.ref 194), PySem.DictEntry.mk (Hd.tHP P [PySem.Str.ofString "monitor", PySem.Str.ofString "rest"]) (PySem.Value.ref 195) (PySem.Value.ref 196), PySem.DictEntry.mk (Hd.tHP P [PySem.Str.ofString "monitor", PySem.Str.ofString "present"]) (PySem.Value.ref 197) (PySem.Value.ref 198), PySem.DictEntry.mk (Hd.tHP P [PySem.Str.ofString "monitor", PySem.Str.ofString "seen"]) (PySem.Value.ref 199) (PySem.Value.ref 200), PySem.DictEntry.mk (Hd.tHP P [PySem.Str.ofString "monitor", PySem.Str.ofString "ticket"]) (PySem.Value.ref 201) (PySem.Value.ref 202), PySem.DictEntry.mk (Hd.tHP P [PySem.Str.ofString "monitor", PySem.Str.ofString "once"]) (PySem.Value.ref 203) (PySem.Value.ref 204), PySem.DictEntry.mk (Hd.tHP P [PySem.Str.ofString "core", PySem.Str.ofString "walk"]) (PySem.Value.ref 205) (PySem.Value.ref 206), PySem.DictEntry.mk (Hd.tHP P [PySem.Str.ofString "core", PySem.Str.ofString "leaf"]) (PySem.Value.ref 208) (PySem.Value.ref 209), PySem.DictEntry.mk (Hd.tHP P [PySem.Str.ofString "core", PySem.Str.ofString "touch"]) (PySem.Value.ref 210) (PySem.Value.ref 211), PySem.DictEntry.mk (Hd.tHP P [PySem.Str.ofString "core", PySem.Str.ofString "put"]) (PySem.Value.ref 212) (PySem.Value.ref 213)] 20 } : PySem.Obj)) ::
  (nat_lit 173, ({ cls := PySem.Value.type "tuple", data := PySem.Data.seq #[PySem.Value.str (PySem.Str.ofString "host") 443, PySem.Value.str (PySem.Str.ofString "read") 444] } : PySem.Obj)) ::
  (nat_lit 174, ({ cls := PySem.Value.type "tuple", data := PySem.Data.seq #[PySem.Value.str (PySem.Str.ofString "granule") 445, PySem.Value.str (PySem.Str.ofString "index") 446] } : PySem.Obj)) ::
  (nat_lit 175, ({ cls := PySem.Value.type "tuple", data := PySem.Data.seq #[PySem.Value.str (PySem.Str.ofString "host") 450, PySem.Value.str (PySem.Str.ofString "write") 451] } : PySem.Obj)) ::
  (nat_lit 176, ({ cls := PySem.Value.type "tuple", data := PySem.Data.seq #[PySem.Value.str (PySem.Str.ofString "granule") 452, PySem.Value.str (PySem.Str.ofString "index") 453, PySem.Value.str (PySem.Str.ofString "word") 454] } : PySem.Obj)) ::
  (nat_lit 177, ({ cls := PySem.Value.type "tuple", data := PySem.Data.seq #[PySem.Value.str (PySem.Str.ofString "host") 458, PySem.Value.str (PySem.Str.ofString "drop") 459] } : PySem.Obj)) ::
  (nat_lit 178, ({ cls := PySem.Value.type "tuple", data := PySem.Data.seq #[] } : PySem.Obj)) ::
  (nat_lit 179, ({ cls := PySem.Value.type "tuple", data := PySem.Data.seq #[PySem.Value.str (PySem.Str.ofString "monitor") 463, PySem.Value.str (PySem.Str.ofString "read") 464] } : PySem.Obj)) ::
  (nat_lit 180, ({ cls := PySem.Value.type "tuple", data := PySem.Data.seq #[PySem.Value.str (PySem.Str.ofString "granule") 465, PySem.Value.str (PySem.Str.ofString "index") 466] } : PySem.Obj)) ::
  (nat_lit 181, ({ cls := PySem.Value.type "tuple", data := PySem.Data.seq #[PySem.Value.str (PySem.Str.ofString "monitor") 470, PySem.Value.str (PySem.Str.ofString "write") 471] } : PySem.Obj)) ::
  (nat_lit 182, ({ cls := PySem.Value.type "tuple", data := PySem.Data.seq #[PySem.Value.str (PySem.Str.ofString "granule") 472, PySem.Value.str (PySem.Str.ofString "index") 473, PySem.Value.str (PySem.Str.ofString "word") 474] } : PySem.Obj)) ::
  (nat_lit 183, ({ cls := PySem.Value.type "tuple", data := PySem.Data.seq #[PySem.Value.str (PySem.Str.ofString "monitor") 478, PySem.Value.str (PySem.Str.ofString "copy") 479] } : PySem.Obj)) ::
  (nat_lit 184, ({ cls := PySem.Value.type "tuple", data := PySem.Data.seq #[PySem.Value.str (PySem.Str.ofString "granule") 480, PySem.Value.str (PySem.Str.ofString "index") 481] } : PySem.Obj)) ::
  (nat_lit 185, ({ cls := PySem.Value.type "tuple", data := PySem.Data.seq #[PySem.Value.str (PySem.Str.ofString "monitor") 485, PySem.Value.str (PySem.Str.ofString "hold") 486] } : PySem.Obj)) ::
  (nat_lit 186, ({ cls := PySem.Value.type "tuple", data := PySem.Data.seq #[PySem.Value.str (PySem.Str.ofString "granule") 487] } : PySem.Obj)) ::
  (nat_lit 187, ({ cls := PySem.Value.type "tuple", data := PySem.Data.seq #[PySem.Value.str (PySem.Str.ofString "monitor") 491, PySem.Value.str (PySem.Str.ofString "leave") 492] } : PySem.Obj)) ::
  (nat_lit 188, ({ cls := PySem.Value.type "tuple", data := PySem.Data.seq #[PySem.Value.str (PySem.Str.ofString "granule") 493, PySem.Value.str (PySem.Str.ofString "state") 494, PySem.Value.str (PySem.Str.ofString "owner") 495] } : PySem.Obj)) ::
  (nat_lit 189, ({ cls := PySem.Value.type "tuple", data := PySem.Data.seq #[PySem.Value.str (PySem.Str.ofString "monitor") 499, PySem.Value.str (PySem.Str.ofString "release") 500] } : PySem.Obj)) ::
  (nat_lit 190, ({ cls := PySem.Value.type "tuple", data := PySem.Data.seq #[PySem.Value.str (PySem.Str.ofString "granule") 501] } : PySem.Obj)) ::
  (nat_lit 191, ({ cls := PySem.Value.type "tuple", data := PySem.Data.seq #[PySem.Value.str (PySem.Str.ofString "monitor") 505, PySem.Value.str (PySem.Str.ofString "look") 506] } : PySem.Obj)) ::
  (nat_lit 192, ({ cls := PySem.Value.type "tuple", data := PySem.Data.seq #[PySem.Value.str (PySem.Str.ofString "granule") 507] } : PySem.Obj)) ::
  (nat_lit 193, ({ cls := PySem.Value.type "tuple", data := PySem.Data.seq #[PySem.Value.str (PySem.Str.ofString "monitor") 511, PySem.Value.str (PySem.Str.ofString "swap") 512] } : PySem.Obj)) ::
  (nat_lit 194, ({ cls := PySem.Value.type "tuple", data := PySem.Data.seq #[PySem.Value.str (PySem.Str.ofString "granule") 513, PySem.Value.str (PySem.Str.ofString "state") 514, PySem.Value.str (PySem.Str.ofString "state") 515] } : PySem.Obj)) ::
  (nat_lit 195, ({ cls := PySem.Value.type "tuple", data := PySem.Data.seq #[PySem.Value.str (PySem.Str.ofString "monitor") 519, PySem.Value.str (PySem.Str.ofString "rest") 520] } : PySem.Obj)) ::
  (nat_lit 196, ({ cls := PySem.Value.type "tuple", data := PySem.Data.seq #[PySem.Value.str (PySem.Str.ofString "granule") 521] } : PySem.Obj)) ::
  (nat_lit 197, ({ cls := PySem.Value.type "tuple", data := PySem.Data.seq #[PySem.Value.str (PySem.Str.ofString "monitor") 525, PySem.Value.str (PySem.Str.ofString "present") 526] } : PySem.Obj)) ::
  (nat_lit 198, ({ cls := PySem.Value.type "tuple", data := PySem.Data.seq #[PySem.Value.str (PySem.Str.ofString "owner") 527] } : PySem.Obj)) ::
  (nat_lit 199, ({ cls := PySem.Value.type "tuple", data := PySem.Data.seq #[PySem.Value.str (PySem.Str.ofString "monitor") 531, PySem.Value.str (PySem.Str.ofString "seen") 532] } : PySem.Obj)) ::
  (nat_lit 200, ({ cls := PySem.Value.type "tuple", data := PySem.Data.seq #[PySem.Value.str (PySem.Str.ofString "processor") 533] } : PySem.Obj)) ::
  (nat_lit 201, ({ cls := PySem.Value.type "tuple", data := PySem.Data.seq #[PySem.Value.str (PySem.Str.ofString "monitor") 537, PySem.Value.str (PySem.Str.ofString "ticket") 538] } : PySem.Obj)) ::
  (nat_lit 202, ({ cls := PySem.Value.type "tuple", data := PySem.Data.seq #[] } : PySem.Obj)) ::
  (nat_lit 203, ({ cls := PySem.Value.type "tuple", data := PySem.Data.seq #[PySem.Value.str (PySem.Str.ofString "monitor") 542, PySem.Value.str (PySem.Str.ofString "once") 543] } : PySem.Obj)) ::
  (nat_lit 204, ({ cls := PySem.Value.type "tuple", data := PySem.Data.seq #[PySem.Value.str (PySem.Str.ofString "word") 544] } : PySem.Obj)) ::
  (nat_lit 205, ({ cls := PySem.Value.type "tuple", data := PySem.Data.seq #[PySem.Value.str (PySem.Str.ofString "core") 548, PySem.Value.str (PySem.Str.ofString "walk") 549] } : PySem.Obj)) ::
  (nat_lit 206, ({ cls := PySem.Value.type "tuple", data := PySem.Data.seq #[PySem.Value.str (PySem.Str.ofString "granule") 550, PySem.Value.str (PySem.Str.ofString "index") 551] } : PySem.Obj)) ::
  (nat_lit 208, ({ cls := PySem.Value.type "tuple", data := PySem.Data.seq #[PySem.Value.str (PySem.Str.ofString "core") 555, PySem.Value.str (PySem.Str.ofString "leaf") 556] } : PySem.Obj)) ::
  (nat_lit 209, ({ cls := PySem.Value.type "tuple", data := PySem.Data.seq #[PySem.Value.str (PySem.Str.ofString "page") 557, PySem.Value.str (PySem.Str.ofString "granule") 558, PySem.Value.str (PySem.Str.ofString "index") 559] } : PySem.Obj)) ::
  (nat_lit 210, ({ cls := PySem.Value.type "tuple", data := PySem.Data.seq #[PySem.Value.str (PySem.Str.ofString "core") 560, PySem.Value.str (PySem.Str.ofString "touch") 561] } : PySem.Obj)) ::
  (nat_lit 211, ({ cls := PySem.Value.type "tuple", data := PySem.Data.seq #[PySem.Value.str (PySem.Str.ofString "page") 562, PySem.Value.str (PySem.Str.ofString "index") 563] } : PySem.Obj)) ::
  (nat_lit 212, ({ cls := PySem.Value.type "tuple", data := PySem.Data.seq #[PySem.Value.str (PySem.Str.ofString "core") 564, PySem.Value.str (PySem.Str.ofString "put") 565] } : PySem.Obj)) ::
  (nat_lit 213, ({ cls := PySem.Value.type "tuple", data := PySem.Data.seq #[PySem.Value.str (PySem.Str.ofString "page") 566, PySem.Value.str (PySem.Str.ofString "index") 567, PySem.Value.str (PySem.Str.ofString "word") 568] } : PySem.Obj)) ::
  (nat_lit 214, ({ cls := PySem.Value.type "tuple", data := PySem.Data.seq #[] } : PySem.Obj)) ::
  (nat_lit 216, ({ cls := PySem.Value.type "tuple", data := PySem.Data.seq #[PySem.Value.str (PySem.Str.ofString "value") 582] } : PySem.Obj)) ::
  (nat_lit 217, ({ cls := PySem.Value.type "tuple", data := PySem.Data.seq #[] } : PySem.Obj)) ::
  (nat_lit 219, ({ cls := PySem.Value.type "code", data := PySem.Data.fields #[PySem.Value.str (PySem.Str.ofString "is_granule") 579, PySem.Value.str (PySem.Str.ofString "is_granule") 580, PySem.Value.str (PySem.Str.ofString "/claim/cut.py") 581, PySem.Value.int 129 0, PySem.Value.int 1 0, PySem.Value.int 0 0, PySem.Value.int 0 0, PySem.Value.int 3 0, PySem.Value.ref 214, PySem.Value.bool Bool.true, PySem.Value.int 181 0, PySem.Value.ref 215, PySem.Value.none, PySem.Value.ref 216, PySem.Value.ref 217, PySem.Value.ref 218, PySem.Value.int 583 0, PySem.Value.int 129 0, PySem.Value.str (PySem.Str.ofString "/claim/cut.py") 584] } : PySem.Obj)) ::
  (nat_lit 220, (⟨PySem.Value.type "function", Option.none, .func (PySem.W.fnOf "is_granule" "is_granule" (C8.fnArgs Hc.s_is_granule) (C8.fnBody Hc.s_is_granule) (C8.fnScope Hc.s_is_granule) (PySem.Value.none) (PySem.Value.none) (PySem.Value.none) (PySem.Value.str (PySem.Str.ofString "hermitcell.memory") 425) (Option.none) (PySem.Value.ref 219) (PySem.Value.none)), #[]⟩ : PySem.Obj)) ::
  (nat_lit 221, ({ cls := PySem.Value.type "tuple", data := PySem.Data.seq #[] } : PySem.Obj)) ::
  (nat_lit 223, ({ cls := PySem.Value.type "tuple", data := PySem.Data.seq #[PySem.Value.str (PySem.Str.ofString "value") 589] } : PySem.Obj)) ::
  (nat_lit 224, ({ cls := PySem.Value.type "tuple", data := PySem.Data.seq #[] } : PySem.Obj)) ::
  (nat_lit 226, ({ cls := PySem.Value.type "code", data := PySem.Data.fields #[PySem.Value.str (PySem.Str.ofString "is_processor") 586, PySem.Value.str (PySem.Str.ofString "is_processor") 587, PySem.Value.str (PySem.Str.ofString "/claim/cut.py") 588, PySem.Value.int 131 0, PySem.Value.int 1 0, PySem.Value.int 0 0, PySem.Value.int 0 0, PySem.Value.int 3 0, PySem.Value.ref 221, PySem.Value.bool Bool.true, PySem.Value.int 181 0, PySem.Value.ref 222, PySem.Value.none, PySem.Value.ref 223, PySem.Value.ref 224, PySem.Value.ref 225, PySem.Value.int 590 0, PySem.Value.int 131 0, PySem.Value.str (PySem.Str.ofString "/claim/cut.py") 591] } : PySem.Obj)) ::
  (nat_lit 227, (⟨PySem.Value.type "function", Option.none, .func (PySem.W.fnOf "is_processor" "is_processor" (C8.fnArgs Hc.s_is_processor) (C8.fnBody Hc.s_is_processor) (C8.fnScope Hc.s_is_processor) (PySem.Value.none) (PySem.Value.none) (PySem.Value.none) (PySem.Value.str (PySem.Str.ofString "hermitcell.memory") 425) (Option.none) (PySem.Value.ref 226) (PySem.Value.none)), #[]⟩ : PySem.Obj)) ::
  (nat_lit 228, ({ cls := PySem.Value.type "tuple", data := PySem.Data.seq #[] } : PySem.Obj)) ::
  (nat_lit 230, ({ cls := PySem.Value.type "tuple", data := PySem.Data.seq #[PySem.Value.str (PySem.Str.ofString "value") 596] } : PySem.Obj)) ::
  (nat_lit 231, ({ cls := PySem.Value.type "tuple", data := PySem.Data.seq #[] } : PySem.Obj)) ::
  (nat_lit 233, ({ cls := PySem.Value.type "code", data := PySem.Data.fields #[PySem.Value.str (PySem.Str.ofString "is_page") 593, PySem.Value.str (PySem.Str.ofString "is_page") 594, PySem.Value.str (PySem.Str.ofString "/claim/cut.py") 595, PySem.Value.int 133 0, PySem.Value.int 1 0, PySem.Value.int 0 0, PySem.Value.int 0 0, PySem.Value.int 3 0, PySem.Value.ref 228, PySem.Value.bool Bool.true, PySem.Value.int 181 0, PySem.Value.ref 229, PySem.Value.none, PySem.Value.ref 230, PySem.Value.ref 231, PySem.Value.ref 232, PySem.Value.int 597 0, PySem.Value.int 133 0, PySem.Value.str (PySem.Str.ofString "/claim/cut.py") 598] } : PySem.Obj)) ::
  (nat_lit 234, (⟨PySem.Value.type "function", Option.none, .func (PySem.W.fnOf "is_page" "is_page" (C8.fnArgs Hc.s_is_page) (C8.fnBody Hc.s_is_page) (C8.fnScope Hc.s_is_page) (PySem.Value.none) (PySem.Value.none) (PySem.Value.none) (PySem.Value.str (PySem.Str.ofString "hermitcell.memory") 425) (Option.none) (PySem.Value.ref 233) (PySem.Value.none)), #[]⟩ : PySem.Obj)) ::
  (nat_lit 235, ({ cls := PySem.Value.type "tuple", data := PySem.Data.seq #[] } : PySem.Obj)) ::
  (nat_lit 238, ({ cls := PySem.Value.type "code", data := PySem.Data.fields #[PySem.Value.str (PySem.Str.ofString "is_access") 600, PySem.Value.str (PySem.Str.ofString "is_access") 601, PySem.Value.str (PySem.Str.ofString "/claim/cut.py") 602, PySem.Value.int 135 0, PySem.Value.int 2 0, PySem.Value.int 0 0, PySem.Value.int 0 0, PySem.Value.int 3 0, PySem.Value.ref 235, PySem.Value.bool Bool.true, PySem.Value.int 181 0, PySem.Value.ref 236, PySem.Value.none, PySem.Value.none, PySem.Value.none, PySem.Value.ref 237, PySem.Value.int 603 0, PySem.Value.int 135 0, PySem.Value.str (PySem.Str.ofString "/claim/cut.py") 604] } : PySem.Obj)) ::
  (nat_lit 239, (⟨PySem.Value.type "function", Option.none, .func (PySem.W.fnOf "is_access" "is_access" (C8.fnArgs Hc.s_is_access) (C8.fnBody Hc.s_is_access) (C8.fnScope Hc.s_is_access) (PySem.Value.none) (PySem.Value.none) (PySem.Value.none) (PySem.Value.str (PySem.Str.ofString "hermitcell.memory") 425) (Option.none) (PySem.Value.ref 238) (PySem.Value.none)), #[]⟩ : PySem.Obj)) ::
  (nat_lit 240, ({ cls := PySem.Value.type "tuple", data := PySem.Data.seq #[] } : PySem.Obj)) ::
  (nat_lit 242, ({ cls := PySem.Value.type "tuple", data := PySem.Data.seq #[PySem.Value.str (PySem.Str.ofString "value") 609] } : PySem.Obj)) ::
  (nat_lit 243, ({ cls := PySem.Value.type "tuple", data := PySem.Data.seq #[] } : PySem.Obj)) ::
  (nat_lit 245, ({ cls := PySem.Value.type "code", data := PySem.Data.fields #[PySem.Value.str (PySem.Str.ofString "has_name") 606, PySem.Value.str (PySem.Str.ofString "has_name") 607, PySem.Value.str (PySem.Str.ofString "/claim/cut.py") 608, PySem.Value.int 142 0, PySem.Value.int 1 0, PySem.Value.int 0 0, PySem.Value.int 0 0, PySem.Value.int 3 0, PySem.Value.ref 240, PySem.Value.bool Bool.true, PySem.Value.int 181 0, PySem.Value.ref 241, PySem.Value.none, PySem.Value.ref 242, PySem.Value.ref 243, PySem.Value.ref 244, PySem.Value.int 610 0, PySem.Value.int 142 0, PySem.Value.str (PySem.Str.ofString "/claim/cut.py") 611] } : PySem.Obj)) ::
  (nat_lit 246, (⟨PySem.Value.type "function", Option.none, .func (PySem.W.fnOf "has_name" "has_name" (C8.fnArgs Hc.s_has_name) (C8.fnBody Hc.s_has_name) (C8.fnScope Hc.s_has_name) (PySem.Value.none) (PySem.Value.none) (PySem.Value.none) (PySem.Value.str (PySem.Str.ofString "hermitcell.memory") 425) (Option.none) (PySem.Value.ref 245) (PySem.Value.none)), #[]⟩ : PySem.Obj)) ::
  (nat_lit 247, ({ cls := PySem.Value.type "tuple", data := PySem.Data.seq #[] } : PySem.Obj)) ::
  (nat_lit 249, ({ cls := PySem.Value.type "tuple", data := PySem.Data.seq #[PySem.Value.str (PySem.Str.ofString "part") 616, PySem.Value.str (PySem.Str.ofString "form") 617] } : PySem.Obj)) ::
  (nat_lit 250, ({ cls := PySem.Value.type "tuple", data := PySem.Data.seq #[] } : PySem.Obj)) ::
  (nat_lit 252, ({ cls := PySem.Value.type "code", data := PySem.Data.fields #[PySem.Value.str (PySem.Str.ofString "fits") 613, PySem.Value.str (PySem.Str.ofString "fits") 614, PySem.Value.str (PySem.Str.ofString "/claim/cut.py") 615, PySem.Value.int 144 0, PySem.Value.int 2 0, PySem.Value.int 0 0, PySem.Value.int 0 0, PySem.Value.int 3 0, PySem.Value.ref 247, PySem.Value.bool Bool.true, PySem.Value.int 181 0, PySem.Value.ref 248, PySem.Value.none, PySem.Value.ref 249, PySem.Value.ref 250, PySem.Value.ref 251, PySem.Value.int 618 0, PySem.Value.int 144 0, PySem.Value.str (PySem.Str.ofString "/claim/cut.py") 619] } : PySem.Obj)) ::
  (nat_lit 253, (⟨PySem.Value.type "function", Option.none, .func (PySem.W.fnOf "fits" "fits" (C8.fnArgs Hc.s_fits) (C8.fnBody Hc.s_fits) (C8.fnScope Hc.s_fits) (PySem.Value.none) (PySem.Value.none) (PySem.Value.none) (PySem.Value.str (PySem.Str.ofString "hermitcell.memory") 425) (Option.none) (PySem.Value.ref 252) (PySem.Value.none)), #[]⟩ : PySem.Obj)) ::
  (nat_lit 254, ({ cls := PySem.Value.type "tuple", data := PySem.Data.seq #[] } : PySem.Obj)) ::
  (nat_lit 256, ({ cls := PySem.Value.type "tuple", data := PySem.Data.seq #[PySem.Value.str (PySem.Str.ofString "word") 624] } : PySem.Obj)) ::
  (nat_lit 257, ({ cls := PySem.Value.type "tuple", data := PySem.Data.seq #[] } : PySem.Obj)) ::
  (nat_lit 268, ({ cls := PySem.Value.type "tuple", data := PySem.Data.seq #[PySem.Value.none] } : PySem.Obj)) ::
  (nat_lit 269, ({ cls := PySem.Value.type "tuple", data := PySem.Data.seq #[] } : PySem.Obj)) ::
  (nat_lit 272, ({ cls := PySem.Value.type "code", data := PySem.Data.fields #[PySem.Value.str (PySem.Str.ofString "__init__") 640, PySem.Value.str (PySem.Str.ofString "Memory.__init__") 641, PySem.Value.str (PySem.Str.ofString "/claim/cut.py") 642, PySem.Value.int 162 0, PySem.Value.int 2 0, PySem.Value.int 0 0, PySem.Value.int 0 0, PySem.Value.int 3 0, PySem.Value.ref 269, PySem.Value.bool Bool.true, PySem.Value.int 181 0, PySem.Value.ref 270, PySem.Value.none, PySem.Value.none, PySem.Value.none, PySem.Value.ref 271, PySem.Value.int 643 0, PySem.Value.int 162 0, PySem.Value.str (PySem.Str.ofString "/claim/cut.py") 644] } : PySem.Obj)) ::
  (nat_lit 273, (⟨PySem.Value.type "function", Option.none, .func (PySem.W.fnOf "__init__" "Memory.__init__" (C8.fnArgs Hc.s_Memory___init__) (C8.fnBody Hc.s_Memory___init__) (C8.fnScope Hc.s_Memory___init__) (PySem.Value.ref 268) (PySem.Value.none) (PySem.Value.none) (PySem.Value.str (PySem.Str.ofString "hermitcell.memory") 425) (Option.none) (PySem.Value.ref 272) (PySem.Value.none)), #[]⟩ : PySem.Obj)) ::
  (nat_lit 274, ({ cls := PySem.Value.type "tuple", data := PySem.Data.seq #[] } : PySem.Obj)) ::
  (nat_lit 276, ({ cls := PySem.Value.type "tuple", data := PySem.Data.seq #[PySem.Value.str (PySem.Str.ofString "self") 649, PySem.Value.str (PySem.Str.ofString "actor") 650, PySem.Value.str (PySem.Str.ofString "request") 651, PySem.Value.str (PySem.Str.ofString "kind") 652, PySem.Value.str (PySem.Str.ofString "processor") 653, PySem.Value.str (PySem.Str.ofString "name") 654, PySem.Value.str (PySem.Str.ofString "parts") 655, PySem.Value.str (PySem.Str.ofString "result") 656] } : PySem.Obj)) ::
  (nat_lit 277, ({ cls := PySem.Value.type "tuple", data := PySem.Data.seq #[] } : PySem.Obj)) ::
  (nat_lit 279, ({ cls := PySem.Value.type "code", data := PySem.Data.fields #[PySem.Value.str (PySem.Str.ofString "access") 646, PySem.Value.str (PySem.Str.ofString "Memory.access") 647, PySem.Value.str (PySem.Str.ofString "/claim/cut.py") 648, PySem.Value.int 174 0, PySem.Value.int 3 0, PySem.Value.int 0 0, PySem.Value.int 0 0, PySem.Value.int 3 0, PySem.Value.ref 274, PySem.Value.bool Bool.true, PySem.Value.int 181 0, PySem.Value.ref 275, PySem.Value.none, PySem.Value.ref 276, PySem.Value.ref 277, PySem.Value.ref 278, PySem.Value.int 657 0, PySem.Value.int 174 0, PySem.Value.str (PySem.Str.ofString "/claim/cut.py") 658] } : PySem.Obj)) ::
  (nat_lit 280, (⟨PySem.Value.type "function", Option.none, .func (PySem.W.fnOf "access" "Memory.access" (C8.fnArgs Hc.s_Memory_access) (C8.fnBody Hc.s_Memory_access) (C8.fnScope Hc.s_Memory_access) (PySem.Value.none) (PySem.Value.none) (PySem.Value.none) (PySem.Value.str (PySem.Str.ofString "hermitcell.memory") 425) (Option.none) (PySem.Value.ref 279) (PySem.Value.none)), #[]⟩ : PySem.Obj)) ::
  (nat_lit 281, ({ cls := PySem.Value.type "tuple", data := PySem.Data.seq #[] } : PySem.Obj)) ::
  (nat_lit 283, ({ cls := PySem.Value.type "tuple", data := PySem.Data.seq #[PySem.Value.str (PySem.Str.ofString "self") 663] } : PySem.Obj)) ::
  (nat_lit 284, ({ cls := PySem.Value.type "tuple", data := PySem.Data.seq #[] } : PySem.Obj)) ::
  (nat_lit 286, ({ cls := PySem.Value.type "code", data := PySem.Data.fields #[PySem.Value.str (PySem.Str.ofString "log") 660, PySem.Value.str (PySem.Str.ofString "Memory.log") 661, PySem.Value.str (PySem.Str.ofString "/claim/cut.py") 662, PySem.Value.int 188 0, PySem.Value.int 1 0, PySem.Value.int 0 0, PySem.Value.int 0 0, PySem.Value.int 3 0, PySem.Value.ref 281, PySem.Value.bool Bool.true, PySem.Value.int 181 0, PySem.Value.ref 282, PySem.Value.none, PySem.Value.ref 283, PySem.Value.ref 284, PySem.Value.ref 285, PySem.Value.int 664 0, PySem.Value.int 188 0, PySem.Value.str (PySem.Str.ofString "/claim/cut.py") 665] } : PySem.Obj)) ::
  (nat_lit 287, (⟨PySem.Value.type "function", Option.none, .func (PySem.W.fnOf "log" "Memory.log" (C8.fnArgs Hc.s_Memory_log) (C8.fnBody Hc.s_Memory_log) (C8.fnScope Hc.s_Memory_log) (PySem.Value.none) (PySem.Value.none) (PySem.Value.none) (PySem.Value.str (PySem.Str.ofString "hermitcell.memory") 425) (Option.none) (PySem.Value.ref 286) (PySem.Value.none)), #[]⟩ : PySem.Obj)) ::
  (nat_lit 288, ({ cls := PySem.Value.type "tuple", data := PySem.Data.seq #[] } : PySem.Obj)) ::
  (nat_lit 290, ({ cls := PySem.Value.type "tuple", data := PySem.Data.seq #[PySem.Value.str (PySem.Str.ofString "self") 670] } : PySem.Obj)) ::
  (nat_lit 291, ({ cls := PySem.Value.type "tuple", data := PySem.Data.seq #[] } : PySem.Obj)) ::
  (nat_lit 295, ({ cls := PySem.Value.type "tuple", data := PySem.Data.seq #[] } : PySem.Obj)) ::
  (nat_lit 297, ({ cls := PySem.Value.type "tuple", data := PySem.Data.seq #[PySem.Value.str (PySem.Str.ofString "self") 677, PySem.Value.str (PySem.Str.ofString "g") 678] } : PySem.Obj)) ::
  (nat_lit 298, ({ cls := PySem.Value.type "tuple", data := PySem.Data.seq #[] } : PySem.Obj)) ::
  (nat_lit 300, ({ cls := PySem.Value.type "code", data := PySem.Data.fields #[PySem.Value.str (PySem.Str.ofString "status") 674, PySem.Value.str (PySem.Str.ofString "Memory.status") 675, PySem.Value.str (PySem.Str.ofString "/claim/cut.py") 676, PySem.Value.int 194 0, PySem.Value.int 2 0, PySem.Value.int 0 0, PySem.Value.int 0 0, PySem.Value.int 3 0, PySem.Value.ref 295, PySem.Value.bool Bool.true, PySem.Value.int 181 0, PySem.Value.ref 296, PySem.Value.none, PySem.Value.ref 297, PySem.Value.ref 298, PySem.Value.ref 299, PySem.Value.int 679 0, PySem.Value.int 194 0, PySem.Value.str (PySem.Str.ofString "/claim/cut.py") 680] } : PySem.Obj)) ::
  (nat_lit 301, (⟨PySem.Value.type "function", Option.none, .func (PySem.W.fnOf "status" "Memory.status" (C8.fnArgs Hc.s_Memory_status) (C8.fnBody Hc.s_Memory_status) (C8.fnScope Hc.s_Memory_status) (PySem.Value.none) (PySem.Value.none) (PySem.Value.none) (PySem.Value.str (PySem.Str.ofString "hermitcell.memory") 425) (Option.none) (PySem.Value.ref 300) (PySem.Value.none)), #[]⟩ : PySem.Obj)) ::
  (nat_lit 302, ({ cls := PySem.Value.type "tuple", data := PySem.Data.seq #[] } : PySem.Obj)) ::
  (nat_lit 304, ({ cls := PySem.Value.type "tuple", data := PySem.Data.seq #[PySem.Value.str (PySem.Str.ofString "self") 685, PySem.Value.str (PySem.Str.ofString "g") 686] } : PySem.Obj)) ::
  (nat_lit 305, ({ cls := PySem.Value.type "tuple", data := PySem.Data.seq #[] } : PySem.Obj)) ::
  (nat_lit 307, ({ cls := PySem.Value.type "code", data := PySem.Data.fields #[PySem.Value.str (PySem.Str.ofString "words") 682, PySem.Value.str (PySem.Str.ofString "Memory.words") 683, PySem.Value.str (PySem.Str.ofString "/claim/cut.py") 684, PySem.Value.int 197 0, PySem.Value.int 2 0, PySem.Value.int 0 0, PySem.Value.int 0 0, PySem.Value.int 3 0, PySem.Value.ref 302, PySem.Value.bool Bool.true, PySem.Value.int 181 0, PySem.Value.ref 303, PySem.Value.none, PySem.Value.ref 304, PySem.Value.ref 305, PySem.Value.ref 306, PySem.Value.int 687 0, PySem.Value.int 197 0, PySem.Value.str (PySem.Str.ofString "/claim/cut.py") 688] } : PySem.Obj)) ::
  (nat_lit 308, (⟨PySem.Value.type "function", Option.none, .func (PySem.W.fnOf "words" "Memory.words" (C8.fnArgs Hc.s_Memory_words) (C8.fnBody Hc.s_Memory_words) (C8.fnScope Hc.s_Memory_words) (PySem.Value.none) (PySem.Value.none) (PySem.Value.none) (PySem.Value.str (PySem.Str.ofString "hermitcell.memory") 425) (Option.none) (PySem.Value.ref 307) (PySem.Value.none)), #[]⟩ : PySem.Obj)) ::
  (nat_lit 309, ({ cls := PySem.Value.type "tuple", data := PySem.Data.seq #[] } : PySem.Obj)) ::
  (nat_lit 311, ({ cls := PySem.Value.type "tuple", data := PySem.Data.seq #[PySem.Value.str (PySem.Str.ofString "self") 693, PySem.Value.str (PySem.Str.ofString "p") 694] } : PySem.Obj)) ::
  (nat_lit 312, ({ cls := PySem.Value.type "tuple", data := PySem.Data.seq #[] } : PySem.Obj)) ::
  (nat_lit 316, ({ cls := PySem.Value.type "tuple", data := PySem.Data.seq #[] } : PySem.Obj)) ::
  (nat_lit 318, ({ cls := PySem.Value.type "tuple", data := PySem.Data.seq #[PySem.Value.str (PySem.Str.ofString "self") 701, PySem.Value.str (PySem.Str.ofString "p") 702] } : PySem.Obj)) ::
  (nat_lit 319, ({ cls := PySem.Value.type "tuple", data := PySem.Data.seq #[] } : PySem.Obj)) ::
  (nat_lit 323, ({ cls := PySem.Value.type "tuple", data := PySem.Data.seq #[] } : PySem.Obj)) ::
  (nat_lit 325, ({ cls := PySem.Value.type "tuple", data := PySem.Data.seq #[PySem.Value.str (PySem.Str.ofString "self") 709, PySem.Value.str (PySem.Str.ofString "p") 710] } : PySem.Obj)) ::
  (nat_lit 326, ({ cls := PySem.Value.type "tuple", data := PySem.Data.seq #[] } : PySem.Obj)) ::
  (nat_lit 330, ({ cls := PySem.Value.type "tuple", data := PySem.Data.seq #[] } : PySem.Obj)) ::
  (nat_lit 332, ({ cls := PySem.Value.type "tuple", data := PySem.Data.seq #[PySem.Value.str (PySem.Str.ofString "self") 717, PySem.Value.str (PySem.Str.ofString "p") 718] } : PySem.Obj)) ::
  (nat_lit 333, ({ cls := PySem.Value.type "tuple", data := PySem.Data.seq #[] } : PySem.Obj)) ::
  (nat_lit 337, ({ cls := PySem.Value.type "tuple", data := PySem.Data.seq #[] } : PySem.Obj)) ::
  (nat_lit 339, ({ cls := PySem.Value.type "tuple", data := PySem.Data.seq #[PySem.Value.str (PySem.Str.ofString "self") 725] } : PySem.Obj)) ::
  (nat_lit 340, ({ cls := PySem.Value.type "tuple", data := PySem.Data.seq #[] } : PySem.Obj)) ::
  (nat_lit 344, ({ cls := PySem.Value.type "tuple", data := PySem.Data.seq #[] } : PySem.Obj)) ::
  (nat_lit 346, ({ cls := PySem.Value.type "tuple", data := PySem.Data.seq #[PySem.Value.str (PySem.Str.ofString "self") 732] } : PySem.Obj)) ::
  (nat_lit 347, ({ cls := PySem.Value.type "tuple", data := PySem.Data.seq #[] } : PySem.Obj)) ::
  (nat_lit 351, ({ cls := PySem.Value.type "tuple", data := PySem.Data.seq #[] } : PySem.Obj)) ::
  (nat_lit 356, ({ cls := PySem.Value.type "tuple", data := PySem.Data.seq #[] } : PySem.Obj)) ::
  (nat_lit 358, ({ cls := PySem.Value.type "tuple", data := PySem.Data.seq #[PySem.Value.str (PySem.Str.ofString "self") 745, PySem.Value.str (PySem.Str.ofString "g") 746, PySem.Value.str (PySem.Str.ofString "i") 747, PySem.Value.str (PySem.Str.ofString "word") 748] } : PySem.Obj)) ::
  (nat_lit 359, ({ cls := PySem.Value.type "tuple", data := PySem.Data.seq #[] } : PySem.Obj)) ::
  (nat_lit 363, ({ cls := PySem.Value.type "tuple", data := PySem.Data.seq #[] } : PySem.Obj)) ::
  (nat_lit 365, ({ cls := PySem.Value.type "tuple", data := PySem.Data.seq #[PySem.Value.str (PySem.Str.ofString "self") 755, PySem.Value.str (PySem.Str.ofString "wall") 756] } : PySem.Obj)) ::
  (nat_lit 366, ({ cls := PySem.Value.type "tuple", data := PySem.Data.seq #[] } : PySem.Obj)) ::
  (nat_lit 370, ({ cls := PySem.Value.type "tuple", data := PySem.Data.seq #[] } : PySem.Obj)) ::
  (nat_lit 372, ({ cls := PySem.Value.type "tuple", data := PySem.Data.seq #[PySem.Value.str (PySem.Str.ofString "self") 763, PySem.Value.str (PySem.Str.ofString "p") 764, PySem.Value.str (PySem.Str.ofString "name") 765, PySem.Value.str (PySem.Str.ofString "parts") 766] } : PySem.Obj)) ::
  (nat_lit 373, ({ cls := PySem.Value.type "tuple", data := PySem.Data.seq #[] } : PySem.Obj)) ::
  (nat_lit 377, ({ cls := PySem.Value.type "tuple", data := PySem.Data.seq #[] } : PySem.Obj)) ::
  (nat_lit 379, ({ cls := PySem.Value.type "tuple", data := PySem.Data.seq #[PySem.Value.str (PySem.Str.ofString "self") 773, PySem.Value.str (PySem.Str.ofString "p") 774, PySem.Value.str (PySem.Str.ofString "name") 775, PySem.Value.str (PySem.Str.ofString "parts") 776] } : PySem.Obj)) ::
  (nat_lit 380, ({ cls := PySem.Value.type "tuple", data := PySem.Data.seq #[] } : PySem.Obj)) ::
  (nat_lit 382, ({ cls := PySem.Value.type "code", data := PySem.Data.fields #[PySem.Value.str (PySem.Str.ofString "_act_as_monitor") 770, PySem.Value.str (PySem.Str.ofString "Memory._act_as_monitor") 771, PySem.Value.str (PySem.Str.ofString "/claim/cut.py") 772, PySem.Value.int 244 0, PySem.Value.int 4 0, PySem.Value.int 0 0, PySem.Value.int 0 0, PySem.Value.int 3 0, PySem.Value.ref 377, PySem.Value.bool Bool.true, PySem.Value.int 181 0, PySem.Value.ref 378, PySem.Value.none, PySem.Value.ref 379, PySem.Value.ref 380, PySem.Value.ref 381, PySem.Value.int 777 0, PySem.Value.int 244 0, PySem.Value.str (PySem.Str.ofString "/claim/cut.py") 778] } : PySem.Obj)) ::
  (nat_lit 383, (⟨PySem.Value.type "function", Option.none, .func (PySem.W.fnOf "_act_as_monitor" "Memory._act_as_monitor" (C8.fnArgs Hc.s_Memory__act_as_monitor) (C8.fnBody Hc.s_Memory__act_as_monitor) (C8.fnScope Hc.s_Memory__act_as_monitor) (PySem.Value.none) (PySem.Value.none) (PySem.Value.none) (PySem.Value.str (PySem.Str.ofString "hermitcell.memory") 425) (Option.none) (PySem.Value.ref 382) (PySem.Value.none)), #[]⟩ : PySem.Obj)) ::
  (nat_lit 384, ({ cls := PySem.Value.type "tuple", data := PySem.Data.seq #[] } : PySem.Obj)) ::
  (nat_lit 386, ({ cls := PySem.Value.type "tuple", data := PySem.Data.seq #[PySem.Value.str (PySem.Str.ofString "self") 783, PySem.Value.str (PySem.Str.ofString "p") 784, PySem.Value.str (PySem.Str.ofString "name") 785, PySem.Value.str (PySem.Str.ofString "parts") 786] } : PySem.Obj)) ::
  (nat_lit 387, ({ cls := PySem.Value.type "tuple", data := PySem.Data.seq #[] } : PySem.Obj)) ::
  (nat_lit 391, ({ cls := PySem.Value.type "tuple", data := PySem.Data.seq #[] } : PySem.Obj)) ::
  (nat_lit 393, ({ cls := PySem.Value.type "tuple", data := PySem.Data.seq #[PySem.Value.str (PySem.Str.ofString "self") 793, PySem.Value.str (PySem.Str.ofString "g") 794, PySem.Value.str (PySem.Str.ofString "i") 795] } : PySem.Obj)) ::
  (nat_lit 394, ({ cls := PySem.Value.type "tuple", data := PySem.Data.seq #[] } : PySem.Obj)) ::
  (nat_lit 398, ({ cls := PySem.Value.type "tuple", data := PySem.Data.seq #[] } : PySem.Obj)) ::
  (nat_lit 400, ({ cls := PySem.Value.type "tuple", data := PySem.Data.seq #[PySem.Value.str (PySem.Str.ofString "self") 802, PySem.Value.str (PySem.Str.ofString "g") 803, PySem.Value.str (PySem.Str.ofString "i") 804] } : PySem.Obj)) ::
  (nat_lit 401, ({ cls := PySem.Value.type "tuple", data := PySem.Data.seq #[] } : PySem.Obj)) ::
  (nat_lit 405, ({ cls := PySem.Value.type "tuple", data := PySem.Data.seq #[] } : PySem.Obj)) ::
  (nat_lit 407, ({ cls := PySem.Value.type "tuple", data := PySem.Data.seq #[PySem.Value.str (PySem.Str.ofString "self") 811, PySem.Value.str (PySem.Str.ofString "g") 812, PySem.Value.str (PySem.Str.ofString "i") 813, PySem.Value.str (PySem.Str.ofString "word") 814] } : PySem.Obj)) ::
  (nat_lit 408, ({ cls := PySem.Value.type "tuple", data := PySem.Data.seq #[] } : PySem.Obj)) ::
  (nat_lit 412, ({ cls := PySem.Value.type "tuple", data := PySem.Data.seq #[] } : PySem.Obj)) ::
  (nat_lit 414, ({ cls := PySem.Value.type "tuple", data := PySem.Data.seq #[PySem.Value.str (PySem.Str.ofString "self") 821, PySem.Value.str (PySem.Str.ofString "p") 822] } : PySem.Obj)) ::
  (nat_lit 415, ({ cls := PySem.Value.type "tuple", data := PySem.Data.seq #[] } : PySem.Obj)) ::
  (nat_lit 419, ({ cls := PySem.Value.type "tuple", data := PySem.Data.seq #[] } : PySem.Obj)) ::
  (nat_lit 421, ({ cls := PySem.Value.type "tuple", data := PySem.Data.seq #[PySem.Value.str (PySem.Str.ofString "self") 829, PySem.Value.str (PySem.Str.ofString "g") 830, PySem.Value.str (PySem.Str.ofString "i") 831] } : PySem.Obj)) ::
  (nat_lit 422, ({ cls := PySem.Value.type "tuple", data := PySem.Data.seq #[] } : PySem.Obj)) ::
  (nat_lit 426, ({ cls := PySem.Value.type "tuple", data := PySem.Data.seq #[] } : PySem.Obj)) ::
  (nat_lit 428, ({ cls := PySem.Value.type "tuple", data := PySem.Data.seq #[PySem.Value.str (PySem.Str.ofString "self") 838, PySem.Value.str (PySem.Str.ofString "g") 839, PySem.Value.str (PySem.Str.ofString "i") 840, PySem.Value.str (PySem.Str.ofString "word") 841] } : PySem.Obj)) ::
  (nat_lit 429, ({ cls := PySem.Value.type "tuple", data := PySem.Data.seq #[] } : PySem.Obj)) ::
  (nat_lit 431, ({ cls := PySem.Value.type "code", data := PySem.Data.fields #[PySem.Value.str (PySem.Str.ofString "_write") 835, PySem.Value.str (PySem.Str.ofString "Memory._write") 836, PySem.Value.str (PySem.Str.ofString "/claim/cut.py") 837, PySem.Value.int 303 0, PySem.Value.int 4 0, PySem.Value.int 0 0, PySem.Value.int 0 0, PySem.Value.int 3 0, PySem.Value.ref 426, PySem.Value.bool Bool.true, PySem.Value.int 181 0, PySem.Value.ref 427, PySem.Value.none, PySem.Value.ref 428, PySem.Value.ref 429, PySem.Value.ref 430, PySem.Value.int 842 0, PySem.Value.int 303 0, PySem.Value.str (PySem.Str.ofString "/claim/cut.py") 843] } : PySem.Obj)) ::
  (nat_lit 432, (⟨PySem.Value.type "function", Option.none, .func (PySem.W.fnOf "_write" "Memory._write" (C8.fnArgs Hc.s_Memory__write) (C8.fnBody Hc.s_Memory__write) (C8.fnScope Hc.s_Memory__write) (PySem.Value.none) (PySem.Value.none) (PySem.Value.none) (PySem.Value.str (PySem.Str.ofString "hermitcell.memory") 425) (Option.none) (PySem.Value.ref 431) (PySem.Value.none)), #[]⟩ : PySem.Obj)) ::
  (nat_lit 433, ({ cls := PySem.Value.type "tuple", data := PySem.Data.seq #[] } : PySem.Obj)) ::
  (nat_lit 435, ({ cls := PySem.Value.type "tuple", data := PySem.Data.seq #[PySem.Value.str (PySem.Str.ofString "self") 848, PySem.Value.str (PySem.Str.ofString "p") 849, PySem.Value.str (PySem.Str.ofString "g") 850, PySem.Value.str (PySem.Str.ofString "state") 851, PySem.Value.str (PySem.Str.ofString "owner") 852, PySem.Value.str (PySem.Str.ofString "holder") 853] } : PySem.Obj)) ::
  (nat_lit 436, ({ cls := PySem.Value.type "tuple", data := PySem.Data.seq #[] } : PySem.Obj)) ::
  (nat_lit 438, ({ cls := PySem.Value.type "code", data := PySem.Data.fields #[PySem.Value.str (PySem.Str.ofString "_hold") 845, PySem.Value.str (PySem.Str.ofString "Memory._hold") 846, PySem.Value.str (PySem.Str.ofString "/claim/cut.py") 847, PySem.Value.int 306 0, PySem.Value.int 3 0, PySem.Value.int 0 0, PySem.Value.int 0 0, PySem.Value.int 3 0, PySem.Value.ref 433, PySem.Value.bool Bool.true, PySem.Value.int 181 0, PySem.Value.ref 434, PySem.Value.none, PySem.Value.ref 435, PySem.Value.ref 436, PySem.Value.ref 437, PySem.Value.int 854 0, PySem.Value.int 306 0, PySem.Value.str (PySem.Str.ofString "/claim/cut.py") 855] } : PySem.Obj)) ::
  (nat_lit 439, (⟨PySem.Value.type "function", Option.none, .func (PySem.W.fnOf "_hold" "Memory._hold" (C8.fnArgs Hc.s_Memory__hold) (C8.fnBody Hc.s_Memory__hold) (C8.fnScope Hc.s_Memory__hold) (PySem.Value.none) (PySem.Value.none) (PySem.Value.none) (PySem.Value.str (PySem.Str.ofString "hermitcell.memory") 425) (Option.none) (PySem.Value.ref 438) (PySem.Value.none)), #[]⟩ : PySem.Obj)) ::
  (nat_lit 440, ({ cls := PySem.Value.type "tuple", data := PySem.Data.seq #[] } : PySem.Obj)) ::
  (nat_lit 442, ({ cls := PySem.Value.type "tuple", data := PySem.Data.seq #[PySem.Value.str (PySem.Str.ofString "self") 860, PySem.Value.str (PySem.Str.ofString "g") 861, PySem.Value.str (PySem.Str.ofString "state") 862, PySem.Value.str (PySem.Str.ofString "owner") 863] } : PySem.Obj)) ::
  (nat_lit 443, ({ cls := PySem.Value.type "tuple", data := PySem.Data.seq #[] } : PySem.Obj)) ::
  (nat_lit 445, ({ cls := PySem.Value.type "code", data := PySem.Data.fields #[PySem.Value.str (PySem.Str.ofString "_leave") 857, PySem.Value.str (PySem.Str.ofString "Memory._leave") 858, PySem.Value.str (PySem.Str.ofString "/claim/cut.py") 859, PySem.Value.int 313 0, PySem.Value.int 4 0, PySem.Value.int 0 0, PySem.Value.int 0 0, PySem.Value.int 3 0, PySem.Value.ref 440, PySem.Value.bool Bool.true, PySem.Value.int 181 0, PySem.Value.ref 441, PySem.Value.none, PySem.Value.ref 442, PySem.Value.ref 443, PySem.Value.ref 444, PySem.Value.int 864 0, PySem.Value.int 313 0, PySem.Value.str (PySem.Str.ofString "/claim/cut.py") 865] } : PySem.Obj)) ::
  (nat_lit 446, (⟨PySem.Value.type "function", Option.none, .func (PySem.W.fnOf "_leave" "Memory._leave" (C8.fnArgs Hc.s_Memory__leave) (C8.fnBody Hc.s_Memory__leave) (C8.fnScope Hc.s_Memory__leave) (PySem.Value.none) (PySem.Value.none) (PySem.Value.none) (PySem.Value.str (PySem.Str.ofString "hermitcell.memory") 425) (Option.none) (PySem.Value.ref 445) (PySem.Value.none)), #[]⟩ : PySem.Obj)) ::
  (nat_lit 447, ({ cls := PySem.Value.type "tuple", data := PySem.Data.seq #[] } : PySem.Obj)) ::
  (nat_lit 449, ({ cls := PySem.Value.type "tuple", data := PySem.Data.seq #[PySem.Value.str (PySem.Str.ofString "self") 870, PySem.Value.str (PySem.Str.ofString "p") 871, PySem.Value.str (PySem.Str.ofString "g") 872, PySem.Value.str (PySem.Str.ofString "state") 873, PySem.Value.str (PySem.Str.ofString "owner") 874, PySem.Value.str (PySem.Str.ofString "holder") 875] } : PySem.Obj)) ::
  (nat_lit 450, ({ cls := PySem.Value.type "tuple", data := PySem.Data.seq #[] } : PySem.Obj)) ::
  (nat_lit 454, ({ cls := PySem.Value.type "tuple", data := PySem.Data.seq #[] } : PySem.Obj)) ::
  (nat_lit 456, ({ cls := PySem.Value.type "tuple", data := PySem.Data.seq #[PySem.Value.str (PySem.Str.ofString "self") 882, PySem.Value.str (PySem.Str.ofString "g") 883] } : PySem.Obj)) ::
  (nat_lit 457, ({ cls := PySem.Value.type "tuple", data := PySem.Data.seq #[] } : PySem.Obj)) ::
  (nat_lit 461, ({ cls := PySem.Value.type "tuple", data := PySem.Data.seq #[] } : PySem.Obj)) ::
  (nat_lit 463, ({ cls := PySem.Value.type "tuple", data := PySem.Data.seq #[PySem.Value.str (PySem.Str.ofString "self") 890, PySem.Value.str (PySem.Str.ofString "g") 891, PySem.Value.str (PySem.Str.ofString "old") 892, PySem.Value.str (PySem.Str.ofString "new") 893, PySem.Value.str (PySem.Str.ofString "state") 894, PySem.Value.str (PySem.Str.ofString "owner") 895, PySem.Value.str (PySem.Str.ofString "holder") 896] } : PySem.Obj)) ::
  (nat_lit 464, ({ cls := PySem.Value.type "tuple", data := PySem.Data.seq #[] } : PySem.Obj)) ::
  (nat_lit 468, ({ cls := PySem.Value.type "tuple", data := PySem.Data.seq #[] } : PySem.Obj)) ::
  (nat_lit 470, ({ cls := PySem.Value.type "tuple", data := PySem.Data.seq #[PySem.Value.str (PySem.Str.ofString "self") 903, PySem.Value.str (PySem.Str.ofString "g") 904, PySem.Value.str (PySem.Str.ofString "state") 905, PySem.Value.str (PySem.Str.ofString "owner") 906, PySem.Value.str (PySem.Str.ofString "holder") 907] } : PySem.Obj)) ::
  (nat_lit 471, ({ cls := PySem.Value.type "tuple", data := PySem.Data.seq #[] } : PySem.Obj)) ::
  (nat_lit 475, ({ cls := PySem.Value.type "tuple", data := PySem.Data.seq #[] } : PySem.Obj)) ::
  (nat_lit 477, ({ cls := PySem.Value.type "tuple", data := PySem.Data.seq #[PySem.Value.str (PySem.Str.ofString "self") 914, PySem.Value.str (PySem.Str.ofString "p") 915, PySem.Value.str (PySem.Str.ofString "d") 916] } : PySem.Obj)) ::
  (nat_lit 478, ({ cls := PySem.Value.type "tuple", data := PySem.Data.seq #[] } : PySem.Obj)) ::
  (nat_lit 482, ({ cls := PySem.Value.type "tuple", data := PySem.Data.seq #[] } : PySem.Obj)) ::
  (nat_lit 484, ({ cls := PySem.Value.type "tuple", data := PySem.Data.seq #[PySem.Value.str (PySem.Str.ofString "self") 923, PySem.Value.str (PySem.Str.ofString "q") 924] } : PySem.Obj)) ::
  (nat_lit 485, ({ cls := PySem.Value.type "tuple", data := PySem.Data.seq #[] } : PySem.Obj)) ::
  (nat_lit 489, ({ cls := PySem.Value.type "tuple", data := PySem.Data.seq #[] } : PySem.Obj)) ::
  (nat_lit 491, ({ cls := PySem.Value.type "tuple", data := PySem.Data.seq #[PySem.Value.str (PySem.Str.ofString "self") 931] } : PySem.Obj)) ::
  (nat_lit 492, ({ cls := PySem.Value.type "tuple", data := PySem.Data.seq #[] } : PySem.Obj)) ::
  (nat_lit 496, ({ cls := PySem.Value.type "tuple", data := PySem.Data.seq #[] } : PySem.Obj)) ::
  (nat_lit 498, ({ cls := PySem.Value.type "tuple", data := PySem.Data.seq #[PySem.Value.str (PySem.Str.ofString "self") 938, PySem.Value.str (PySem.Str.ofString "word") 939] } : PySem.Obj)) ::
  (nat_lit 499, ({ cls := PySem.Value.type "tuple", data := PySem.Data.seq #[] } : PySem.Obj)) ::
  (nat_lit 503, ({ cls := PySem.Value.type "tuple", data := PySem.Data.seq #[] } : PySem.Obj)) ::
  (nat_lit 505, ({ cls := PySem.Value.type "tuple", data := PySem.Data.seq #[PySem.Value.str (PySem.Str.ofString "self") 946, PySem.Value.str (PySem.Str.ofString "p") 947, PySem.Value.str (PySem.Str.ofString "g") 948, PySem.Value.str (PySem.Str.ofString "i") 949] } : PySem.Obj)) ::
  (nat_lit 506, ({ cls := PySem.Value.type "tuple", data := PySem.Data.seq #[] } : PySem.Obj)) ::
  (nat_lit 510, ({ cls := PySem.Value.type "tuple", data := PySem.Data.seq #[] } : PySem.Obj)) ::
  (nat_lit 512, ({ cls := PySem.Value.type "tuple", data := PySem.Data.seq #[PySem.Value.str (PySem.Str.ofString "self") 956, PySem.Value.str (PySem.Str.ofString "p") 957, PySem.Value.str (PySem.Str.ofString "page") 958, PySem.Value.str (PySem.Str.ofString "g") 959, PySem.Value.str (PySem.Str.ofString "i") 960, PySem.Value.str (PySem.Str.ofString "word") 961] } : PySem.Obj)) ::
  (nat_lit 513, ({ cls := PySem.Value.type "tuple", data := PySem.Data.seq #[] } : PySem.Obj)) ::
  (nat_lit 517, ({ cls := PySem.Value.type "tuple", data := PySem.Data.seq #[] } : PySem.Obj)) ::
  (nat_lit 519, ({ cls := PySem.Value.type "tuple", data := PySem.Data.seq #[PySem.Value.str (PySem.Str.ofString "self") 968, PySem.Value.str (PySem.Str.ofString "p") 969, PySem.Value.str (PySem.Str.ofString "page") 970, PySem.Value.str (PySem.Str.ofString "i") 971, PySem.Value.str (PySem.Str.ofString "refusal") 972] } : PySem.Obj)) ::
  (nat_lit 520, ({ cls := PySem.Value.type "tuple", data := PySem.Data.seq #[] } : PySem.Obj)) ::
  (nat_lit 524, ({ cls := PySem.Value.type "tuple", data := PySem.Data.seq #[] } : PySem.Obj)) ::
  (nat_lit 526, ({ cls := PySem.Value.type "tuple", data := PySem.Data.seq #[PySem.Value.str (PySem.Str.ofString "self") 979, PySem.Value.str (PySem.Str.ofString "p") 980, PySem.Value.str (PySem.Str.ofString "page") 981, PySem.Value.str (PySem.Str.ofString "i") 982, PySem.Value.str (PySem.Str.ofString "word") 983, PySem.Value.str (PySem.Str.ofString "refusal") 984] } : PySem.Obj)) ::
  (nat_lit 527, ({ cls := PySem.Value.type "tuple", data := PySem.Data.seq #[] } : PySem.Obj)) ::
  (nat_lit 531, ({ cls := PySem.Value.type "tuple", data := PySem.Data.seq #[] } : PySem.Obj)) ::
  (nat_lit 533, ({ cls := PySem.Value.type "tuple", data := PySem.Data.seq #[PySem.Value.str (PySem.Str.ofString "self") 991, PySem.Value.str (PySem.Str.ofString "p") 992, PySem.Value.str (PySem.Str.ofString "page") 993, PySem.Value.str (PySem.Str.ofString "row") 994, PySem.Value.str (PySem.Str.ofString "kind") 995, PySem.Value.str (PySem.Str.ofString "g") 996] } : PySem.Obj)) ::
  (nat_lit 534, ({ cls := PySem.Value.type "tuple", data := PySem.Data.seq #[] } : PySem.Obj)) ::
  (nat_lit 538, ({ cls := PySem.Value.type "tuple", data := PySem.Data.seq #[] } : PySem.Obj)) ::
  (nat_lit 540, ({ cls := PySem.Value.type "tuple", data := PySem.Data.seq #[PySem.Value.str (PySem.Str.ofString "self") 1003, PySem.Value.str (PySem.Str.ofString "p") 1004] } : PySem.Obj)) ::
  (nat_lit 541, ({ cls := PySem.Value.type "tuple", data := PySem.Data.seq #[] } : PySem.Obj)) ::
  (nat_lit 545, ({ cls := PySem.Value.type "tuple", data := PySem.Data.seq #[PySem.Value.str (PySem.Str.ofString "_drops") 1008, PySem.Value.str (PySem.Str.ofString "_log") 1009, PySem.Value.str (PySem.Str.ofString "_presences") 1010, PySem.Value.str (PySem.Str.ofString "_rows") 1011, PySem.Value.str (PySem.Str.ofString "_statuses") 1012, PySem.Value.str (PySem.Str.ofString "_taken") 1013, PySem.Value.str (PySem.Str.ofString "_tickets") 1014, PySem.Value.str (PySem.Str.ofString "_walks") 1015, PySem.Value.str (PySem.Str.ofString "_without") 1016, PySem.Value.str (PySem.Str.ofString "_words") 1017] } : PySem.Obj)) ::
  (nat_lit 546, ({ cls := PySem.Value.type "dict", data := PySem.Data.dict #[PySem.DictEntry.mk (PySem.PyData.keyHash P (PySem.Str.ofString "__module__")) (PySem.Value.str (PySem.Str.ofString "__module__") 635) (PySem.Value.str (PySem.Str.ofString "hermitcell.memory") 425), PySem.DictEntry.mk (PySem.PyData.keyHash P (PySem.Str.ofString "__firstlineno__")) (PySem.Value.str (PySem.Str.ofString "__firstlineno__") 639) (PySem.Value.int 160 638), PySem.DictEntry.mk (PySem.PyData.keyHash P (PySem.Str.ofString "__init__")) (PySem.Value.str (PySem.Str.ofString "__init__") 645) (PySem.Value.ref 273), PySem.DictEntry.mk (PySem.PyData.keyHash P (PySem.Str.ofString "access")) (PySem.Value.str (PySem.Str.ofString "access") 659) (PySem.Value.ref 280), PySem.DictEntry.mk (PySem.PyData.keyHash P (PySem.Str.ofString "log")) (PySem.Value.str (PySem.Str.ofString "log") 666) (PySem.Value.ref 287), PySem.DictEntry.mk (PySem.PyData.keyHash P (PySem.Str.ofString "last")) (PySem.Value.str (PySem.Str.ofString "last") 673) (PySem.Value.ref 294), PySem.DictEntry.mk (PySem.PyData.keyHash P (PySem.Str.ofString "status")) (PySem.Value.str (PySem.Str.ofString "status") 681) (PySem.Value.ref 301), PySem.DictEntry.mk (PySem.PyData.keyHash P (PySem.Str.ofString "words")) (PySem.Value.str (PySem.Str.ofString "words") 689) (PySem.Value.ref 308), PySem.DictEntry.mk (PySem.PyData.keyHash P (PySem.Str.ofString "presence")) (PySem.Value.str (PySem.Str.ofString "presence") 697) (PySem.Value.ref 315), PySem.DictEntry.mk (PySem.PyData.keyHash P (PySem.Str.ofString "rows")) (PySem.Value.str (PySem.Str.ofString "rows") 705) (PySem.Value.ref 322), PySem.DictEntry.mk (PySem.PyData.keyHash P (PySem.Str.ofString "walks")) (PySem.Value.str (PySem.Str.ofString "walks") 713) (PySem.Value.ref 329), PySem.DictEntry.mk (PySem.PyData.keyHash P (PySem.Str.ofString "dropped")) (PySem.Value.str (PySem.Str.ofString "dropped") 721) (PySem.Value.ref 336), PySem.DictEntry.mk (PySem.PyData.keyHash P (PySem.Str.ofString "tickets")) (PySem.Value.str (PySem.Str.ofString "tickets") 728) (PySem.Value.ref 343), PySem.DictEntry.mk (PySem.PyData.keyHash P (PySem.Str.ofString "taken")) (PySem.Value.str (PySem.Str.ofString "taken") 735) (PySem.Value.ref 350), PySem.DictEntry.mk (PySem.PyData.keyHash P (PySem.Str.ofString "copy")) (PySem.Value.str (PySem.Str.ofString "copy") 741) (PySem.Value.ref 355), PySem.DictEntry.mk (PySem.PyData.keyHash P (PySem.Str.ofString "change")) (PySem.Value.str (PySem.Str.ofString "change") 751) (PySem.Value.ref 362), PySem.DictEntry.mk (PySem.PyData.keyHash P (PySem.Str.ofString "_stands")) (PySem.Value.str (PySem.Str.ofString "_stands") 759) (PySem.Value.ref 369), PySem.DictEntry.mk (PySem.PyData.keyHash P (PySem.Str.ofString "_act_as_host")) (PySem.Value.str (PySem.Str.ofString "_act_as_host") 769) (PySem.Value.ref 376), PySem.DictEntry.mk (PySem.PyData.keyHash P (PySem.Str.ofString "_act_as_monitor")) (PySem.Value.str (PySem.Str.ofString "_act_as_monitor") 779) (PySem.Value.ref 383), PySem.DictEntry.mk (PySem.PyData.keyHash P (PySem.Str.ofString "_act_as_core")) (PySem.Value.str (PySem.Str.ofString "_act_as_core") 789) (PySem.Value.ref 390), PySem.DictEntry.mk (PySem.PyData.keyHash P (PySem.Str.ofString "_read_as_host")) (PySem.Value.str (PySem.Str.ofString "_read_as_host") 798) (PySem.Value.ref 397), PySem.DictEntry.mk (PySem.PyData.keyHash P (PySem.Str.ofString "_copy_for_monitor")) (PySem.Value.str (PySem.Str.ofString "_copy_for_monitor") 807) (PySem.Value.ref 404), PySem.DictEntry.mk (PySem.PyData.keyHash P (PySem.Str.ofString "_write_as_host")) (PySem.Value.str (PySem.Str.ofString "_write_as_host") 817) (PySem.Value.ref 411), PySem.DictEntry.mk (PySem.PyData.keyHash P (PySem.Str.ofString "_drop")) (PySem.Value.str (PySem.Str.ofString "_drop") 825) (PySem.Value.ref 418), PySem.DictEntry.mk (PySem.PyData.keyHash P (PySem.Str.ofString "_read")) (PySem.Value.str (PySem.Str.ofString "_read") 834) (PySem.Value.ref 425), PySem.DictEntry.mk (PySem.PyData.keyHash P (PySem.Str.ofString "_write")) (PySem.Value.str (PySem.Str.ofString "_write") 844) (PySem.Value.ref 432), PySem.DictEntry.mk (PySem.PyData.keyHash P (PySem.Str.ofString "_hold")) (PySem.Value.str (PySem.Str.ofString "_hold") 856) (PySem.Value.ref 439), PySem.DictEntry.mk (PySem.PyData.keyHash P (PySem.Str.ofString "_leave")) (PySem.Value.str (PySem.Str.ofString "_leave") 866) (PySem.Value.ref 446), PySem.DictEntry.mk (PySem.PyData.keyHash P (PySem.Str.ofString "_release")) (PySem.Value.str (PySem.Str.ofString "_release") 878) (PySem.Value.ref 453), PySem.DictEntry.mk (PySem.PyData.keyHash P (PySem.Str.ofString "_look")) (PySem.Value.str (PySem.Str.ofString "_look") 886) (PySem.Value.ref 460), PySem.DictEntry.mk (PySem.PyData.keyHash P (PySem.Str.ofString "_swap")) (PySem.Value.str (PySem.Str.ofString "_swap") 899) (PySem.Value.ref 467), PySem.DictEntry.mk (PySem.PyData.keyHash P (PySem.Str.ofString "_rest")) (PySem.Value.str (PySem.Str.ofString "_rest") 910) (PySem.Value.ref 474), PySem.DictEntry.mk (PySem.PyData.keyHash P (PySem.Str.ofString "_present")) (PySem.Value.str (PySem.Str.ofString "_present") 919) (PySem.Value.ref 481), PySem.DictEntry.mk (PySem.PyData.keyHash P (PySem.Str.ofString "_seen")) (PySem.Value.str (PySem.Str.ofString "_seen") 927) (PySem.Value.ref 488), PySem.DictEntry.mk (PySem.PyData.keyHash P (PySem.Str.ofString "_ticket")) (PySem.Value.str (PySem.Str.ofString "_ticket") 934) (PySem.Value.ref 495), PySem.DictEntry.mk (PySem.PyData.keyHash P (PySem.Str.ofString "_once")) (PySem.Value.str (PySem.Str.ofString "_once") 942) (PySem.Value.ref 502), PySem.DictEntry.mk (PySem.PyData.keyHash P (PySem.Str.ofString "_walk")) (PySem.Value.str (PySem.Str.ofString "_walk") 952) (PySem.Value.ref 509), PySem.DictEntry.mk (PySem.PyData.keyHash P (PySem.Str.ofString "_leaf")) (PySem.Value.str (PySem.Str.ofString "_leaf") 964) (PySem.Value.ref 516), PySem.DictEntry.mk (PySem.PyData.keyHash P (PySem.Str.ofString "_touch")) (PySem.Value.str (PySem.Str.ofString "_touch") 975) (PySem.Value.ref 523), PySem.DictEntry.mk (PySem.PyData.keyHash P (PySem.Str.ofString "_put")) (PySem.Value.str (PySem.Str.ofString "_put") 987) (PySem.Value.ref 530), PySem.DictEntry.mk (PySem.PyData.keyHash P (PySem.Str.ofString "_refusal")) (PySem.Value.str (PySem.Str.ofString "_refusal") 999) (PySem.Value.ref 537), PySem.DictEntry.mk (PySem.PyData.keyHash P (PySem.Str.ofString "_forget_rows")) (PySem.Value.str (PySem.Str.ofString "_forget_rows") 1007) (PySem.Value.ref 544), PySem.DictEntry.mk (PySem.PyData.keyHash P (PySem.Str.ofString "__static_attributes__")) (PySem.Value.str (PySem.Str.ofString "__static_attributes__") 1018) (PySem.Value.ref 545), PySem.DictEntry.mk (PySem.PyData.keyHash P (PySem.Str.ofString "__dict__")) (PySem.Value.str (PySem.Str.ofString "__dict__") 1020) (PySem.Value.ref 548), PySem.DictEntry.mk (PySem.PyData.keyHash P (PySem.Str.ofString "__weakref__")) (PySem.Value.str (PySem.Str.ofString "__weakref__") 1022) (PySem.Value.ref 549), PySem.DictEntry.mk (PySem.PyData.keyHash P (PySem.Str.ofString "__doc__")) (PySem.Value.str (PySem.Str.ofString "__doc__") 1023) (PySem.Value.none)] 4 } : PySem.Obj)) ::
  (nat_lit 547, ({ cls := PySem.Value.type "type", data := PySem.Data.cls { name := PySem.Str.ofString "Memory", bases := [PySem.Value.type "object"], mro := [PySem.Value.ref 547, PySem.Value.type "object"], ns := 546, qualname := PySem.Str.ofString "Memory" }, slots := #[Option.none, Option.none, Option.some (PySem.Value.str (PySem.Str.ofString "Memory") 628), Option.some (PySem.Value.str (PySem.Str.ofString "Memory") 636), Option.some (PySem.Value.builtin "object.__new__"), Option.some (PySem.Value.bool Bool.true)] } : PySem.Obj)) ::
  (nat_lit 548, ({ cls := PySem.Value.type "getset_descriptor", data := PySem.Data.fields #[PySem.Value.str (PySem.Str.ofString "__dict__") 1019, PySem.Value.ref 547, PySem.Value.builtin "function.__dict__", PySem.Value.builtin "function.__dict__#set"] } : PySem.Obj)) ::
  (nat_lit 549, ({ cls := PySem.Value.type "getset_descriptor", data := PySem.Data.fields #[PySem.Value.str (PySem.Str.ofString "__weakref__") 1021, PySem.Value.ref 547, PySem.Value.builtin "ExceptionGroup.__weakref__", PySem.Value.none] } : PySem.Obj)) ::
  (nat_lit 552, ({ cls := PySem.Value.type "tuple", data := PySem.Data.seq #[] } : PySem.Obj)) ::
  (nat_lit 554, ({ cls := PySem.Value.type "tuple", data := PySem.Data.seq #[PySem.Value.str (PySem.Str.ofString "value") 1029, PySem.Value.str (PySem.Str.ofString "many") 1030] } : PySem.Obj)) ::
  (nat_lit 555, ({ cls := PySem.Value.type "tuple", data := PySem.Data.seq #[] } : PySem.Obj)) ::
  (nat_lit 557, ({ cls := PySem.Value.type "code", data := PySem.Data.fields #[PySem.Value.str (PySem.Str.ofString "_is_below") 1026, PySem.Value.str (PySem.Str.ofString "_is_below") 1027, PySem.Value.str (PySem.Str.ofString "/claim/cut.py") 1028, PySem.Value.int 393 0, PySem.Value.int 2 0, PySem.Value.int 0 0, PySem.Value.int 0 0, PySem.Value.int 3 0, PySem.Value.ref 552, PySem.Value.bool Bool.true, PySem.Value.int 181 0, PySem.Value.ref 553, PySem.Value.none, PySem.Value.ref 554, PySem.Value.ref 555, PySem.Value.ref 556, PySem.Value.int 1031 0, PySem.Value.int 393 0, PySem.Value.str (PySem.Str.ofString "/claim/cut.py") 1032] } : PySem.Obj)) ::
  (nat_lit 558, (⟨PySem.Value.type "function", Option.none, .func (PySem.W.fnOf "_is_below" "_is_below" (C8.fnArgs Hc.s__is_below) (C8.fnBody Hc.s__is_below) (C8.fnScope Hc.s__is_below) (PySem.Value.none) (PySem.Value.none) (PySem.Value.none) (PySem.Value.str (PySem.Str.ofString "hermitcell.memory") 425) (Option.none) (PySem.Value.ref 557) (PySem.Value.none)), #[]⟩ : PySem.Obj)) ::
  (nat_lit 559, ({ cls := PySem.Value.type "tuple", data := PySem.Data.seq #[] } : PySem.Obj)) ::
  (nat_lit 561, ({ cls := PySem.Value.type "tuple", data := PySem.Data.seq #[PySem.Value.str (PySem.Str.ofString "value") 1037, PySem.Value.str (PySem.Str.ofString "many") 1038] } : PySem.Obj)) ::
  (nat_lit 562, ({ cls := PySem.Value.type "tuple", data := PySem.Data.seq #[] } : PySem.Obj)) ::
  (nat_lit 564, ({ cls := PySem.Value.type "code", data := PySem.Data.fields #[PySem.Value.str (PySem.Str.ofString "_number_below") 1034, PySem.Value.str (PySem.Str.ofString "_number_below") 1035, PySem.Value.str (PySem.Str.ofString "/claim/cut.py") 1036, PySem.Value.int 395 0, PySem.Value.int 2 0, PySem.Value.int 0 0, PySem.Value.int 0 0, PySem.Value.int 3 0, PySem.Value.ref 559, PySem.Value.bool Bool.true, PySem.Value.int 181 0, PySem.Value.ref 560, PySem.Value.none, PySem.Value.ref 561, PySem.Value.ref 562, PySem.Value.ref 563, PySem.Value.int 1039 0, PySem.Value.int 395 0, PySem.Value.str (PySem.Str.ofString "/claim/cut.py") 1040] } : PySem.Obj)) ::
  (nat_lit 565, (⟨PySem.Value.type "function", Option.none, .func (PySem.W.fnOf "_number_below" "_number_below" (C8.fnArgs Hc.s__number_below) (C8.fnBody Hc.s__number_below) (C8.fnScope Hc.s__number_below) (PySem.Value.none) (PySem.Value.none) (PySem.Value.none) (PySem.Value.str (PySem.Str.ofString "hermitcell.memory") 425) (Option.none) (PySem.Value.ref 564) (PySem.Value.none)), #[]⟩ : PySem.Obj)) ::
  (nat_lit 566, ({ cls := PySem.Value.type "tuple", data := PySem.Data.seq #[] } : PySem.Obj)) ::
  (nat_lit 568, ({ cls := PySem.Value.type "tuple", data := PySem.Data.seq #[PySem.Value.str (PySem.Str.ofString "value") 1045] } : PySem.Obj)) ::
  (nat_lit 569, ({ cls := PySem.Value.type "tuple", data := PySem.Data.seq #[] } : PySem.Obj)) ::
  (nat_lit 571, ({ cls := PySem.Value.type "code", data := PySem.Data.fields #[PySem.Value.str (PySem.Str.ofString "_is_actor") 1042, PySem.Value.str (PySem.Str.ofString "_is_actor") 1043, PySem.Value.str (PySem.Str.ofString "/claim/cut.py") 1044, PySem.Value.int 399 0, PySem.Value.int 1 0, PySem.Value.int 0 0, PySem.Value.int 0 0, PySem.Value.int 3 0, PySem.Value.ref 566, PySem.Value.bool Bool.true, PySem.Value.int 181 0, PySem.Value.ref 567, PySem.Value.none, PySem.Value.ref 568, PySem.Value.ref 569, PySem.Value.ref 570, PySem.Value.int 1046 0, PySem.Value.int 399 0, PySem.Value.str (PySem.Str.ofString "/claim/cut.py") 1047] } : PySem.Obj)) ::
  (nat_lit 572, (⟨PySem.Value.type "function", Option.none, .func (PySem.W.fnOf "_is_actor" "_is_actor" (C8.fnArgs Hc.s__is_actor) (C8.fnBody Hc.s__is_actor) (C8.fnScope Hc.s__is_actor) (PySem.Value.none) (PySem.Value.none) (PySem.Value.none) (PySem.Value.str (PySem.Str.ofString "hermitcell.memory") 425) (Option.none) (PySem.Value.ref 571) (PySem.Value.none)), #[]⟩ : PySem.Obj)) ::
  (nat_lit 573, ({ cls := PySem.Value.type "tuple", data := PySem.Data.seq #[] } : PySem.Obj)) ::
  (nat_lit 575, ({ cls := PySem.Value.type "tuple", data := PySem.Data.seq #[PySem.Value.str (PySem.Str.ofString "word") 1056, PySem.Value.str (PySem.Str.ofString "name") 1057] } : PySem.Obj)) ::
  (nat_lit 576, ({ cls := PySem.Value.type "tuple", data := PySem.Data.seq #[] } : PySem.Obj)) ::
  (nat_lit 578, ({ cls := PySem.Value.type "code", data := PySem.Data.fields #[PySem.Value.str (PySem.Str.ofString "granule_of") 1053, PySem.Value.str (PySem.Str.ofString "granule_of") 1054, PySem.Value.str (PySem.Str.ofString "/claim/cut.py") 1055, PySem.Value.int 403 0, PySem.Value.int 2 0, PySem.Value.int 0 0, PySem.Value.int 0 0, PySem.Value.int 3 0, PySem.Value.ref 573, PySem.Value.bool Bool.true, PySem.Value.int 181 0, PySem.Value.ref 574, PySem.Value.none, PySem.Value.ref 575, PySem.Value.ref 576, PySem.Value.ref 577, PySem.Value.int 1058 0, PySem.Value.int 403 0, PySem.Value.str (PySem.Str.ofString "/claim/cut.py") 1059] } : PySem.Obj)) ::
  (nat_lit 579, (⟨PySem.Value.type "function", Option.none, .func (PySem.W.fnOf "granule_of" "granule_of" (C8.fnArgs Hc.s_granule_of) (C8.fnBody Hc.s_granule_of) (C8.fnScope Hc.s_granule_of) (PySem.Value.none) (PySem.Value.none) (PySem.Value.none) (PySem.Value.str (PySem.Str.ofString "hermitcell.tables") 1049) (Option.none) (PySem.Value.ref 578) (PySem.Value.none)), #[]⟩ : PySem.Obj)) ::
  (nat_lit 580, ({ cls := PySem.Value.type "tuple", data := PySem.Data.seq #[] } : PySem.Obj)) ::
  (nat_lit 582, ({ cls := PySem.Value.type "tuple", data := PySem.Data.seq #[PySem.Value.str (PySem.Str.ofString "word") 1064] } : PySem.Obj)) ::
  (nat_lit 583, ({ cls := PySem.Value.type "tuple", data := PySem.Data.seq #[] } : PySem.Obj)) ::
  (nat_lit 585, ({ cls := PySem.Value.type "code", data := PySem.Data.fields #[PySem.Value.str (PySem.Str.ofString "leaf_of") 1061, PySem.Value.str (PySem.Str.ofString "leaf_of") 1062, PySem.Value.str (PySem.Str.ofString "/claim/cut.py") 1063, PySem.Value.int 407 0, PySem.Value.int 1 0, PySem.Value.int 0 0, PySem.Value.int 0 0, PySem.Value.int 3 0, PySem.Value.ref 580, PySem.Value.bool Bool.true, PySem.Value.int 181 0, PySem.Value.ref 581, PySem.Value.none, PySem.Value.ref 582, PySem.Value.ref 583, PySem.Value.ref 584, PySem.Value.int 1065 0, PySem.Value.int 407 0, PySem.Value.str (PySem.Str.ofString "/claim/cut.py") 1066] } : PySem.Obj)) ::
  (nat_lit 586, (⟨PySem.Value.type "function", Option.none, .func (PySem.W.fnOf "leaf_of" "leaf_of" (C8.fnArgs Hc.s_leaf_of) (C8.fnBody Hc.s_leaf_of) (C8.fnScope Hc.s_leaf_of) (PySem.Value.none) (PySem.Value.none) (PySem.Value.none) (PySem.Value.str (PySem.Str.ofString "hermitcell.tables") 1049) (Option.none) (PySem.Value.ref 585) (PySem.Value.none)), #[]⟩ : PySem.Obj)) ::
  (nat_lit 587, ({ cls := PySem.Value.type "tuple", data := PySem.Data.seq #[] } : PySem.Obj)) ::
  (nat_lit 589, ({ cls := PySem.Value.type "tuple", data := PySem.Data.seq #[PySem.Value.str (PySem.Str.ofString "value") 1071] } : PySem.Obj)) ::
  (nat_lit 590, ({ cls := PySem.Value.type "tuple", data := PySem.Data.seq #[] } : PySem.Obj)) ::
  (nat_lit 592, ({ cls := PySem.Value.type "code", data := PySem.Data.fields #[PySem.Value.str (PySem.Str.ofString "is_root_word") 1068, PySem.Value.str (PySem.Str.ofString "is_root_word") 1069, PySem.Value.str (PySem.Str.ofString "/claim/cut.py") 1070, PySem.Value.int 409 0, PySem.Value.int 1 0, PySem.Value.int 0 0, PySem.Value.int 0 0, PySem.Value.int 3 0, PySem.Value.ref 587, PySem.Value.bool Bool.true, PySem.Value.int 181 0, PySem.Value.ref 588, PySem.Value.none, PySem.Value.ref 589, PySem.Value.ref 590, PySem.Value.ref 591, PySem.Value.int 1072 0, PySem.Value.int 409 0, PySem.Value.str (PySem.Str.ofString "/claim/cut.py") 1073] } : PySem.Obj)) ::
  (nat_lit 593, (⟨PySem.Value.type "function", Option.none, .func (PySem.W.fnOf "is_root_word" "is_root_word" (C8.fnArgs Hc.s_is_root_word) (C8.fnBody Hc.s_is_root_word) (C8.fnScope Hc.s_is_root_word) (PySem.Value.none) (PySem.Value.none) (PySem.Value.none) (PySem.Value.str (PySem.Str.ofString "hermitcell.tables") 1049) (Option.none) (PySem.Value.ref 592) (PySem.Value.none)), #[]⟩ : PySem.Obj)) ::
  (nat_lit 594, ({ cls := PySem.Value.type "tuple", data := PySem.Data.seq #[] } : PySem.Obj)) ::
  (nat_lit 596, ({ cls := PySem.Value.type "tuple", data := PySem.Data.seq #[PySem.Value.str (PySem.Str.ofString "value") 1078] } : PySem.Obj)) ::
  (nat_lit 597, ({ cls := PySem.Value.type "tuple", data := PySem.Data.seq #[] } : PySem.Obj)) ::
  (nat_lit 599, ({ cls := PySem.Value.type "code", data := PySem.Data.fields #[PySem.Value.str (PySem.Str.ofString "is_entry") 1075, PySem.Value.str (PySem.Str.ofString "is_entry") 1076, PySem.Value.str (PySem.Str.ofString "/claim/cut.py") 1077, PySem.Value.int 411 0, PySem.Value.int 1 0, PySem.Value.int 0 0, PySem.Value.int 0 0, PySem.Value.int 3 0, PySem.Value.ref 594, PySem.Value.bool Bool.true, PySem.Value.int 181 0, PySem.Value.ref 595, PySem.Value.none, PySem.Value.ref 596, PySem.Value.ref 597, PySem.Value.ref 598, PySem.Value.int 1079 0, PySem.Value.int 411 0, PySem.Value.str (PySem.Str.ofString "/claim/cut.py") 1080] } : PySem.Obj)) ::
  (nat_lit 600, (⟨PySem.Value.type "function", Option.none, .func (PySem.W.fnOf "is_entry" "is_entry" (C8.fnArgs Hc.s_is_entry) (C8.fnBody Hc.s_is_entry) (C8.fnScope Hc.s_is_entry) (PySem.Value.none) (PySem.Value.none) (PySem.Value.none) (PySem.Value.str (PySem.Str.ofString "hermitcell.tables") 1049) (Option.none) (PySem.Value.ref 599) (PySem.Value.none)), #[]⟩ : PySem.Obj)) ::
  (nat_lit 601, ({ cls := PySem.Value.type "tuple", data := PySem.Data.seq #[] } : PySem.Obj)) ::
  (nat_lit 603, ({ cls := PySem.Value.type "tuple", data := PySem.Data.seq #[PySem.Value.str (PySem.Str.ofString "value") 1085] } : PySem.Obj)) ::
  (nat_lit 604, ({ cls := PySem.Value.type "tuple", data := PySem.Data.seq #[] } : PySem.Obj)) ::
  (nat_lit 606, ({ cls := PySem.Value.type "code", data := PySem.Data.fields #[PySem.Value.str (PySem.Str.ofString "is_leaving") 1082, PySem.Value.str (PySem.Str.ofString "is_leaving") 1083, PySem.Value.str (PySem.Str.ofString "/claim/cut.py") 1084, PySem.Value.int 419 0, PySem.Value.int 1 0, PySem.Value.int 0 0, PySem.Value.int 0 0, PySem.Value.int 3 0, PySem.Value.ref 601, PySem.Value.bool Bool.true, PySem.Value.int 181 0, PySem.Value.ref 602, PySem.Value.none, PySem.Value.ref 603, PySem.Value.ref 604, PySem.Value.ref 605, PySem.Value.int 1086 0, PySem.Value.int 419 0, PySem.Value.str (PySem.Str.ofString "/claim/cut.py") 1087] } : PySem.Obj)) ::
  (nat_lit 607, (⟨PySem.Value.type "function", Option.none, .func (PySem.W.fnOf "is_leaving" "is_leaving" (C8.fnArgs Hc.s_is_leaving) (C8.fnBody Hc.s_is_leaving) (C8.fnScope Hc.s_is_leaving) (PySem.Value.none) (PySem.Value.none) (PySem.Value.none) (PySem.Value.str (PySem.Str.ofString "hermitcell.tables") 1049) (Option.none) (PySem.Value.ref 606) (PySem.Value.none)), #[]⟩ : PySem.Obj)) ::
  (nat_lit 608, ({ cls := PySem.Value.type "tuple", data := PySem.Data.seq #[] } : PySem.Obj)) ::
  (nat_lit 610, ({ cls := PySem.Value.type "tuple", data := PySem.Data.seq #[PySem.Value.str (PySem.Str.ofString "memory") 1092, PySem.Value.str (PySem.Str.ofString "root") 1093, PySem.Value.str (PySem.Str.ofString "found") 1094, PySem.Value.str (PySem.Str.ofString "word") 1095, PySem.Value.str (PySem.Str.ofString "leaf") 1096] } : PySem.Obj)) ::
  (nat_lit 611, ({ cls := PySem.Value.type "tuple", data := PySem.Data.seq #[] } : PySem.Obj)) ::
  (nat_lit 613, ({ cls := PySem.Value.type "code", data := PySem.Data.fields #[PySem.Value.str (PySem.Str.ofString "map_of") 1089, PySem.Value.str (PySem.Str.ofString "map_of") 1090, PySem.Value.str (PySem.Str.ofString "/claim/cut.py") 1091, PySem.Value.int 423 0, PySem.Value.int 2 0, PySem.Value.int 0 0, PySem.Value.int 0 0, PySem.Value.int 3 0, PySem.Value.ref 608, PySem.Value.bool Bool.true, PySem.Value.int 181 0, PySem.Value.ref 609, PySem.Value.none, PySem.Value.ref 610, PySem.Value.ref 611, PySem.Value.ref 612, PySem.Value.int 1097 0, PySem.Value.int 423 0, PySem.Value.str (PySem.Str.ofString "/claim/cut.py") 1098] } : PySem.Obj)) ::
  (nat_lit 614, (⟨PySem.Value.type "function", Option.none, .func (PySem.W.fnOf "map_of" "map_of" (C8.fnArgs Hc.s_map_of) (C8.fnBody Hc.s_map_of) (C8.fnScope Hc.s_map_of) (PySem.Value.none) (PySem.Value.none) (PySem.Value.none) (PySem.Value.str (PySem.Str.ofString "hermitcell.tables") 1049) (Option.none) (PySem.Value.ref 613) (PySem.Value.none)), #[]⟩ : PySem.Obj)) ::
  (nat_lit 615, ({ cls := PySem.Value.type "tuple", data := PySem.Data.seq #[] } : PySem.Obj)) ::
  (nat_lit 617, ({ cls := PySem.Value.type "tuple", data := PySem.Data.seq #[PySem.Value.str (PySem.Str.ofString "memory") 1103, PySem.Value.str (PySem.Str.ofString "root") 1104] } : PySem.Obj)) ::
  (nat_lit 618, ({ cls := PySem.Value.type "tuple", data := PySem.Data.seq #[] } : PySem.Obj)) ::
  (nat_lit 620, ({ cls := PySem.Value.type "code", data := PySem.Data.fields #[PySem.Value.str (PySem.Str.ofString "tables_fault") 1100, PySem.Value.str (PySem.Str.ofString "tables_fault") 1101, PySem.Value.str (PySem.Str.ofString "/claim/cut.py") 1102, PySem.Value.int 432 0, PySem.Value.int 2 0, PySem.Value.int 0 0, PySem.Value.int 0 0, PySem.Value.int 3 0, PySem.Value.ref 615, PySem.Value.bool Bool.true, PySem.Value.int 181 0, PySem.Value.ref 616, PySem.Value.none, PySem.Value.ref 617, PySem.Value.ref 618, PySem.Value.ref 619, PySem.Value.int 1105 0, PySem.Value.int 432 0, PySem.Value.str (PySem.Str.ofString "/claim/cut.py") 1106] } : PySem.Obj)) ::
  (nat_lit 621, (⟨PySem.Value.type "function", Option.none, .func (PySem.W.fnOf "tables_fault" "tables_fault" (C8.fnArgs Hc.s_tables_fault) (C8.fnBody Hc.s_tables_fault) (C8.fnScope Hc.s_tables_fault) (PySem.Value.none) (PySem.Value.none) (PySem.Value.none) (PySem.Value.str (PySem.Str.ofString "hermitcell.tables") 1049) (Option.none) (PySem.Value.ref 620) (PySem.Value.none)), #[]⟩ : PySem.Obj)) ::
  (nat_lit 622, ({ cls := PySem.Value.type "tuple", data := PySem.Data.seq #[] } : PySem.Obj)) ::
  (nat_lit 624, ({ cls := PySem.Value.type "tuple", data := PySem.Data.seq #[PySem.Value.str (PySem.Str.ofString "value") 1111] } : PySem.Obj)) ::
  (nat_lit 625, ({ cls := PySem.Value.type "tuple", data := PySem.Data.seq #[] } : PySem.Obj)) ::
  (nat_lit 627, ({ cls := PySem.Value.type "code", data := PySem.Data.fields #[PySem.Value.str (PySem.Str.ofString "_is_from_one_on") 1108, PySem.Value.str (PySem.Str.ofString "_is_from_one_on") 1109, PySem.Value.str (PySem.Str.ofString "/claim/cut.py") 1110, PySem.Value.int 438 0, PySem.Value.int 1 0, PySem.Value.int 0 0, PySem.Value.int 0 0, PySem.Value.int 3 0, PySem.Value.ref 622, PySem.Value.bool Bool.true, PySem.Value.int 181 0, PySem.Value.ref 623, PySem.Value.none, PySem.Value.ref 624, PySem.Value.ref 625, PySem.Value.ref 626, PySem.Value.int 1112 0, PySem.Value.int 438 0, PySem.Value.str (PySem.Str.ofString "/claim/cut.py") 1113] } : PySem.Obj)) ::
  (nat_lit 628, (⟨PySem.Value.type "function", Option.none, .func (PySem.W.fnOf "_is_from_one_on" "_is_from_one_on" (C8.fnArgs Hc.s__is_from_one_on) (C8.fnBody Hc.s__is_from_one_on) (C8.fnScope Hc.s__is_from_one_on) (PySem.Value.none) (PySem.Value.none) (PySem.Value.none) (PySem.Value.str (PySem.Str.ofString "hermitcell.tables") 1049) (Option.none) (PySem.Value.ref 627) (PySem.Value.none)), #[]⟩ : PySem.Obj)) ::
  (nat_lit 629, ({ cls := PySem.Value.type "tuple", data := PySem.Data.seq #[] } : PySem.Obj)) ::
  (nat_lit 632, ({ cls := PySem.Value.type "code", data := PySem.Data.fields #[PySem.Value.str (PySem.Str.ofString "_is_table") 1115, PySem.Value.str (PySem.Str.ofString "_is_table") 1116, PySem.Value.str (PySem.Str.ofString "/claim/cut.py") 1117, PySem.Value.int 440 0, PySem.Value.int 3 0, PySem.Value.int 0 0, PySem.Value.int 0 0, PySem.Value.int 3 0, PySem.Value.ref 629, PySem.Value.bool Bool.true, PySem.Value.int 181 0, PySem.Value.ref 630, PySem.Value.none, PySem.Value.none, PySem.Value.none, PySem.Value.ref 631, PySem.Value.int 1118 0, PySem.Value.int 440 0, PySem.Value.str (PySem.Str.ofString "/claim/cut.py") 1119] } : PySem.Obj)) ::
  (nat_lit 633, (⟨PySem.Value.type "function", Option.none, .func (PySem.W.fnOf "_is_table" "_is_table" (C8.fnArgs Hc.s__is_table) (C8.fnBody Hc.s__is_table) (C8.fnScope Hc.s__is_table) (PySem.Value.none) (PySem.Value.none) (PySem.Value.none) (PySem.Value.str (PySem.Str.ofString "hermitcell.tables") 1049) (Option.none) (PySem.Value.ref 632) (PySem.Value.none)), #[]⟩ : PySem.Obj)) ::
  (nat_lit 634, ({ cls := PySem.Value.type "tuple", data := PySem.Data.seq #[] } : PySem.Obj)) ::
  (nat_lit 636, ({ cls := PySem.Value.type "tuple", data := PySem.Data.seq #[PySem.Value.str (PySem.Str.ofString "memory") 1124, PySem.Value.str (PySem.Str.ofString "root") 1125, PySem.Value.str (PySem.Str.ofString "owner") 1126, PySem.Value.str (PySem.Str.ofString "before") 1127, PySem.Value.str (PySem.Str.ofString "word") 1128, PySem.Value.str (PySem.Str.ofString "leaf") 1129] } : PySem.Obj)) ::
  (nat_lit 637, ({ cls := PySem.Value.type "tuple", data := PySem.Data.seq #[] } : PySem.Obj)) ::
  (nat_lit 639, ({ cls := PySem.Value.type "code", data := PySem.Data.fields #[PySem.Value.str (PySem.Str.ofString "_are_leaves_right") 1121, PySem.Value.str (PySem.Str.ofString "_are_leaves_right") 1122, PySem.Value.str (PySem.Str.ofString "/claim/cut.py") 1123, PySem.Value.int 442 0, PySem.Value.int 2 0, PySem.Value.int 0 0, PySem.Value.int 0 0, PySem.Value.int 3 0, PySem.Value.ref 634, PySem.Value.bool Bool.true, PySem.Value.int 181 0, PySem.Value.ref 635, PySem.Value.none, PySem.Value.ref 636, PySem.Value.ref 637, PySem.Value.ref 638, PySem.Value.int 1130 0, PySem.Value.int 442 0, PySem.Value.str (PySem.Str.ofString "/claim/cut.py") 1131] } : PySem.Obj)) ::
  (nat_lit 640, (⟨PySem.Value.type "function", Option.none, .func (PySem.W.fnOf "_are_leaves_right" "_are_leaves_right" (C8.fnArgs Hc.s__are_leaves_right) (C8.fnBody Hc.s__are_leaves_right) (C8.fnScope Hc.s__are_leaves_right) (PySem.Value.none) (PySem.Value.none) (PySem.Value.none) (PySem.Value.str (PySem.Str.ofString "hermitcell.tables") 1049) (Option.none) (PySem.Value.ref 639) (PySem.Value.none)), #[]⟩ : PySem.Obj)) ::
  (nat_lit 641, ({ cls := PySem.Value.type "tuple", data := PySem.Data.seq #[] } : PySem.Obj)) ::
  (nat_lit 643, ({ cls := PySem.Value.type "tuple", data := PySem.Data.seq #[PySem.Value.str (PySem.Str.ofString "memory") 1136, PySem.Value.str (PySem.Str.ofString "root") 1137, PySem.Value.str (PySem.Str.ofString "owner") 1138, PySem.Value.str (PySem.Str.ofString "before") 1139, PySem.Value.str (PySem.Str.ofString "page") 1140, PySem.Value.str (PySem.Str.ofString "entry") 1141, PySem.Value.str (PySem.Str.ofString "g") 1142] } : PySem.Obj)) ::
  (nat_lit 644, ({ cls := PySem.Value.type "tuple", data := PySem.Data.seq #[] } : PySem.Obj)) ::
  (nat_lit 646, ({ cls := PySem.Value.type "code", data := PySem.Data.fields #[PySem.Value.str (PySem.Str.ofString "_fault_of_pages") 1133, PySem.Value.str (PySem.Str.ofString "_fault_of_pages") 1134, PySem.Value.str (PySem.Str.ofString "/claim/cut.py") 1135, PySem.Value.int 452 0, PySem.Value.int 2 0, PySem.Value.int 0 0, PySem.Value.int 0 0, PySem.Value.int 3 0, PySem.Value.ref 641, PySem.Value.bool Bool.true, PySem.Value.int 181 0, PySem.Value.ref 642, PySem.Value.none, PySem.Value.ref 643, PySem.Value.ref 644, PySem.Value.ref 645, PySem.Value.int 1143 0, PySem.Value.int 452 0, PySem.Value.str (PySem.Str.ofString "/claim/cut.py") 1144] } : PySem.Obj)) ::
  (nat_lit 647, (⟨PySem.Value.type "function", Option.none, .func (PySem.W.fnOf "_fault_of_pages" "_fault_of_pages" (C8.fnArgs Hc.s__fault_of_pages) (C8.fnBody Hc.s__fault_of_pages) (C8.fnScope Hc.s__fault_of_pages) (PySem.Value.none) (PySem.Value.none) (PySem.Value.none) (PySem.Value.str (PySem.Str.ofString "hermitcell.tables") 1049) (Option.none) (PySem.Value.ref 646) (PySem.Value.none)), #[]⟩ : PySem.Obj)) ::
  (nat_lit 648, ({ cls := PySem.Value.type "tuple", data := PySem.Data.seq #[] } : PySem.Obj)) ::
  (nat_lit 650, ({ cls := PySem.Value.type "tuple", data := PySem.Data.seq #[PySem.Value.str (PySem.Str.ofString "page") 1149, PySem.Value.str (PySem.Str.ofString "entry") 1150] } : PySem.Obj)) ::
  (nat_lit 651, ({ cls := PySem.Value.type "tuple", data := PySem.Data.seq #[] } : PySem.Obj)) ::
  (nat_lit 653, ({ cls := PySem.Value.type "code", data := PySem.Data.fields #[PySem.Value.str (PySem.Str.ofString "_is_in_wrong_half") 1146, PySem.Value.str (PySem.Str.ofString "_is_in_wrong_half") 1147, PySem.Value.str (PySem.Str.ofString "/claim/cut.py") 1148, PySem.Value.int 464 0, PySem.Value.int 2 0, PySem.Value.int 0 0, PySem.Value.int 0 0, PySem.Value.int 3 0, PySem.Value.ref 648, PySem.Value.bool Bool.true, PySem.Value.int 181 0, PySem.Value.ref 649, PySem.Value.none, PySem.Value.ref 650, PySem.Value.ref 651, PySem.Value.ref 652, PySem.Value.int 1151 0, PySem.Value.int 464 0, PySem.Value.str (PySem.Str.ofString "/claim/cut.py") 1152] } : PySem.Obj)) ::
  (nat_lit 654, (⟨PySem.Value.type "function", Option.none, .func (PySem.W.fnOf "_is_in_wrong_half" "_is_in_wrong_half" (C8.fnArgs Hc.s__is_in_wrong_half) (C8.fnBody Hc.s__is_in_wrong_half) (C8.fnScope Hc.s__is_in_wrong_half) (PySem.Value.none) (PySem.Value.none) (PySem.Value.none) (PySem.Value.str (PySem.Str.ofString "hermitcell.tables") 1049) (Option.none) (PySem.Value.ref 653) (PySem.Value.none)), #[]⟩ : PySem.Obj)) ::
  (nat_lit 655, ({ cls := PySem.Value.type "tuple", data := PySem.Data.seq #[] } : PySem.Obj)) ::
  (nat_lit 657, ({ cls := PySem.Value.type "tuple", data := PySem.Data.seq #[PySem.Value.str (PySem.Str.ofString "tape") 1159, PySem.Value.str (PySem.Str.ofString "many") 1160, PySem.Value.str (PySem.Str.ofString "rest") 1161, PySem.Value.str (PySem.Str.ofString "cell") 1162] } : PySem.Obj)) ::
  (nat_lit 658, ({ cls := PySem.Value.type "tuple", data := PySem.Data.seq #[] } : PySem.Obj)) ::
  (nat_lit 660, ({ cls := PySem.Value.type "code", data := PySem.Data.fields #[PySem.Value.str (PySem.Str.ofString "_law_next") 1156, PySem.Value.str (PySem.Str.ofString "_law_next") 1157, PySem.Value.str (PySem.Str.ofString "/claim/cut.py") 1158, PySem.Value.int 467 0, PySem.Value.int 2 0, PySem.Value.int 0 0, PySem.Value.int 0 0, PySem.Value.int 3 0, PySem.Value.ref 655, PySem.Value.bool Bool.true, PySem.Value.int 181 0, PySem.Value.ref 656, PySem.Value.none, PySem.Value.ref 657, PySem.Value.ref 658, PySem.Value.ref 659, PySem.Value.int 1163 0, PySem.Value.int 467 0, PySem.Value.str (PySem.Str.ofString "/claim/cut.py") 1164] } : PySem.Obj)) ::
  (nat_lit 661, (⟨PySem.Value.type "function", Option.none, .func (PySem.W.fnOf "_law_next" "_law_next" (C8.fnArgs Hc.s__law_next) (C8.fnBody Hc.s__law_next) (C8.fnScope Hc.s__law_next) (PySem.Value.none) (PySem.Value.none) (PySem.Value.none) (PySem.Value.str (PySem.Str.ofString "law_hermitcell_k22_maps_and_faults_of_tables") 1154) (Option.none) (PySem.Value.ref 660) (PySem.Value.none)), #[]⟩ : PySem.Obj)) ::
  (nat_lit 662, ({ cls := PySem.Value.type "tuple", data := PySem.Data.seq #[] } : PySem.Obj)) ::
  (nat_lit 664, ({ cls := PySem.Value.type "tuple", data := PySem.Data.seq #[] } : PySem.Obj)) ::
  (nat_lit 665, ({ cls := PySem.Value.type "tuple", data := PySem.Data.seq #[] } : PySem.Obj)) ::
  (nat_lit 667, ({ cls := PySem.Value.type "code", data := PySem.Data.fields #[PySem.Value.str (PySem.Str.ofString "_law_monitor") 1166, PySem.Value.str (PySem.Str.ofString "_law_monitor") 1167, PySem.Value.str (PySem.Str.ofString "/claim/cut.py") 1168, PySem.Value.int 481 0, PySem.Value.int 0 0, PySem.Value.int 0 0, PySem.Value.int 0 0, PySem.Value.int 3 0, PySem.Value.ref 662, PySem.Value.bool Bool.true, PySem.Value.int 181 0, PySem.Value.ref 663, PySem.Value.none, PySem.Value.ref 664, PySem.Value.ref 665, PySem.Value.ref 666, PySem.Value.int 1169 0, PySem.Value.int 481 0, PySem.Value.str (PySem.Str.ofString "/claim/cut.py") 1170] } : PySem.Obj)) ::
  (nat_lit 668, (⟨PySem.Value.type "function", Option.none, .func (PySem.W.fnOf "_law_monitor" "_law_monitor" (C8.fnArgs Hc.s__law_monitor) (C8.fnBody Hc.s__law_monitor) (C8.fnScope Hc.s__law_monitor) (PySem.Value.none) (PySem.Value.none) (PySem.Value.none) (PySem.Value.str (PySem.Str.ofString "law_hermitcell_k22_maps_and_faults_of_tables") 1154) (Option.none) (PySem.Value.ref 667) (PySem.Value.none)), #[]⟩ : PySem.Obj)) ::
  (nat_lit 669, ({ cls := PySem.Value.type "tuple", data := PySem.Data.seq #[] } : PySem.Obj)) ::
  (nat_lit 671, ({ cls := PySem.Value.type "tuple", data := PySem.Data.seq #[PySem.Value.str (PySem.Str.ofString "memory") 1175, PySem.Value.str (PySem.Str.ofString "granule") 1176, PySem.Value.str (PySem.Str.ofString "words") 1177, PySem.Value.str (PySem.Str.ofString "state") 1178, PySem.Value.str (PySem.Str.ofString "owner") 1179, PySem.Value.str (PySem.Str.ofString "index") 1180] } : PySem.Obj)) ::
  (nat_lit 672, ({ cls := PySem.Value.type "tuple", data := PySem.Data.seq #[] } : PySem.Obj)) ::
  (nat_lit 674, ({ cls := PySem.Value.type "code", data := PySem.Data.fields #[PySem.Value.str (PySem.Str.ofString "_law_put") 1172, PySem.Value.str (PySem.Str.ofString "_law_put") 1173, PySem.Value.str (PySem.Str.ofString "/claim/cut.py") 1174, PySem.Value.int 483 0, PySem.Value.int 5 0, PySem.Value.int 0 0, PySem.Value.int 0 0, PySem.Value.int 3 0, PySem.Value.ref 669, PySem.Value.bool Bool.true, PySem.Value.int 181 0, PySem.Value.ref 670, PySem.Value.none, PySem.Value.ref 671, PySem.Value.ref 672, PySem.Value.ref 673, PySem.Value.int 1181 0, PySem.Value.int 483 0, PySem.Value.str (PySem.Str.ofString "/claim/cut.py") 1182] } : PySem.Obj)) ::
  (nat_lit 675, (⟨PySem.Value.type "function", Option.none, .func (PySem.W.fnOf "_law_put" "_law_put" (C8.fnArgs Hc.s__law_put) (C8.fnBody Hc.s__law_put) (C8.fnScope Hc.s__law_put) (PySem.Value.none) (PySem.Value.none) (PySem.Value.none) (PySem.Value.str (PySem.Str.ofString "law_hermitcell_k22_maps_and_faults_of_tables") 1154) (Option.none) (PySem.Value.ref 674) (PySem.Value.none)), #[]⟩ : PySem.Obj)) ::
  (nat_lit 676, ({ cls := PySem.Value.type "tuple", data := PySem.Data.seq #[] } : PySem.Obj)) ::
  (nat_lit 678, ({ cls := PySem.Value.type "tuple", data := PySem.Data.seq #[PySem.Value.str (PySem.Str.ofString "tape") 1187, PySem.Value.str (PySem.Str.ofString "page") 1188, PySem.Value.str (PySem.Str.ofString "free") 1189, PySem.Value.str (PySem.Str.ofString "kind") 1190] } : PySem.Obj)) ::
  (nat_lit 679, ({ cls := PySem.Value.type "tuple", data := PySem.Data.seq #[] } : PySem.Obj)) ::
  (nat_lit 681, ({ cls := PySem.Value.type "code", data := PySem.Data.fields #[PySem.Value.str (PySem.Str.ofString "_law_entry") 1184, PySem.Value.str (PySem.Str.ofString "_law_entry") 1185, PySem.Value.str (PySem.Str.ofString "/claim/cut.py") 1186, PySem.Value.int 488 0, PySem.Value.int 3 0, PySem.Value.int 0 0, PySem.Value.int 0 0, PySem.Value.int 3 0, PySem.Value.ref 676, PySem.Value.bool Bool.true, PySem.Value.int 181 0, PySem.Value.ref 677, PySem.Value.none, PySem.Value.ref 678, PySem.Value.ref 679, PySem.Value.ref 680, PySem.Value.int 1191 0, PySem.Value.int 488 0, PySem.Value.str (PySem.Str.ofString "/claim/cut.py") 1192] } : PySem.Obj)) ::
  (nat_lit 682, (⟨PySem.Value.type "function", Option.none, .func (PySem.W.fnOf "_law_entry" "_law_entry" (C8.fnArgs Hc.s__law_entry) (C8.fnBody Hc.s__law_entry) (C8.fnScope Hc.s__law_entry) (PySem.Value.none) (PySem.Value.none) (PySem.Value.none) (PySem.Value.str (PySem.Str.ofString "law_hermitcell_k22_maps_and_faults_of_tables") 1154) (Option.none) (PySem.Value.ref 681) (PySem.Value.none)), #[]⟩ : PySem.Obj)) ::
  (nat_lit 683, ({ cls := PySem.Value.type "tuple", data := PySem.Data.seq #[] } : PySem.Obj)) ::
  (nat_lit 686, ({ cls := PySem.Value.type "code", data := PySem.Data.fields #[PySem.Value.str (PySem.Str.ofString "_law_built") 1194, PySem.Value.str (PySem.Str.ofString "_law_built") 1195, PySem.Value.str (PySem.Str.ofString "/claim/cut.py") 1196, PySem.Value.int 499 0, PySem.Value.int 1 0, PySem.Value.int 0 0, PySem.Value.int 0 0, PySem.Value.int 3 0, PySem.Value.ref 683, PySem.Value.bool Bool.true, PySem.Value.int 181 0, PySem.Value.ref 684, PySem.Value.none, PySem.Value.none, PySem.Value.none, PySem.Value.ref 685, PySem.Value.int 1197 0, PySem.Value.int 499 0, PySem.Value.str (PySem.Str.ofString "/claim/cut.py") 1198] } : PySem.Obj)) ::
  (nat_lit 687, (⟨PySem.Value.type "function", Option.none, .func (PySem.W.fnOf "_law_built" "_law_built" (C8.fnArgs Hc.s__law_built) (C8.fnBody Hc.s__law_built) (C8.fnScope Hc.s__law_built) (PySem.Value.none) (PySem.Value.none) (PySem.Value.none) (PySem.Value.str (PySem.Str.ofString "law_hermitcell_k22_maps_and_faults_of_tables") 1154) (Option.none) (PySem.Value.ref 686) (PySem.Value.none)), #[]⟩ : PySem.Obj)) ::
  (nat_lit 688, ({ cls := PySem.Value.type "tuple", data := PySem.Data.seq #[] } : PySem.Obj)) ::
  (nat_lit 690, ({ cls := PySem.Value.type "tuple", data := PySem.Data.seq #[PySem.Value.str (PySem.Str.ofString "tape") 1203, PySem.Value.str (PySem.Str.ofString "rows") 1204, PySem.Value.str (PySem.Str.ofString "names") 1205, PySem.Value.str (PySem.Str.ofString "turn") 1206, PySem.Value.str (PySem.Str.ofString "row") 1207, PySem.Value.str (PySem.Str.ofString "way") 1208, PySem.Value.str (PySem.Str.ofString "menu") 1209] } : PySem.Obj)) ::
  (nat_lit 691, ({ cls := PySem.Value.type "tuple", data := PySem.Data.seq #[] } : PySem.Obj)) ::
  (nat_lit 693, ({ cls := PySem.Value.type "code", data := PySem.Data.fields #[PySem.Value.str (PySem.Str.ofString "_law_bent") 1200, PySem.Value.str (PySem.Str.ofString "_law_bent") 1201, PySem.Value.str (PySem.Str.ofString "/claim/cut.py") 1202, PySem.Value.int 512 0, PySem.Value.int 2 0, PySem.Value.int 0 0, PySem.Value.int 0 0, PySem.Value.int 3 0, PySem.Value.ref 688, PySem.Value.bool Bool.true, PySem.Value.int 181 0, PySem.Value.ref 689, PySem.Value.none, PySem.Value.ref 690, PySem.Value.ref 691, PySem.Value.ref 692, PySem.Value.int 1210 0, PySem.Value.int 512 0, PySem.Value.str (PySem.Str.ofString "/claim/cut.py") 1211] } : PySem.Obj)) ::
  (nat_lit 694, (⟨PySem.Value.type "function", Option.none, .func (PySem.W.fnOf "_law_bent" "_law_bent" (C8.fnArgs Hc.s__law_bent) (C8.fnBody Hc.s__law_bent) (C8.fnScope Hc.s__law_bent) (PySem.Value.none) (PySem.Value.none) (PySem.Value.none) (PySem.Value.str (PySem.Str.ofString "law_hermitcell_k22_maps_and_faults_of_tables") 1154) (Option.none) (PySem.Value.ref 693) (PySem.Value.none)), #[]⟩ : PySem.Obj)) ::
  (nat_lit 695, ({ cls := PySem.Value.type "tuple", data := PySem.Data.seq #[] } : PySem.Obj)) ::
  (nat_lit 697, ({ cls := PySem.Value.type "tuple", data := PySem.Data.seq #[PySem.Value.str (PySem.Str.ofString "value") 1216] } : PySem.Obj)) ::
  (nat_lit 698, ({ cls := PySem.Value.type "tuple", data := PySem.Data.seq #[] } : PySem.Obj)) ::
  (nat_lit 700, ({ cls := PySem.Value.type "code", data := PySem.Data.fields #[PySem.Value.str (PySem.Str.ofString "_law_granule") 1213, PySem.Value.str (PySem.Str.ofString "_law_granule") 1214, PySem.Value.str (PySem.Str.ofString "/claim/cut.py") 1215, PySem.Value.int 524 0, PySem.Value.int 1 0, PySem.Value.int 0 0, PySem.Value.int 0 0, PySem.Value.int 3 0, PySem.Value.ref 695, PySem.Value.bool Bool.true, PySem.Value.int 181 0, PySem.Value.ref 696, PySem.Value.none, PySem.Value.ref 697, PySem.Value.ref 698, PySem.Value.ref 699, PySem.Value.int 1217 0, PySem.Value.int 524 0, PySem.Value.str (PySem.Str.ofString "/claim/cut.py") 1218] } : PySem.Obj)) ::
  (nat_lit 701, (⟨PySem.Value.type "function", Option.none, .func (PySem.W.fnOf "_law_granule" "_law_granule" (C8.fnArgs Hc.s__law_granule) (C8.fnBody Hc.s__law_granule) (C8.fnScope Hc.s__law_granule) (PySem.Value.none) (PySem.Value.none) (PySem.Value.none) (PySem.Value.str (PySem.Str.ofString "law_hermitcell_k22_maps_and_faults_of_tables") 1154) (Option.none) (PySem.Value.ref 700) (PySem.Value.none)), #[]⟩ : PySem.Obj)) ::
  (nat_lit 702, ({ cls := PySem.Value.type "tuple", data := PySem.Data.seq #[] } : PySem.Obj)) ::
  (nat_lit 704, ({ cls := PySem.Value.type "tuple", data := PySem.Data.seq #[PySem.Value.str (PySem.Str.ofString "word") 1223, PySem.Value.str (PySem.Str.ofString "kinds") 1224] } : PySem.Obj)) ::
  (nat_lit 705, ({ cls := PySem.Value.type "tuple", data := PySem.Data.seq #[] } : PySem.Obj)) ::
  (nat_lit 707, ({ cls := PySem.Value.type "code", data := PySem.Data.fields #[PySem.Value.str (PySem.Str.ofString "_law_form") 1220, PySem.Value.str (PySem.Str.ofString "_law_form") 1221, PySem.Value.str (PySem.Str.ofString "/claim/cut.py") 1222, PySem.Value.int 526 0, PySem.Value.int 2 0, PySem.Value.int 0 0, PySem.Value.int 0 0, PySem.Value.int 3 0, PySem.Value.ref 702, PySem.Value.bool Bool.true, PySem.Value.int 181 0, PySem.Value.ref 703, PySem.Value.none, PySem.Value.ref 704, PySem.Value.ref 705, PySem.Value.ref 706, PySem.Value.int 1225 0, PySem.Value.int 526 0, PySem.Value.str (PySem.Str.ofString "/claim/cut.py") 1226] } : PySem.Obj)) ::
  (nat_lit 708, (⟨PySem.Value.type "function", Option.none, .func (PySem.W.fnOf "_law_form" "_law_form" (C8.fnArgs Hc.s__law_form) (C8.fnBody Hc.s__law_form) (C8.fnScope Hc.s__law_form) (PySem.Value.none) (PySem.Value.none) (PySem.Value.none) (PySem.Value.str (PySem.Str.ofString "law_hermitcell_k22_maps_and_faults_of_tables") 1154) (Option.none) (PySem.Value.ref 707) (PySem.Value.none)), #[]⟩ : PySem.Obj)) ::
  (nat_lit 709, ({ cls := PySem.Value.type "tuple", data := PySem.Data.seq #[] } : PySem.Obj)) ::
  (nat_lit 711, ({ cls := PySem.Value.type "tuple", data := PySem.Data.seq #[PySem.Value.str (PySem.Str.ofString "memory") 1231, PySem.Value.str (PySem.Str.ofString "granule") 1232, PySem.Value.str (PySem.Str.ofString "state") 1233, PySem.Value.str (PySem.Str.ofString "owner") 1234] } : PySem.Obj)) ::
  (nat_lit 712, ({ cls := PySem.Value.type "tuple", data := PySem.Data.seq #[] } : PySem.Obj)) ::
  (nat_lit 714, ({ cls := PySem.Value.type "code", data := PySem.Data.fields #[PySem.Value.str (PySem.Str.ofString "_law_status") 1228, PySem.Value.str (PySem.Str.ofString "_law_status") 1229, PySem.Value.str (PySem.Str.ofString "/claim/cut.py") 1230, PySem.Value.int 536 0, PySem.Value.int 4 0, PySem.Value.int 0 0, PySem.Value.int 0 0, PySem.Value.int 3 0, PySem.Value.ref 709, PySem.Value.bool Bool.true, PySem.Value.int 181 0, PySem.Value.ref 710, PySem.Value.none, PySem.Value.ref 711, PySem.Value.ref 712, PySem.Value.ref 713, PySem.Value.int 1235 0, PySem.Value.int 536 0, PySem.Value.str (PySem.Str.ofString "/claim/cut.py") 1236] } : PySem.Obj)) ::
  (nat_lit 715, (⟨PySem.Value.type "function", Option.none, .func (PySem.W.fnOf "_law_status" "_law_status" (C8.fnArgs Hc.s__law_status) (C8.fnBody Hc.s__law_status) (C8.fnScope Hc.s__law_status) (PySem.Value.none) (PySem.Value.none) (PySem.Value.none) (PySem.Value.str (PySem.Str.ofString "law_hermitcell_k22_maps_and_faults_of_tables") 1154) (Option.none) (PySem.Value.ref 714) (PySem.Value.none)), #[]⟩ : PySem.Obj)) ::
  (nat_lit 716, ({ cls := PySem.Value.type "tuple", data := PySem.Data.seq #[] } : PySem.Obj)) ::
  (nat_lit 719, ({ cls := PySem.Value.type "code", data := PySem.Data.fields #[PySem.Value.str (PySem.Str.ofString "_law_due") 1238, PySem.Value.str (PySem.Str.ofString "_law_due") 1239, PySem.Value.str (PySem.Str.ofString "/claim/cut.py") 1240, PySem.Value.int 538 0, PySem.Value.int 1 0, PySem.Value.int 0 0, PySem.Value.int 0 0, PySem.Value.int 3 0, PySem.Value.ref 716, PySem.Value.bool Bool.true, PySem.Value.int 181 0, PySem.Value.ref 717, PySem.Value.none, PySem.Value.none, PySem.Value.none, PySem.Value.ref 718, PySem.Value.int 1241 0, PySem.Value.int 538 0, PySem.Value.str (PySem.Str.ofString "/claim/cut.py") 1242] } : PySem.Obj)) ::
  (nat_lit 720, (⟨PySem.Value.type "function", Option.none, .func (PySem.W.fnOf "_law_due" "_law_due" (C8.fnArgs Hc.s__law_due) (C8.fnBody Hc.s__law_due) (C8.fnScope Hc.s__law_due) (PySem.Value.none) (PySem.Value.none) (PySem.Value.none) (PySem.Value.str (PySem.Str.ofString "law_hermitcell_k22_maps_and_faults_of_tables") 1154) (Option.none) (PySem.Value.ref 719) (PySem.Value.none)), #[]⟩ : PySem.Obj)) ::
  (nat_lit 721, ({ cls := PySem.Value.type "tuple", data := PySem.Data.seq #[] } : PySem.Obj)) ::
  (nat_lit 723, ({ cls := PySem.Value.type "tuple", data := PySem.Data.seq #[PySem.Value.str (PySem.Str.ofString "memory") 1247, PySem.Value.str (PySem.Str.ofString "found") 1248, PySem.Value.str (PySem.Str.ofString "word") 1249] } : PySem.Obj)) ::
  (nat_lit 724, ({ cls := PySem.Value.type "tuple", data := PySem.Data.seq #[] } : PySem.Obj)) ::
  (nat_lit 726, ({ cls := PySem.Value.type "code", data := PySem.Data.fields #[PySem.Value.str (PySem.Str.ofString "_law_map") 1244, PySem.Value.str (PySem.Str.ofString "_law_map") 1245, PySem.Value.str (PySem.Str.ofString "/claim/cut.py") 1246, PySem.Value.int 566 0, PySem.Value.int 1 0, PySem.Value.int 0 0, PySem.Value.int 0 0, PySem.Value.int 3 0, PySem.Value.ref 721, PySem.Value.bool Bool.true, PySem.Value.int 181 0, PySem.Value.ref 722, PySem.Value.none, PySem.Value.ref 723, PySem.Value.ref 724, PySem.Value.ref 725, PySem.Value.int 1250 0, PySem.Value.int 566 0, PySem.Value.str (PySem.Str.ofString "/claim/cut.py") 1251] } : PySem.Obj)) ::
  (nat_lit 727, (⟨PySem.Value.type "function", Option.none, .func (PySem.W.fnOf "_law_map" "_law_map" (C8.fnArgs Hc.s__law_map) (C8.fnBody Hc.s__law_map) (C8.fnScope Hc.s__law_map) (PySem.Value.none) (PySem.Value.none) (PySem.Value.none) (PySem.Value.str (PySem.Str.ofString "law_hermitcell_k22_maps_and_faults_of_tables") 1154) (Option.none) (PySem.Value.ref 726) (PySem.Value.none)), #[]⟩ : PySem.Obj)) ::
  (nat_lit 728, ({ cls := PySem.Value.type "tuple", data := PySem.Data.seq #[] } : PySem.Obj)) ::
  (nat_lit 730, ({ cls := PySem.Value.type "tuple", data := PySem.Data.seq #[PySem.Value.str (PySem.Str.ofString "script") 1256, PySem.Value.str (PySem.Str.ofString "tape") 1257, PySem.Value.str (PySem.Str.ofString "memory") 1258, PySem.Value.str (PySem.Str.ofString "rows") 1259, PySem.Value.str (PySem.Str.ofString "right") 1260, PySem.Value.str (PySem.Str.ofString "granule") 1261, PySem.Value.str (PySem.Str.ofString "many") 1262, PySem.Value.str (PySem.Str.ofString "told") 1263] } : PySem.Obj)) ::
  (nat_lit 731, ({ cls := PySem.Value.type "tuple", data := PySem.Data.seq #[] } : PySem.Obj)) ::
  (nat_lit 733, ({ cls := PySem.Value.type "code", data := PySem.Data.fields #[PySem.Value.str (PySem.Str.ofString "law") 1253, PySem.Value.str (PySem.Str.ofString "law") 1254, PySem.Value.str (PySem.Str.ofString "/claim/cut.py") 1255, PySem.Value.int 574 0, PySem.Value.int 1 0, PySem.Value.int 0 0, PySem.Value.int 0 0, PySem.Value.int 3 0, PySem.Value.ref 728, PySem.Value.bool Bool.true, PySem.Value.int 181 0, PySem.Value.ref 729, PySem.Value.none, PySem.Value.ref 730, PySem.Value.ref 731, PySem.Value.ref 732, PySem.Value.int 1264 0, PySem.Value.int 574 0, PySem.Value.str (PySem.Str.ofString "/claim/cut.py") 1265] } : PySem.Obj)) ::
  (nat_lit 734, (⟨PySem.Value.type "function", Option.none, .func (PySem.W.fnOf "law" "law" (C8.fnArgs Hc.s_law) (C8.fnBody Hc.s_law) (C8.fnScope Hc.s_law) (PySem.Value.none) (PySem.Value.none) (PySem.Value.none) (PySem.Value.str (PySem.Str.ofString "law_hermitcell_k22_maps_and_faults_of_tables") 1154) (Option.none) (PySem.Value.ref 733) (PySem.Value.none)), #[]⟩ : PySem.Obj)) ::
  []
def K0_as : List PySem.Addr := 2 :: 3 :: 15 :: 17 :: 18 :: 22 :: 29 :: 30 :: 31 :: 32 :: 35 :: 42 :: 43 :: 44 :: 47 :: 48 :: 49 :: 50 :: 51 :: 52 :: 53 :: 55 :: 56 :: 58 :: 59 :: 60 :: 63 :: 64 :: 65 :: 67 :: 68 :: 70 :: 71 :: 72 :: 74 :: 75 :: 77 :: 78 :: 79 :: 91 :: 93 :: 94 :: 98 :: 100 :: 101 :: 105 :: 107 :: 108 :: 112 :: 114 :: 115 :: 119 :: 120 :: 121 :: 122 :: 123 :: 126 :: 129 :: 130 :: 131 :: 133 :: 134 :: 138 :: 140 :: 141 :: 145 :: 150 :: 152 :: 153 :: 157 :: 159 :: 160 :: 164 :: 166 :: 167 :: 171 :: 172 :: 173 :: 174 :: 175 :: 176 :: 177 :: 178 :: 179 :: 180 :: 181 :: 182 :: 183 :: 184 :: 185 :: 186 :: 187 :: 188 :: 189 :: 190 :: 191 :: 192 :: 193 :: 194 :: 195 :: 196 :: 197 :: 198 :: 199 :: 200 :: 201 :: 202 :: 203 :: 204 :: 205 :: 206 :: 208 :: 209 :: 210 :: 211 :: 212 :: 213 :: 214 :: 216 :: 217 :: 219 :: 220 :: 221 :: 223 :: 224 :: 226 :: 227 :: 228 :: 230 :: 231 :: 233 :: 234 :: 235 :: 238 :: 239 :: 240 :: 242 :: 243 :: 245 :: 246 :: 247 :: 249 :: 250 :: 252 :: 253 :: 254 :: 256 :: 257 :: 268 :: 269 :: 272 :: 273 :: 274 :: 276 :: 277 :: 279 :: 280 :: 281 :: 283 :: 284 :: 286 :: 287 :: 288 :: 290 :: 291 :: 295 :: 297 :: 298 :: 300 :: 301 :: 302 :: 304 :: 305 :: 307 :: 308 :: 309 :: 311 :: 312 :: 316 :: 318 :: 319 :: 323 :: 325 :: 326 :: 330 :: 332 :: 333 :: 337 :: 339 :: 340 :: 344 :: 346 :: 347 :: 351 :: 356 :: 358 :: 359 :: 363 :: 365 :: 366 :: 370 :: 372 :: 373 :: 377 :: 379 :: 380 :: 382 :: 383 :: 384 :: 386 :: 387 :: 391 :: 393 :: 394 :: 398 :: 400 :: 401 :: 405 :: 407 :: 408 :: 412 :: 414 :: 415 :: 419 :: 421 :: 422 :: 426 :: 428 :: 429 :: 431 :: 432 :: 433 :: 435 :: 436 :: 438 :: 439 :: 440 :: 442 :: 443 :: 445 :: 446 :: 447 :: 449 :: 450 :: 454 :: 456 :: 457 :: 461 :: 463 :: 464 :: 468 :: 470 :: 471 :: 475 :: 477 :: 478 :: 482 :: 484 :: 485 :: 489 :: 491 :: 492 :: 496 :: 498 :: 499 :: 503 :: 505 :: 506 :: 510 :: 512 :: 513 :: 517 :: 519 :: 520 :: 524 :: 526 :: 527 :: 531 :: 533 :: 534 :: 538 :: 540 :: 541 :: 545 :: 546 :: 547 :: 548 :: 549 :: 552 :: 554 :: 555 :: 557 :: 558 :: 559 :: 561 :: 562 :: 564 :: 565 :: 566 :: 568 :: 569 :: 571 :: 572 :: 573 :: 575 :: 576 :: 578 :: 579 :: 580 :: 582 :: 583 :: 585 :: 586 :: 587 :: 589 :: 590 :: 592 :: 593 :: 594 :: 596 :: 597 :: 599 :: 600 :: 601 :: 603 :: 604 :: 606 :: 607 :: 608 :: 610 :: 611 :: 613 :: 614 :: 615 :: 617 :: 618 :: 620 :: 621 :: 622 :: 624 :: 625 :: 627 :: 628 :: 629 :: 632 :: 633 :: 634 :: 636 :: 637 :: 639 :: 640 :: 641 :: 643 :: 644 :: 646 :: 647 :: 648 :: 650 :: 651 :: 653 :: 654 :: 655 :: 657 :: 658 :: 660 :: 661 :: 662 :: 664 :: 665 :: 667 :: 668 :: 669 :: 671 :: 672 :: 674 :: 675 :: 676 :: 678 :: 679 :: 681 :: 682 :: 683 :: 686 :: 687 :: 688 :: 690 :: 691 :: 693 :: 694 :: 695 :: 697 :: 698 :: 700 :: 701 :: 702 :: 704 :: 705 :: 707 :: 708 :: 709 :: 711 :: 712 :: 714 :: 715 :: 716 :: 719 :: 720 :: 721 :: 723 :: 724 :: 726 :: 727 :: 728 :: 730 :: 731 :: 733 :: 734 :: []
def loose0 : List PySem.Str := (["_wall", "HermitError", "NotValid", "LEAST", "GREATEST", "MOST_CHARACTERS", "MOST_DEEP", "MOST_RANK", "MOST_RANK_HOST", "_FORMS", "is_number", "is_text", "is_word", "is_form", "rank_of", "Atom", "_is_within", "_places_of_atoms", "_are_equal", "_is_term", "_has_form", "_rank_of_atom", "_most_rank", "GRANULES", "WORDS"] : List PySem.Str) ++ (["PROCESSORS", "PAGES", "STATES", "_REQUESTS", "is_granule", "is_processor", "is_page", "is_access", "has_name", "fits", "is_row", "Memory", "_is_below", "_number_below", "_is_actor", "FIRST_SHARED", "granule_of", "leaf_of", "is_root_word", "is_entry", "is_leaving", "map_of", "tables_fault", "_is_from_one_on", "_is_table"] : List PySem.Str) ++ (["_are_leaves_right", "_fault_of_pages", "_is_in_wrong_half", "_law_next", "_law_monitor", "_law_put", "_law_entry", "_law_built", "_law_bent", "_law_granule", "_law_form", "_law_status", "_law_due", "_law_map"] : List PySem.Str)
abbrev q0 : Program := view P0 [69]
theorem hsw0 : swapsWith (.Dict c0.keys c0.values c0.dpos) (some (.Name c0.X c0.pos')) c0.pos.line c0.env = Pure.pure false := by kernel_rfl
theorem hps0 : (evalEachOpt c0.keys c0.env).zip ((evalEach c0.values c0.env).map fun v => (do let x ← v; standAt c0.dpos; Pure.pure x : Sem Value)) = pairsI c0.ps := by kernel_rfl
theorem hth0 (w : World) (os : OsState) : (cut1 c0 (HandSHeadRun.stepQ (HandSHeadRun.denQ HandSHeadRun.tabQ) P0 w) P0 w os).map (fun r => r.1.2) = some ⟨HandSHeadRun.denQ HandSHeadRun.tabQ c0.code, c0.code, c0.apos, [topFrame c0.q]⟩ := by kernel_rfl
theorem runF (w : World) : RunCut (OpenLaw.row PySem.Challenge.rw_hermitcell_k22_maps_and_faults_of_tables) q0 c0 K0_as (fun w => K0 w.params) loose0 (w.withFollow "special-get-raises" false) := by
  intro os
  kernel_rfl
theorem runT (w : World) : RunCut (OpenLaw.row PySem.Challenge.rw_hermitcell_k22_maps_and_faults_of_tables) q0 c0 K0_as (fun w => K0 w.params) loose0 (w.withFollow "special-get-raises" true) := by
  intro os
  kernel_rfl
theorem run0 (w : World) : RunCut (OpenLaw.row PySem.Challenge.rw_hermitcell_k22_maps_and_faults_of_tables) q0 c0 K0_as (fun w => K0 w.params) loose0 w := PySem.W.byRow2 "special-get-raises" (P := RunCut (OpenLaw.row PySem.Challenge.rw_hermitcell_k22_maps_and_faults_of_tables) q0 c0 K0_as (fun w => K0 w.params) loose0) runF runT w
end Hz
open PySem PySem.W PySem.Calls PyProof.Rows
theorem PySem.Challenge.cw_hermitcell_k22_maps_and_faults_of_tables_holds : PySem.Challenge.rw_hermitcell_k22_maps_and_faults_of_tables.Holds := by
  w_on; o_law
  refine Hd.head_cut (r := OpenLaw.row PySem.Challenge.rw_hermitcell_k22_maps_and_faults_of_tables) (q := Hz.q0) (c := Hz.c0) (as := Hz.K0_as) (Kl := fun w => Hz.K0 w.params) (loose := Hz.loose0) (d := HandSHeadRun.topDef (OpenLaw.row PySem.Challenge.rw_hermitcell_k22_maps_and_faults_of_tables).prog 69) (kwd := [])
    (by kernel_rfl) (fun s => by kernel_rfl) Hz.hsw0 Hz.hps0 Hz.hth0 Hz.run0 (by kernel_rfl) (by kernel_rfl) (by kernel_rfl) (by rfl) (by first | assumption | decide +kernel) (by decide +kernel) ⟨rfl, rfl, rfl, rfl, rfl, by decide +kernel⟩ ?hw ?hc
  case hw => w_witness2
  case hc =>
    k_fill
    refine L2.walk_of (l := PySem.Challenge.rw_hermitcell_k22_maps_and_faults_of_tables) (n := 63) (k := 9) (x := "script") (CX := fun _ => C8.CX0) (sp := fun w => Hc.spLaw _) rfl (by decide) (by kernel_rfl) ⟨rfl, by decide, by decide⟩ (fun w h Y => Y) ?F (fun _ _ a ns hl _ hS => ⟨a, ns, rfl, hS, Nat.le_trans hl (by decide), fun _ => rfl⟩) (fun _ _ _ _ _ h => h)
    intro w mg fa h KX G hmg0
    have hmg : mg ("law" : PySem.Str) = some (.ref fa) := by
      have e : (HandSHeadRun.topDef (OpenLaw.row PySem.Challenge.rw_hermitcell_k22_maps_and_faults_of_tables).prog 69).name = ("law" : PySem.Str) := by kernel_rfl
      rw [← e]
      exact hmg0
    refine' Hc.all_mk KX G hmg ?a1 ?l1 ?c1 ?k1 ?a2 ?l2 ?c2 ?k2 ?a3 ?l3 ?c3 ?k3 ?a4 ?l4 ?c4 ?k4 ?a5 ?l5 ?c5 ?k5 ?a6 ?l6 ?c6 ?k6 ?a7 ?l7 ?c7 ?k7 ?a8 ?l8 ?c8 ?k8 ?a9 ?l9 ?c9 ?k9 ?a10 ?l10 ?c10 ?k10 ?a11 ?l11 ?c11 ?k11 ?a12 ?l12 ?c12 ?k12 ?a13 ?l13 ?c13 ?k13 ?a14 ?l14 ?c14 ?k14 ?a15 ?l15 ?c15 ?k15 ?a16 ?l16 ?c16 ?k16 ?a17 ?l17 ?c17 ?k17 ?a18 ?l18 ?c18 ?k18 ?a19 ?l19 ?c19 ?k19 ?a20 ?l20 ?c20 ?k20 ?a21 ?l21 ?c21 ?k21 ?a22 ?l22 ?c22 ?k22 ?a23 ?l23 ?c23 ?k23 ?a24 ?l24 ?c24 ?k24 ?a25 ?l25 ?c25 ?k25 ?a26 ?l26 ?c26 ?k26 ?a27 ?l27 ?c27 ?k27 ?a28 ?l28 ?c28 ?k28 ?a29 ?l29 ?c29 ?k29 ?a30 ?l30 ?c30 ?k30 ?a31 ?l31 ?c31 ?k31 ?a32 ?l32 ?c32 ?k32 ?a33 ?l33 ?c33 ?k33 ?a34 ?l34 ?c34 ?k34 ?a35 ?l35 ?c35 ?k35 ?a36 ?l36 ?c36 ?k36 ?a37 ?l37 ?c37 ?k37 ?a38 ?l38 ?c38 ?k38 ?aC ?aN ?a39 ?i39 ?l39 ?ldT0 ?c39 ?k39 ?a40 ?i40 ?l40 ?c40 ?k40 ?a41 ?i41 ?l41 ?c41 ?k41 ?a42 ?i42 ?l42 ?c42 ?k42 ?a43 ?i43 ?l43 ?c43 ?k43 ?a44 ?i44 ?l44 ?c44 ?k44 ?a45 ?i45 ?l45 ?c45 ?k45 ?a46 ?i46 ?l46 ?c46 ?k46 ?a47 ?i47 ?l47 ?c47 ?k47 ?pgC ?hdC ?poC ?saC ?mkC ?kcC ?pgN ?hdN ?poN ?saN ?mkN ?kcN ?ha ?hn ?htk ?hm ?me ?nakind ?naterm ?narank ?na_stripped ?nvN_without ?nvN_statuses ?nvN_words ?nvN_presences ?nvN_rows ?nvN_walks ?nvN_drops ?nvN_tickets ?nvN_taken ?nvN_log ?qint ?qstr ?qtuple ?qbool ?qlist ?qdict ?rNoneType ?rbool ?rint ?rstr ?rtuple ?rlist ?rdict ?nLEAST ?nGREATEST ?nMOST_CHARACTERS ?nMOST_DEEP ?nMOST_RANK ?nMOST_RANK_HOST ?nGRANULES ?nWORDS ?nPROCESSORS ?nPAGES ?nFIRST_SHARED ?ztype ?zint ?zstr ?zbool ?ztuple ?zlist ?zdict ?zrange ?zzip ?zlen ?zall ?zmax ?zisinstance ?zabs ?zsorted ?zenumerate ?aF ?lF ?kF ?oF ?vtt1 ?wtt1 ?vtt2 ?wtt2 ?vtt3 ?wtt3 ?vtt4 ?wtt4 ?vtt5 ?wtt5 ?vkey ?aU0 ?wku0 ?aR ?lR ?oR ?eR ?wky0 ?wky1 ?wky2 ?wky3 ?wky4 ?wky5 ?wky6 ?wky7 ?wky8 ?wky9 ?wky10 ?wky11 ?wky12 ?wky13 ?wky14 ?wky15 ?wky16 ?wky17 ?wky18 ?wky19 ?wvl6 ?wvl4 ?wvl7 ?hNC ?gf45 ?tk45 ?fi45 ?gf46 ?tk46 ?fi46 ?gf47 ?tk47 ?fi47
    (case a1 => k_is)
    (case l1 => k_is)
    (case c1 => k_is)
    (case k1 => k_is)
    (case a2 => k_is)
    (case l2 => k_is)
    (case c2 => k_is)
    (case k2 => k_is)
    (case a3 => k_is)
    (case l3 => k_is)
    (case c3 => k_is)
    (case k3 => k_is)
    (case a4 => k_is)
    (case l4 => k_is)
    (case c4 => k_is)
    (case k4 => k_is)
    (case a5 => k_is)
    (case l5 => k_is)
    (case c5 => k_is)
    (case k5 => k_is)
    (case a6 => k_is)
    (case l6 => k_is)
    (case c6 => k_is)
    (case k6 => k_is)
    (case a7 => k_is)
    (case l7 => k_is)
    (case c7 => k_is)
    (case k7 => k_is)
    (case a8 => k_is)
    (case l8 => k_is)
    (case c8 => k_is)
    (case k8 => k_is)
    (case a9 => k_is)
    (case l9 => k_is)
    (case c9 => k_is)
    (case k9 => k_is)
    (case a10 => k_is)
    (case l10 => k_is)
    (case c10 => k_is)
    (case k10 => k_is)
    (case a11 => k_is)
    (case l11 => k_is)
    (case c11 => k_is)
    (case k11 => k_is)
    (case a12 => k_is)
    (case l12 => k_is)
    (case c12 => k_is)
    (case k12 => k_is)
    (case a13 => k_is)
    (case l13 => k_is)
    (case c13 => k_is)
    (case k13 => k_is)
    (case a14 => k_is)
    (case l14 => k_is)
    (case c14 => k_is)
    (case k14 => k_is)
    (case a15 => k_is)
    (case l15 => k_is)
    (case c15 => k_is)
    (case k15 => k_is)
    (case a16 => k_is)
    (case l16 => k_is)
    (case c16 => k_is)
    (case k16 => k_is)
    (case a17 => k_is)
    (case l17 => k_is)
    (case c17 => k_is)
    (case k17 => k_is)
    (case a18 => k_is)
    (case l18 => k_is)
    (case c18 => k_is)
    (case k18 => k_is)
    (case a19 => k_is)
    (case l19 => k_is)
    (case c19 => k_is)
    (case k19 => k_is)
    (case a20 => k_is)
    (case l20 => k_is)
    (case c20 => k_is)
    (case k20 => k_is)
    (case a21 => k_is)
    (case l21 => k_is)
    (case c21 => k_is)
    (case k21 => k_is)
    (case a22 => k_is)
    (case l22 => k_is)
    (case c22 => k_is)
    (case k22 => k_is)
    (case a23 => k_is)
    (case l23 => k_is)
    (case c23 => k_is)
    (case k23 => k_is)
    (case a24 => k_is)
    (case l24 => k_is)
    (case c24 => k_is)
    (case k24 => k_is)
    (case a25 => k_is)
    (case l25 => k_is)
    (case c25 => k_is)
    (case k25 => k_is)
    (case a26 => k_is)
    (case l26 => k_is)
    (case c26 => k_is)
    (case k26 => k_is)
    (case a27 => k_is)
    (case l27 => k_is)
    (case c27 => k_is)
    (case k27 => k_is)
    (case a28 => k_is)
    (case l28 => k_is)
    (case c28 => k_is)
    (case k28 => k_is)
    (case a29 => k_is)
    (case l29 => k_is)
    (case c29 => k_is)
    (case k29 => k_is)
    (case a30 => k_is)
    (case l30 => k_is)
    (case c30 => k_is)
    (case k30 => k_is)
    (case a31 => k_is)
    (case l31 => k_is)
    (case c31 => k_is)
    (case k31 => k_is)
    (case a32 => k_is)
    (case l32 => k_is)
    (case c32 => k_is)
    (case k32 => k_is)
    (case a33 => k_is)
    (case l33 => k_is)
    (case c33 => k_is)
    (case k33 => k_is)
    (case a34 => k_is)
    (case l34 => k_is)
    (case c34 => k_is)
    (case k34 => k_is)
    (case a35 => k_is)
    (case l35 => k_is)
    (case c35 => k_is)
    (case k35 => k_is)
    (case a36 => k_is)
    (case l36 => k_is)
    (case c36 => k_is)
    (case k36 => k_is)
    (case a37 => k_is)
    (case l37 => k_is)
    (case c37 => k_is)
    (case k37 => k_is)
    (case a38 => k_is)
    (case l38 => k_is)
    (case c38 => k_is)
    (case k38 => k_is)
    (case aC => k_is)
    (case aN => k_is)
    (case a39 => k_is)
    (case i39 => k_is)
    (case l39 => k_is)
    (case ldT0 => k_is)
    (case c39 => k_is)
    (case k39 => k_is)
    (case a40 => k_is)
    (case i40 => k_is)
    (case l40 => k_is)
    (case c40 => k_is)
    (case k40 => k_is)
    (case a41 => k_is)
    (case i41 => k_is)
    (case l41 => k_is)
    (case c41 => k_is)
    (case k41 => k_is)
    (case a42 => k_is)
    (case i42 => k_is)
    (case l42 => k_is)
    (case c42 => k_is)
    (case k42 => k_is)
    (case a43 => k_is)
    (case i43 => k_is)
    (case l43 => k_is)
    (case c43 => k_is)
    (case k43 => k_is)
    (case a44 => k_is)
    (case i44 => k_is)
    (case l44 => k_is)
    (case c44 => k_is)
    (case k44 => k_is)
    (case a45 => k_is)
    (case i45 => k_is)
    (case l45 => k_is)
    (case c45 => k_is)
    (case k45 => k_is)
    (case a46 => k_is)
    (case i46 => k_is)
    (case l46 => k_is)
    (case c46 => k_is)
    (case k46 => k_is)
    (case a47 => k_is)
    (case i47 => k_is)
    (case l47 => k_is)
    (case c47 => k_is)
    (case k47 => k_is)
    (case pgC => k_is)
    (case hdC => k_is)
    (case poC => k_is)
    (case saC => k_is)
    (case mkC => k_is)
    (case kcC => k_is)
    (case pgN => k_is)
    (case hdN => k_is)
    (case poN => k_is)
    (case saN => k_is)
    (case mkN => k_is)
    (case kcN => k_is)
    (case ha => k_is)
    (case hn => k_is)
    (case htk => k_is)
    (case hm => k_is)
    (case me => kit_is)
    (case nakind => k_is)
    (case naterm => k_is)
    (case narank => k_is)
    (case na_stripped => k_is)
    (case nvN_without => k_is)
    (case nvN_statuses => k_is)
    (case nvN_words => k_is)
    (case nvN_presences => k_is)
    (case nvN_rows => k_is)
    (case nvN_walks => k_is)
    (case nvN_drops => k_is)
    (case nvN_tickets => k_is)
    (case nvN_taken => k_is)
    (case nvN_log => k_is)
    (case qint => kit_is)
    (case qstr => kit_is)
    (case qtuple => kit_is)
    (case qbool => kit_is)
    (case qlist => kit_is)
    (case qdict => kit_is)
    (case rNoneType => kit_is)
    (case rbool => kit_is)
    (case rint => kit_is)
    (case rstr => kit_is)
    (case rtuple => kit_is)
    (case rlist => kit_is)
    (case rdict => kit_is)
    (case nLEAST => k_is)
    (case nGREATEST => k_is)
    (case nMOST_CHARACTERS => k_is)
    (case nMOST_DEEP => k_is)
    (case nMOST_RANK => k_is)
    (case nMOST_RANK_HOST => k_is)
    (case nGRANULES => k_is)
    (case nWORDS => k_is)
    (case nPROCESSORS => k_is)
    (case nPAGES => k_is)
    (case nFIRST_SHARED => k_is)
    (case ztype => k_is)
    (case zint => k_is)
    (case zstr => k_is)
    (case zbool => k_is)
    (case ztuple => k_is)
    (case zlist => k_is)
    (case zdict => k_is)
    (case zrange => k_is)
    (case zzip => k_is)
    (case zlen => k_is)
    (case zall => k_is)
    (case zmax => k_is)
    (case zisinstance => k_is)
    (case zabs => k_is)
    (case zsorted => k_is)
    (case zenumerate => k_is)
    (case aF => k_is)
    (case lF => k_is)
    (case kF => k_keys)
    (case oF => decide)
    (case vtt1 => k_is)
    (case wtt1 => k_is)
    (case vtt2 => k_is)
    (case wtt2 => k_is)
    (case vtt3 => k_is)
    (case wtt3 => k_is)
    (case vtt4 => k_is)
    (case wtt4 => k_is)
    (case vtt5 => k_is)
    (case wtt5 => k_is)
    (case vkey => k_is)
    (case aU0 => k_is)
    (case wku0 => k_is)
    (case aR => k_is)
    (case lR => k_is)
    (case oR => decide)
    (case eR => rfl)
    (case wky0 => k_is)
    (case wky1 => k_is)
    (case wky2 => k_is)
    (case wky3 => k_is)
    (case wky4 => k_is)
    (case wky5 => k_is)
    (case wky6 => k_is)
    (case wky7 => k_is)
    (case wky8 => k_is)
    (case wky9 => k_is)
    (case wky10 => k_is)
    (case wky11 => k_is)
    (case wky12 => k_is)
    (case wky13 => k_is)
    (case wky14 => k_is)
    (case wky15 => k_is)
    (case wky16 => k_is)
    (case wky17 => k_is)
    (case wky18 => k_is)
    (case wky19 => k_is)
    (case wvl6 => k_is)
    (case wvl4 => k_is)
    (case wvl7 => k_is)
    (case hNC => decide)
    (case gf45 => k_is)
    (case tk45 => k_is)
    (case fi45 => k_is)
    (case gf46 => k_is)
    (case tk46 => k_is)
    (case fi46 => k_is)
    (case gf47 => k_is)
    (case tk47 => k_is)
    (case fi47 => k_is)


import PyProof.Rows.All
import Wide.All
import OpenK.AllK
import Wide.FinOn
import HandS.ForMost
import HandS.Codes
import HandS.IsInst
import HandS.More
import HandS.OwnEq
import HandS.EndBits
import HandS.Style
import PyProof.Rows.CallKwBuiltin
import KE.KMinKey
import HandS.SortKw
import HandS.Dict
import HandS.Conv
import HandS.Zip
import HandS.DictComp
import HandS.Walk
import HandS.TupAny
import HandS.TupMul
import HandS.Exc
import HandS.ExcOwn
import HandS.Small
import HandS.WordsExc
import PyProof.StrBlock2
import HandS.DeepEq
import PySem.Challenge.RW_hermitcell_k70_what_measures_tell
set_option Elab.async false
set_option maxRecDepth 100000
set_option maxHeartbeats 4000000
set_option linter.all false
/-! Rules that the layer lacks. -/
namespace Hr
open PySem PySem.SeqAt PyProof.Rows
open AutoSeq1 (wpAny_loadPart')
open MeetsSeq MeetsSeq2 MeetsSeq3 SeqRoads2
/-! ### x in l: the items' == may run code -/
section
variable {prog : Program} {w : World} {A : Around} {E : Value → Shared → Prop}
/-- the list stands still, its items are asked one by one -/
structure Asks (prog : Program) (w : World) (A : Around) (E : Value → Shared → Prop) (l : Addr) (x : Value) (J : Shared → Prop) (bs : List Bool) : Prop where
  at_ : ∀ s, J s → ∃ (items : Array Value) (n : Nat), s.heap.get? l = some { cls := .type "list", data := .seq items n } ∧ items.size = bs.length ∧
    ∀ (i : Nat) (h : i < items.size) (h2 : i < bs.length), wpAny (model prog w) A.in1 (eqBool items[i] x) (fun r s' => r = bs[i] ∧ J s') E s
theorem in_loop {R : Result → Shared → Prop} {l : Addr} {x : Value} {J : Shared → Prop} {bs : List Bool} (hl : Asks prog w A (fun e s' => R (.error e) s') l x J bs) (k : Nat) :
    ∀ i : Nat, bs.length - i = k → ∀ s, J s → (∀ s', J s' → R (.ok (.ret (.bool ((bs.drop i).any id)))) s') →
      wpAny (model prog w) A.in1 (Builtin.«list.__contains__.loop» ⟨[.ref l, x, rawInt i], []⟩) (GQ.FinOf prog w A R) (fun e s' => R (.error e) s') s := by
  induction k with
  | zero =>
    intro i hk s h fin
    obtain ⟨items, n, hg, hz, _⟩ := hl.at_ _ h
    have f := fin s h
    rw [List.drop_eq_nil_of_le (by omega)] at f
    obtain ⟨hp, g, d, tk, os⟩ := s
    wp_walk using wpAny_loadPart' hg
    have hi : items[((i : Nat) : Int).toNat]? = none := by simp; omega
    rw [hi]
    wp_walk
    exact f
  | succ k ih =>
    intro i hk s h fin
    obtain ⟨items, n, hg, hz, turn⟩ := hl.at_ _ h
    have h1 : i < items.size := by omega
    have h2 : i < bs.length := by omega
    have ht := turn i h1 h2
    obtain ⟨hp, g, d, tk, os⟩ := s
    wp_walk using wpAny_loadPart' hg
    have hi : items[((i : Nat) : Int).toNat]? = some items[i] := by simp [h1]
    have hd : (bs.drop i).any id = (bs[i] || (bs.drop (i + 1)).any id) := by rw [List.drop_eq_getElem_cons h2, List.any_cons]; rfl
    rw [hd] at fin
    rw [hi]
    refine wpAny_bind (wpAny_mono ht (fun r s2 q2 => ?_) fun _ _ z => z)
    obtain ⟨hr, j2⟩ := q2
    subst hr
    cases hb : bs[i] with
    | true =>
      rw [hb] at fin
      have f := fin s2 j2
      obtain ⟨hp2, g2, d2, tk2, os2⟩ := s2
      wp_walk
      exact f
    | false =>
      rw [hb] at fin
      have rec_ := ih (i + 1) (by omega) s2 j2 fin
      have hc : ((i : Int) + 1) = ((i + 1 : Nat) : Int) := by omega
      obtain ⟨hp2, g2, d2, tk2, os2⟩ := s2
      wp_walk
      rw [hc]
      exact ⟨plainId_quiet plain_contains_loop _, codeAny_builtin entry_contains_loop (by
        rw [Around.under_plainId plain_contains_loop _]
        exact rec_)⟩
theorem in_list {R : Result → Shared → Prop} {l : Addr} {x : Value} {J : Shared → Prop} {bs : List Bool} (hl : Asks prog w A (fun e s' => R (.error e) s') l x J bs) {s : Shared} (h : J s)
    (fin : ∀ s', J s' → R (.ok (.ret (.bool (bs.any id)))) s') :
    wpAny (model prog w) A.in1 (Builtin.«list.__contains__» ⟨[.ref l, x], []⟩) (GQ.FinOf prog w A R) (fun e s' => R (.error e) s') s := by
  obtain ⟨items, n, hg, hz, _⟩ := hl.at_ _ h
  have rec_ := in_loop (A := A) hl _ 0 rfl s h (by simpa using fin)
  obtain ⟨hp, g, d, tk, os⟩ := s
  wp_walk using wpAny_loadPart' hg
  exact ⟨plainId_quiet plain_contains_loop _, codeAny_builtin entry_contains_loop (by
    rw [Around.under_plainId plain_contains_loop _]
    exact rec_)⟩
theorem call_in {l : Addr} {x : Value} {J : Shared → Prop} {bs : List Bool} {Q : Value → Shared → Prop} (hl : Asks prog w A E l x J bs) {s : Shared} (h : J s) (fin : ∀ s', J s' → Q (.bool (bs.any id)) s') :
    wpAny (model prog w) A (call (.builtin "list.__contains__") [.ref l, x]) Q E s := by
  obtain ⟨items, n, hg, _, _⟩ := hl.at_ _ h
  exact GQ.call_here F.slot_list_contains ⟨_, hg, rfl⟩ F.entry_list_contains (F.args_list_contains_2 _ _) (in_list (R := wants Q E) hl h fin)
theorem op_in_ {l : Addr} {x : Value} {J : Shared → Prop} {bs : List Bool} {Q : Value → Shared → Prop} (hl : Asks prog w A E l x J bs) {s : Shared} (h : J s) (fin : ∀ s', J s' → Q (.bool (bs.any id)) s') :
    wpAny (model prog w) A (compareOp .In x (.ref l)) Q E s := by
  obtain ⟨items, n, hg, _, _⟩ := hl.at_ _ h
  show wpAny _ _ (do return .bool (← contains (.ref l) x)) Q E s
  refine wpAny_bind (wpAny_contains_slot ⟨_, hg, rfl⟩ F.slot_list_contains ?_)
  exact call_in hl h fun s' j => wpAny_truthy_bool (wpAny_pure (fin s' j))
theorem op_notIn_ {l : Addr} {x : Value} {J : Shared → Prop} {bs : List Bool} {Q : Value → Shared → Prop} (hl : Asks prog w A E l x J bs) {s : Shared} (h : J s) (fin : ∀ s', J s' → Q (.bool (!bs.any id)) s') :
    wpAny (model prog w) A (compareOp .NotIn x (.ref l)) Q E s := by
  obtain ⟨items, n, hg, _, _⟩ := hl.at_ _ h
  show wpAny _ _ (do return .bool (!(← contains (.ref l) x))) Q E s
  refine wpAny_bind (wpAny_contains_slot ⟨_, hg, rfl⟩ F.slot_list_contains ?_)
  exact call_in hl h fun s' j => wpAny_truthy_bool (wpAny_pure (fin s' j))
end
end Hr

namespace Hr
open PySem PySem.Spec PyProof.Rows L2
/-! ### t[::-1] of a tuple -/
section
variable {prog : Program} {w : World} {A : Around} {E : Value → Shared → Prop} {s : Shared}
theorem rev_adj (n : Nat) : Builtin.Slice.sliceAdjust none none (-1) (n : Int) = ((n : Int) - 1, -1) := rfl
theorem rev_places (n : Nat) : Builtin.Slice.slicePlaces ((n : Int) - 1) (-1) (-1) = n := by
  unfold Builtin.Slice.slicePlaces
  rw [if_neg (by decide)]
  by_cases h : (n : Int) - 1 > -1
  · rw [if_pos h, show (-(-1) : Int) = 1 by decide, Int.ediv_one]; omega
  · rw [if_neg h]; omega
theorem rev_pick (xs : Array Value) : ((List.range xs.size).filterMap fun (m : Nat) => xs[((xs.size : Int) - 1 + (m : Int) * -1).toNat]?).toArray = xs.toList.reverse.toArray := by
  congr 1
  have key : ∀ m, m < xs.size → xs[((xs.size : Int) - 1 + (m : Int) * -1).toNat]? = xs.toList.reverse[m]? := fun m hm => by
    rw [List.getElem?_reverse (by simpa using hm), Array.length_toList, ← Array.getElem?_toList]
    congr 1
    omega
  have aux : ∀ (l : List Value), (List.range l.length).filterMap (fun m => l[m]?) = l := fun l => by
    induction l with
    | nil => rfl
    | cons x r ih =>
      rw [List.length_cons, List.range_succ_eq_map, List.filterMap_cons]
      show x :: _ = _
      rw [List.filterMap_map]
      exact congrArg (x :: ·) ih
  have e := aux xs.toList.reverse
  rw [List.length_reverse, Array.length_toList] at e
  have cong : ∀ (f g : Nat → Option Value) (l : List Nat), (∀ m ∈ l, f m = g m) → l.filterMap f = l.filterMap g := fun f g l => by
    induction l with
    | nil => exact fun _ => rfl
    | cons x r ih =>
      intro h
      rw [List.filterMap_cons, List.filterMap_cons, h x List.mem_cons_self, ih fun m hm => h m (List.mem_cons_of_mem _ hm)]
  exact (cong _ _ _ fun m hm => key m (List.mem_range.mp hm)).trans e
theorem getItem_tuple_rev {t sl : Addr} {items : Array Value} {vs : Value} {Q : Value → Shared → Prop} (ht : IsTup s.heap t items) (hs : s.heap.IsSliceOf sl .none .none vs) (ps : IsPart vs (some (-1)))
    (h : Q (.ref s.heap.objs.size) { s with heap := s.heap.push { cls := .type "tuple", data := .seq items.toList.reverse.toArray } }) (hz : items.size ≤ sizeLine) : wpAny (model prog w) A (getItem (.ref t) (.ref sl)) Q E s := by
  have hok : sizeOk (.seq items.toList.reverse.toArray) := by
    show items.toList.reverse.toArray.size ≤ sizeLine
    rw [List.size_toArray, List.length_reverse, Array.length_toList]; exact hz
  obtain ⟨os, hos, hcs, hds⟩ := id hs
  have hT : s.TypeIs (.ref sl) "slice" := ⟨os, hos, hcs⟩
  unfold getItem
  try with_reducible refine wpAny_holding ?_
  first | refine wpAny_bind (wpAny_pure ?_) | skip
  refine wpAny_bind (wpAny_sequenceKey ht.typeIs (by decide) ?_)
  refine wpAny_bind (wpAny_callSpecial?_slot (name := Str.ofString "__getitem__") ht.typeIs PyProof.Rows.slot_tuple_getitem
    (wpAny_call_entry PyProof.Rows.slot_tuple_getitem ht.typeIs entry_tuple_getitem ?_ (args_tuple_getitem _ _)))
  show wpAny _ _ (Builtin.Tuple.tupleItemsOf (.ref t) >>= _) _ _ s
  refine wpAny_bind (tupleItemsOf_ ht ?_)
  refine wpAny_bind (wpAny_typeOf hT ?_)
  rw [if_pos (by decide)]
  have happ : ∀ {Q' : Int × Int × Nat → Shared → Prop} {E' : Value → Shared → Prop} {A' : Around}, Q' ((items.size : Int) - 1, -1, items.size) s → wpAny (model prog w) A' (Builtin.Slice.sliceApplied (.ref sl) (pure (items.size : Int))) Q' E' s := fun {Q' E' A'} q => by
    unfold Builtin.Slice.sliceApplied Builtin.Slice.sliceFields
    refine wpAny_bind (wpAny_bind (wpAny_field hos hds (x := .none) rfl (wpAny_bind (wpAny_field hos hds (x := .none) rfl (wpAny_bind (wpAny_field hos hds (x := vs) rfl (wpAny_pure ?_)))))))
    cases ps with
    | int i u =>
      refine wpAny_bind (slicePart_int ?_)
      show wpAny _ _ (if ((-1 : Int) == 0) = true then _ else _) _ _ s
      rw [if_neg (by decide)]
      refine wpAny_bind (slicePart_none (wpAny_bind (slicePart_none (wpAny_bind (wpAny_pure ?_)))))
      show wpAny _ _ (match Builtin.Slice.sliceAdjust none none (-1) (items.size : Int) with | (lo, hi) => pure (lo, (-1 : Int), Builtin.Slice.slicePlaces lo hi (-1))) _ _ s
      rw [rev_adj]
      show wpAny _ _ (pure ((items.size : Int) - 1, (-1 : Int), Builtin.Slice.slicePlaces ((items.size : Int) - 1) (-1) (-1))) _ _ s
      rw [rev_places]
      exact wpAny_pure q
  refine wpAny_bind (happ ?_)
  show wpAny _ _ (if (((items.size : Int) - 1) == 0 && (-1 : Int) == 1 && items.size == items.size) = true then _ else _) _ _ s
  rw [if_neg (by simp), rev_pick]
  first
    | exact wpAny_bind (m := Builtin.Tuple.tupleExact _) (wpAny_newObj_type (wpAny_pure ⟨_, rfl, wpAny_pure h⟩) hok)
    | exact wpAny_bind (m := Builtin.Tuple.tupleExact _) (wpAny_newObj_type (wpAny_bind (wpAny_pure (wpAny_pure ⟨_, rfl, wpAny_pure h⟩))) hok)
    | exact wpAny_bind (wpAny_bind (m := Builtin.Tuple.tupleExact _) (wpAny_newObj_type (wpAny_pure (wpAny_pure ⟨_, rfl, wpAny_pure h⟩)) hok))
    | exact wpAny_bind (wpAny_bind (m := Builtin.Tuple.tupleExact _) (wpAny_newObj_type (wpAny_pure ⟨_, rfl, wpAny_pure h⟩) hok))
end
def tRevT (K : PySem.W.Frag) (te : TE) : TE := fun σ H Q => te σ H fun x H1 => ∃ a xs, x = .ref a ∧ SqT K H1 a xs ∧ ∀ p, H1 p = none → Q (.ref p) (upd H1 p (.tup xs.reverse))
theorem pe_revT {X : Cx} {e : Expr} {te : TE} {k : Nat} {p1 p2 p3 pos : Pos} (he : PE X e te) : PE X (.Subscript e (.Slice none none (some (.UnaryOp .USub (.Constant (.int 1) k p1) p2)) p3) pos) (tRevT X.K te) := by
  refine ⟨fun pins s σ H Q I h => ?_⟩
  refine Subscript_ (thn (he.run pins s σ H _ I h) fun v s1 ⟨x, H1, I1, r1, a, xs, ex, hx, q⟩ => ?_)
  subst ex
  cases r1
  have part : PO X (some (.UnaryOp .USub (.Constant (.int 1) k p1) p2)) (tPart (tUn (rU fun i => .int (-i)) (tC (.int 1)))) := po_some (pe_un un_neg pe_int)
  refine wpAny_Slice (thn (po_none.run pins s1 σ H1 (fun o H2 => o = none ∧ H2 = H1) I1 ⟨rfl, rfl⟩) fun vl s2 ⟨l, H2, I2, pl, el, e2⟩ => ?_)
  subst el e2
  refine thn (po_none.run pins s2 σ H2 (fun o H3 => o = none ∧ H3 = H2) I2 ⟨rfl, rfl⟩) fun vu s3 ⟨u, H3, I3, pu, eu, e3⟩ => ?_
  subst eu e3
  refine thn (part.run pins s3 σ H3 (fun o H4 => o = some (-1) ∧ H4 = H3) I3 ⟨1, rfl, -1, rfl, rfl, rfl⟩) fun vs s4 ⟨o, H4, I4, ps, eo, e4⟩ => ?_
  subst eo e4
  have I5 : Inv X pins σ H4 { s4 with heap := s4.heap.push { cls := .type "slice", data := .fields #[vl, vu, vs] } } := I4.kept (t' := s4.toks) fun b ob z => Heap.get?_push_of_some _ z
  obtain ⟨its, r, ht, hz⟩ := I5.tuple hx
  have hlen := r.length
  show wpAny (model X.prog X.w) X.A (subscriptTail e (.Slice none none (some (.UnaryOp .USub (.Constant (.int 1) k p1) p2)) p3) (.ref a) (.ref s4.heap.objs.size)) (EP X pins σ Q) X.xe { s4 with heap := s4.heap.push { cls := .type "slice", data := .fields #[vl, vu, vs] } }
  cases pl
  cases pu
  refine tail_any (ops := [.ref a, .ref s4.heap.objs.size]) ht.typeIs PyProof.Rows.slot_tuple_getitem.lookup ?_ (by with_unfolding_all rfl)
  refine getItem_tuple_rev ht (Heap.IsSliceOf.new _ .none .none vs) ps ?_ (by rw [List.size_toArray]; omega)
  refine ⟨.ref _, _, I5.laid (t' := s4.toks) (o := .tup xs.reverse) (fun b ob z => Heap.get?_push_of_some _ z) (Nat.le_refl _) ?_, rfl, q _ (I5.hok.fresh (Nat.le_refl _))⟩
  exact ⟨by rw [List.length_reverse]; exact hz, its.toArray.toList.reverse, by simpa using r.reverse, IsTup.new _ _⟩
end Hr

namespace Hr
open PySem PySem.Spec PyProof.Rows
/-! ### max(xs, default=d) -/
section
variable {prog : Program} {w : World} {A : Around} {R : Result → Shared → Prop} {I : Addr} {fp wr : List Addr} {n : Nat} {P : Nat → Value → Prop} {St : Nat → Heap → Prop} {kw : List (Str × Value)}
theorem max_loopK (W : Walks prog w A.in1 I fp wr n P St) (bt : Nat → Nat → Bool) (hcmp : CmpOf prog w A.in1 .Gt P bt) (S : Addr) (hSf : S ∉ fp) :
    ∀ (k j : Nat) (s : Shared) (vb : Value) (c : Nat), n - (j + 1) = k → j + 1 ≤ n → St (j + 1) s.heap → P (argBest bt j) vb →
    s.heap.get? S = some { cls := .type "list", dict := none, data := .seq #[vb, vb] c, slots := #[] } →
    (∀ v h' tk, P (argBest bt (n - 1)) v → (∀ b o, b ∉ wr → b ≠ S → s.heap.get? b = some o → h'.get? b = some o) → R (.ok (.ret v)) { s with heap := h', toks := tk }) →
    codeAny (model prog w) A (.builtin "max.loop" ⟨[.ref I, .none, .ref S], kw⟩) R s := by
  have hSw : S ∉ wr := fun h => hSf (W.sub _ h)
  have nm : (toString "max" ++ toString ".loop" : String) = "max.loop" := by decide
  intro k
  induction k with
  | zero =>
    intro j s vb c hk hj hst hPb hS hR
    have hin : j + 1 = n := by omega
    refine codeAny_builtin F.entry_max_loop ?_
    rw [Around.under_plainId F.plain_max_loop _]
    show wpAny _ A.in1 (seqItems? (.ref S) >>= _) _ _ s
    refine wpAny_bind (wpAny_seqItems hS rfl ?_)
    show wpAny _ A.in1 (tryCatch (pyNext (.ref I)) _ >>= _) _ _ s
    refine wpAny_bind (wpAny_tryCatch (W.done s _ _ (hin ▸ hst) fun h' tk hk' => ?_))
    have hS' := hk' S _ hSw hS
    show wpAny _ A.in1 (updateSeq S (fun _ => #[]) >>= _) _ _ _
    refine wpAny_bind ?_
    refine wpAny_updateSeq hS' rfl (wpAny_bind (wpAny_letGo (wpAny_pure ?_)))
    exact hR vb _ tk (by rw [← hin]; exact hPb) fun b o hbw hbS e => (Heap.get?_update_other _ _ (Ne.symm hbS)).trans (hk' b o hbw e)
  | succ k ih =>
    intro j s vb c hk hj hst hPb hS hR
    have hlt : j + 1 < n := by omega
    refine codeAny_builtin F.entry_max_loop ?_
    rw [Around.under_plainId F.plain_max_loop _]
    show wpAny _ A.in1 (seqItems? (.ref S) >>= _) _ _ s
    refine wpAny_bind (wpAny_seqItems hS rfl ?_)
    show wpAny _ A.in1 (tryCatch (pyNext (.ref I)) _ >>= _) _ _ s
    refine wpAny_bind (wpAny_tryCatch (W.item (j + 1) s _ _ hlt hst fun v h' tk hP hst' hk' => ?_))
    have hS' := hk' S _ hSw hS
    show wpAny _ A.in1 (tryCatch (holding [v, v] (richCompare .Gt v vb >>= _)) _ >>= _) _ _ _
    refine wpAny_bind (wpAny_tryCatch (wpAny_holding (wpAny_bind (hcmp (j + 1) (argBest bt j) v vb _ _ _ hP hPb ?_))))
    refine wpAny_bind (wpAny_holding (wpAny_truthy_bool ?_))
    refine wpAny_bind (wpAny_letGo (wpAny_pure ?_))
    cases hb : bt (j + 1) (argBest bt j) with
    | true =>
      simp only [if_true]
      refine wpAny_bind ?_
      refine wpAny_updateSeq hS' rfl (wpAny_bind (wpAny_letGo ?_))
      rw [nm]
      refine wpAny_pure ⟨plainId_quiet F.plain_max_loop _, ih (j + 1) _ v _ (by omega) hlt (W.frame _ _ _ hst' fun b hbf o e => ?_) (by simp only [argBest, hb, if_true]; exact hP) (Heap.get?_update_self _ hS' rfl)
        fun v' h'' tk'' hP' hk'' => ?_⟩
      · exact (Heap.get?_update_other _ _ (fun h : S = b => hSf (by rw [h]; exact hbf))).trans e
      · exact hR v' h'' tk'' hP' fun b o hbw hbS e => hk'' b o hbw hbS ((Heap.get?_update_other _ _ (Ne.symm hbS)).trans (hk' b o hbw e))
    | false =>
      simp only [Bool.false_eq_true, if_false]
      refine wpAny_bind (wpAny_letGo ?_)
      rw [nm]
      refine wpAny_pure ⟨plainId_quiet F.plain_max_loop _, ih (j + 1) _ vb c (by omega) hlt hst' (by simp only [argBest, hb, Bool.false_eq_true, if_false]; exact hPb) hS' fun v' h'' tk'' hP' hk'' => ?_⟩
      exact hR v' h'' tk'' hP' fun b o hbw hbS e => hk'' b o hbw hbS (hk' b o hbw e)
theorem max_firstK (W : Walks prog w A.in1 I fp wr n P St) (bt : Nat → Nat → Bool) (hcmp : CmpOf prog w A.in1 .Gt P bt) (S : Addr) (hSf : S ∉ fp) (hn : 0 < n) {s : Shared} {c : Nat} (hst : St 0 s.heap)
    (hS : s.heap.get? S = some { cls := .type "list", dict := none, data := .seq #[] c, slots := #[] })
    (hR : ∀ v h' tk, P (argBest bt (n - 1)) v → (∀ b o, b ∉ wr → b ≠ S → s.heap.get? b = some o → h'.get? b = some o) → R (.ok (.ret v)) { s with heap := h', toks := tk }) :
    codeAny (model prog w) A (.builtin "max.loop" ⟨[.ref I, .none, .ref S], kw⟩) R s := by
  have hSw : S ∉ wr := fun h => hSf (W.sub _ h)
  have nm : (toString "max" ++ toString ".loop" : String) = "max.loop" := by decide
  refine codeAny_builtin F.entry_max_loop ?_
  rw [Around.under_plainId F.plain_max_loop _]
  show wpAny _ A.in1 (seqItems? (.ref S) >>= _) _ _ s
  refine wpAny_bind (wpAny_seqItems hS rfl ?_)
  show wpAny _ A.in1 (tryCatch (pyNext (.ref I)) _ >>= _) _ _ s
  refine wpAny_bind (wpAny_tryCatch (W.item 0 s _ _ hn hst fun v h' tk hP hst' hk' => ?_))
  have hS' := hk' S _ hSw hS
  show wpAny _ A.in1 (updateSeq S (fun _ => #[v, v]) >>= _) _ _ _
  refine wpAny_bind ?_
  refine wpAny_updateSeq hS' rfl ?_
  rw [nm]
  refine wpAny_pure ⟨plainId_quiet F.plain_max_loop _, max_loopK W bt hcmp S hSf _ 0 _ v _ rfl hn (W.frame _ _ _ hst' fun b hbf o e => ?_) hP (Heap.get?_update_self _ hS' rfl) fun v' h'' tk'' hP' hk'' => ?_⟩
  · exact (Heap.get?_update_other _ _ (fun h : S = b => hSf (by rw [h]; exact hbf))).trans e
  · exact hR v' h'' tk'' hP' fun b o hbw hbS e => hk'' b o hbw hbS ((Heap.get?_update_other _ _ (Ne.symm hbS)).trans (hk' b o hbw e))
/-- nothing there: the default -/
theorem max_noneK {d : Value} (W : Walks prog w A.in1 I fp wr 0 P St) (S : Addr) (hSf : S ∉ fp) {s : Shared} {c : Nat} (hst : St 0 s.heap)
    (hS : s.heap.get? S = some { cls := .type "list", dict := none, data := .seq #[] c, slots := #[] })
    (hR : ∀ h' tk, (∀ b o, b ∉ wr → b ≠ S → s.heap.get? b = some o → h'.get? b = some o) → R (.ok (.ret d)) { s with heap := h', toks := tk }) :
    codeAny (model prog w) A (.builtin "max.loop" ⟨[.ref I, .none, .ref S], [(Str.ofString "default", d)]⟩) R s := by
  refine codeAny_builtin F.entry_max_loop ?_
  rw [Around.under_plainId F.plain_max_loop _]
  show wpAny _ A.in1 (seqItems? (.ref S) >>= _) _ _ s
  refine wpAny_bind (wpAny_seqItems hS rfl ?_)
  show wpAny _ A.in1 (tryCatch (pyNext (.ref I)) _ >>= _) _ _ s
  refine wpAny_bind (wpAny_tryCatch (W.done s _ _ hst fun h' tk hk' => ?_))
  exact wpAny_bind (wpAny_rule (wpAny_pure (hR h' tk fun b o hbw _ e => hk' b o hbw e)))
end
theorem max_default_args (a v : Value) : argsOk "max" ⟨[a], [(Str.ofString "default", v)]⟩ := by unfold argsOk; kernel_rfl
section
variable {prog : Program} {w : World} {A : Around} {E : Value → Shared → Prop} {s : Shared}
theorem call_maxD {l : Addr} {xs : Array (Int × Tok)} {d : Value} {Q : Value → Shared → Prop} (hh : A.handled = none) (hl : s.heap.IsList l (intItems xs))
    (h : ∀ v h' tk, (xs.size = 0 ∧ v = d ∨ 0 < xs.size ∧ (intItems xs)[argBest (fun i j => decide (numAt xs i > numAt xs j)) (xs.size - 1)]? = some v) → (∀ b o, s.heap.get? b = some o → h'.get? b = some o) → Q v { s with heap := h', toks := tk }) :
    wpAny (model prog w) A (call (.builtin "max") [.ref l] [(Str.ofString "default", d)]) Q E s := by
  have nm : (toString "max" ++ toString ".loop" : String) = "max.loop" := by decide
  refine PyProof.Rows.kmk_tree F.kind_max F.plain_max F.entry_max (max_default_args _ _) ?_
  show wpAny _ A.in1 (Builtin.Builtins.bindParams "max" ["key", "default"] 0 ⟨[], [(Str.ofString "default", d)]⟩ >>= _) _ _ s
  refine wpAny_bind (wpAny_of_eq (show Builtin.Builtins.bindParams "max" ["key", "default"] 0 ⟨[], [(Str.ofString "default", d)]⟩ = pure [none, some d] from rfl) ?_)
  refine wpAny_bind (wpAny_pure ?_)
  refine wpAny_bind (iter_intList hl fun s₂ e st hfp hlI => ?_)
  subst e
  refine wpAny_bind (wpAny_newObj_type ?_)
  have W := Walks.list (prog := prog) (w := w) (A := A.in1) hh s.heap.objs.size l hlI (intItems xs)
  have hSf : (s.heap.push { cls := .type "list_iterator", data := .fields #[.ref l, .int 0 0] }).objs.size ∉ [s.heap.objs.size, l] := fun hm => Nat.lt_irrefl _ (hfp _ hm)
  have hz : (intItems xs).size = xs.size := by simp [intItems]
  rw [nm]
  refine wpAny_pure ⟨plainId_quiet F.plain_max_loop _, ?_⟩
  have fin : ∀ v h' tk, (xs.size = 0 ∧ v = d ∨ 0 < xs.size ∧ (intItems xs)[argBest (fun i j => decide (numAt xs i > numAt xs j)) (xs.size - 1)]? = some v) →
      (∀ b o, b ∉ [s.heap.objs.size] → b ≠ (s.heap.push { cls := .type "list_iterator", data := .fields #[.ref l, .int 0 0] }).objs.size →
        ((s.heap.push { cls := .type "list_iterator", data := .fields #[.ref l, .int 0 0] }).push { cls := .type "list", data := .seq #[] }).get? b = some o → h'.get? b = some o) →
      wants Q E (.ok (.ret v)) { s with heap := h', toks := tk } := fun v h' tk hv hk => by
    refine h v h' tk hv (old_kept (l := l) fun b o hb e => ?_)
    exact hk b o hb (Nat.ne_of_lt (Heap.lt_size e)) (Heap.get?_push_of_some _ e)
  by_cases hn : 0 < xs.size
  · refine max_firstK W _ (CmpOf.ints_gt (numAt xs) (fun _ _ => intItems_at)) _ hSf (by rw [hz]; exact hn) (W.frame _ _ _ st fun b _ o e => Heap.get?_push_of_some _ e) (Heap.get?_push_size _ rfl) fun v h' tk hP hk => ?_
    exact fin v h' tk (.inr ⟨hn, by rw [hz] at hP; exact hP⟩) hk
  · have hn0 : xs.size = 0 := by omega
    have W0 : Walks prog w A.in1 s.heap.objs.size [s.heap.objs.size, l] [s.heap.objs.size] 0 (fun i v => (intItems xs)[i]? = some v) (fun i h => h.IsListIter s.heap.objs.size l i ∧ h.IsList l (intItems xs)) := by
      have W' := W
      rw [hz, hn0] at W'
      exact W'
    refine max_noneK W0 _ hSf (W.frame _ _ _ st fun b _ o e => Heap.get?_push_of_some _ e) (Heap.get?_push_size _ rfl) fun h' tk hk => ?_
    exact fin d h' tk (.inl ⟨hn0, rfl⟩) hk
end
end Hr

namespace Hr
open PySem PySem.Spec PyProof.Rows L2
def rMaxD (K : PySem.W.Frag) : List V → List V → Hp → VK → Prop := fun vs zs H Q => ∃ (a : Addr) (ns : List Int) (d : Int), vs = [.ref a] ∧ zs = [.int d] ∧ SqL K H a (ns.map V.int) ∧
  ∀ m, (ns = [] → m = d) → (ns ≠ [] → m ∈ ns ∧ ∀ k ∈ ns, k ≤ m) → Q (.int m) H
theorem call_maxDK {X : Cx} (hc : X.calm = true) : CallRK X (.builtin "max") [Str.ofString "default"] (rMaxD X.K) := by
  intro pins s σ H xs zs us ws Q I r1 r2 h
  obtain ⟨a, ns, d, rfl, rfl, hs, q⟩ := h
  obtain ⟨its, rv, pl, hz⟩ := I.list hs
  rw [Vals.ref1 r1]
  obtain ⟨wd, rfl, rd⟩ := vals1 r2
  obtain ⟨td, rfl⟩ := rd
  have hi : IntsAre its ns := intsAre_of rv
  obtain ⟨ps, e⟩ := hi.allInts.items
  have hns : ns = ps.toList.map (·.1) := by rw [← hi.numsOf, ← nums_intItems, ← e]
  have hl := pl.isList
  rw [e] at hl
  show wpAny (model X.prog X.w) X.A (call (.builtin "max") [.ref a] [(Str.ofString "default", .int d td)]) (EP X pins σ Q) X.xe s
  refine call_maxD (I.ok.hd hc) hl fun v h' tk hv hk => ?_
  have I2 : Inv X pins σ H { s with heap := h', toks := tk } := I.kept fun b o z => hk b o z
  rcases hv with ⟨h0, rfl⟩ | ⟨hp, hv⟩
  · have hn0 : ns = [] := by
      rw [hns, List.map_eq_nil_iff]
      exact List.eq_nil_of_length_eq_zero (by rw [Array.length_toList]; exact h0)
    exact ⟨.int d, H, I2, ⟨_, rfl⟩, q d (fun _ => rfl) (fun z => absurd hn0 z)⟩
  · obtain ⟨t, rfl⟩ := intItems_at hv
    obtain ⟨h1, h2⟩ := argBest_gt (numAt ps) (ps.size - 1)
    refine ⟨.int _, H, I2, ⟨_, rfl⟩, q _ (fun z => ?_) fun _ => ⟨?_, fun k hk' => ?_⟩⟩
    · rw [hns, List.map_eq_nil_iff] at z
      have z2 : ps.size = 0 := by rw [← Array.length_toList, z]; rfl
      omega
    · rw [hns, numAt_eq]; exact getD_mem (by rw [List.length_map, Array.length_toList]; omega)
    · rw [hns] at hk'
      obtain ⟨j, hj, rfl⟩ := mem_getD hk'
      rw [List.length_map, Array.length_toList] at hj
      rw [← numAt_eq]; exact h2 j (by omega)
/-! ### plain data with atoms -/
inductive D where
  | non | bl (b : Bool) | int (i : Int) | str (s : Str) | tup (ds : List D) | lst (ds : List D) | dct | atom (k : Str) (ds : List D)
mutual
def rank : D → Nat
  | .tup ds => rankL ds
  | .atom k ds => if k = "seal" ∨ k = "page" then 1 else rankL ds + 1
  | _ => 0
def rankL : List D → Nat
  | [] => 0
  | d :: ds => max (rank d) (rankL ds)
end
mutual
/-- how many parts there are, those in atoms too -/
def sz : D → Nat
  | .tup ds => szL ds + 1
  | .lst ds => szL ds + 1
  | .atom _ ds => szL ds + 1
  | _ => 1
def szL : List D → Nat
  | [] => 0
  | d :: ds => sz d + szL ds
end
/-- the fields of an atom -/
def atF (k : Str) (t : Addr) (r : Nat) : List (Str × V) := [("kind", .str k), ("term", .ref t), ("rank", .int (r : Int)), ("_stripped", .non)]
mutual
inductive Is (C : Addr) (H : Hp) : V → D → Prop
  | non : Is C H .non .non
  | bl (b : Bool) : Is C H (.bl b) (.bl b)
  | int (i : Int) : Is C H (.int i) (.int i)
  | str (s : Str) : Is C H (.str s) (.str s)
  | tup {a : Addr} {xs : List V} {ds : List D} (h : H a = some (.tup xs)) (t : IsA C H xs ds) : Is C H (.ref a) (.tup ds)
  | lst {a : Addr} {xs : List V} {ds : List D} (h : H a = some (.lst xs)) (t : IsA C H xs ds) : Is C H (.ref a) (.lst ds)
  | dct {a : Addr} {kvs : List (Key × V)} (h : H a = some (.dK kvs)) : Is C H (.ref a) .dct
  | atom {a dx t : Addr} {k : Str} {xs : List V} {ds : List D} (h : H a = some (.ins C dx (atF k t (rank (.atom k ds))))) (h2 : H t = some (.tup xs)) (t : IsA C H xs ds) : Is C H (.ref a) (.atom k ds)
inductive IsA (C : Addr) (H : Hp) : List V → List D → Prop
  | nil : IsA C H [] []
  | cons {x : V} {xs : List V} {d : D} {ds : List D} (h : Is C H x d) (t : IsA C H xs ds) : IsA C H (x :: xs) (d :: ds)
end
mutual
theorem Is.same {C : Addr} {H H' : Hp} (e : Same H H') : ∀ {x : V} {d : D}, Is C H x d → Is C H' x d
  | _, _, .non => .non
  | _, _, .bl b => .bl b
  | _, _, .int i => .int i
  | _, _, .str s => .str s
  | _, _, .tup h t => .tup (e _ _ h) (IsA.same e t)
  | _, _, .lst h t => .lst (e _ _ h) (IsA.same e t)
  | _, _, .dct h => .dct (e _ _ h)
  | _, _, .atom h h2 t => .atom (e _ _ h) (e _ _ h2) (IsA.same e t)
theorem IsA.same {C : Addr} {H H' : Hp} (e : Same H H') : ∀ {xs : List V} {ds : List D}, IsA C H xs ds → IsA C H' xs ds
  | _, _, .nil => .nil
  | _, _, .cons h t => .cons (Is.same e h) (IsA.same e t)
end
theorem IsA.len {C : Addr} {H : Hp} : ∀ {xs : List V} {ds : List D}, IsA C H xs ds → xs.length = ds.length
  | _, _, .nil => rfl
  | _, _, .cons _ t => congrArg (· + 1) t.len
theorem IsA.at {C : Addr} {H : Hp} : ∀ {xs : List V} {ds : List D} {i : Nat} {x : V}, IsA C H xs ds → xs[i]? = some x → ∃ d, ds[i]? = some d ∧ Is C H x d
  | _, _, _, _, .nil, h => by simp at h
  | _, _, 0, _, .cons h _, e => by simp at e; subst e; exact ⟨_, rfl, h⟩
  | _, _, i + 1, _, .cons _ t, e => by
    obtain ⟨d, h1, h2⟩ := IsA.at (i := i) t (by simpa using e)
    exact ⟨d, by simpa using h1, h2⟩
theorem IsA.get {C : Addr} {H : Hp} : ∀ {xs : List V} {ds : List D} {i : Nat} {d : D}, IsA C H xs ds → ds[i]? = some d → ∃ x, xs[i]? = some x ∧ Is C H x d
  | _, _, _, _, .nil, h => by simp at h
  | _, _, 0, _, .cons h _, e => by simp at e; subst e; exact ⟨_, rfl, h⟩
  | _, _, i + 1, _, .cons _ t, e => by
    obtain ⟨d, h1, h2⟩ := IsA.get (i := i) t (by simpa using e)
    exact ⟨d, by simpa using h1, h2⟩
theorem IsA.app {C : Addr} {H : Hp} : ∀ {xs ys : List V} {ds es : List D}, IsA C H xs ds → IsA C H ys es → IsA C H (xs ++ ys) (ds ++ es)
  | _, _, _, _, .nil, t => t
  | _, _, _, _, .cons h u, t => .cons h (u.app t)
theorem IsA.rev {C : Addr} {H : Hp} : ∀ {xs : List V} {ds : List D}, IsA C H xs ds → IsA C H xs.reverse ds.reverse
  | _, _, .nil => .nil
  | _, _, .cons h t => by
    rw [List.reverse_cons, List.reverse_cons]
    exact t.rev.app (.cons h .nil)
theorem IsA.concat {C : Addr} {H : Hp} : ∀ {xs : List V} {ds : List D} {e : D}, IsA C H xs (ds.concat e) → ∃ ys y, xs = ys ++ [y] ∧ IsA C H ys ds ∧ Is C H y e
  | _, [], _, .cons h .nil => ⟨[], _, rfl, .nil, h⟩
  | _, d :: ds, e, .cons h t => by
    obtain ⟨ys, y, e1, h1, h2⟩ := IsA.concat (ds := ds) (e := e) t
    exact ⟨_ :: ys, y, by rw [e1]; rfl, .cons h h1, h2⟩
theorem rankL_app : ∀ (a b : List D), rankL (a ++ b) = max (rankL a) (rankL b)
  | [], b => by simp [rankL]
  | x :: a, b => by rw [List.cons_append]; simp only [rankL]; rw [rankL_app a b]; omega
theorem szL_app : ∀ (a b : List D), szL (a ++ b) = szL a + szL b
  | [], b => by simp [szL]
  | x :: a, b => by rw [List.cons_append]; simp only [szL]; rw [szL_app a b]; omega
theorem szL_rev : ∀ (a : List D), szL a.reverse = szL a
  | [] => rfl
  | x :: a => by rw [List.reverse_cons, szL_app, szL_rev a]; simp only [szL]; omega
theorem sz_pos (d : D) : 1 ≤ sz d := by cases d <;> simp [sz]
theorem len_szL : ∀ (a : List D), a.length ≤ szL a
  | [] => Nat.le_refl _
  | x :: a => by
    have := len_szL a
    have := sz_pos x
    simp only [szL, List.length_cons]; omega
/-! ### kinds of values -/
def kyV (C : Addr) : D → V
  | .non => .ty "NoneType" | .bl _ => .ty "bool" | .int _ => .ty "int" | .str _ => .ty "str" | .tup _ => .ty "tuple" | .lst _ => .ty "list" | .dct => .ty "dict" | .atom _ _ => .ref C
def kyU (C : Addr) : D → Value
  | .non => .type "NoneType" | .bl _ => .type "bool" | .int _ => .type "int" | .str _ => .type "str" | .tup _ => .type "tuple" | .lst _ => .type "list" | .dct => .type "dict" | .atom _ _ => .ref C
def rTyA (C : Addr) : List V → Hp → VK → Prop := fun xs H Q => ∃ x d, xs = [x] ∧ Is C H x d ∧ Q (kyV C d) H
/-- what is known of the class at C -/
structure Cl (K : PySem.W.Frag) (C : Addr) : Prop where
  cl : Cls K C
  ha : PySem.W.findIn K (.ref C) "__class__" = some (some (.builtin "object.__class__"))
  hn : PySem.W.specialIn K (.builtin "object.__class__") "__get__" = some (some (.builtin "getset_descriptor.__get__"))
  htk : PySem.W.takesIn K (.builtin "object.__class__") = some true
  hm : PySem.W.mroIn K C (.type "object") = some true
  me : PySem.W.kitOne K (.ref C) (.ref C) = some true
  mi : PySem.W.makesIn K C = true
  nK : NoAttr K C "kind"
  nT : NoAttr K C "term"
  nR : NoAttr K C "rank"
  nS : NoAttr K C "_stripped"
section
variable {X : Cx} {C : Addr}
theorem Is.tyX {K : PySem.W.Frag} {H : Hp} (T : Cl K C) {x : V} {d : D} (h : Is C H x d) : TyX K H x (kyU C d) := by
  cases h with
  | non => exact .base .non
  | bl b => exact .base (.bl b)
  | int i => exact .base (.int i)
  | str s => exact .base (.str s)
  | tup h _ => exact .base (.tup h)
  | lst h _ => exact .base (.lst h)
  | dct h => exact .base (.dK h)
  | atom h _ _ => exact .base (.ins h T.cl T.ha T.hn T.htk T.hm)
theorem call_typeA : CallR X (.type "type") (rTyA C) := fun pins s σ H xs us Q I r h => by
  obtain ⟨x, d, e, t, q⟩ := h
  cases t with
  | non => exact call_type1 pins s σ H xs us Q I r ⟨_, _, e, .non, q⟩
  | bl b => exact call_type1 pins s σ H xs us Q I r ⟨_, _, e, .bl b, q⟩
  | int i => exact call_type1 pins s σ H xs us Q I r ⟨_, _, e, .int i, q⟩
  | str z => exact call_type1 pins s σ H xs us Q I r ⟨_, _, e, .str z, q⟩
  | tup h _ => exact call_type1 pins s σ H xs us Q I r ⟨_, _, e, .tup (SqT.of h), q⟩
  | lst h _ => exact call_type1 pins s σ H xs us Q I r ⟨_, _, e, .lst (SqL.of h), q⟩
  | dct h => exact call_type1 pins s σ H xs us Q I r ⟨_, _, e, .dK h, q⟩
  | atom h _ _ => exact cr_type pins s σ H xs us Q I r ⟨_, _, _, _, e, h, q⟩
/-- a type is a type: of built-in ones, and of the class at C -/
def TyOk (C : Addr) (x : V) : Prop := (∃ n, x = .ty n) ∨ x = .ref C
def rIsTyA (C : Addr) : R2 := fun x y H Q => TyOk C x ∧ TyOk C y ∧ Q (.bl (decide (x = y))) H
def rIsNotTyA (C : Addr) : R2 := fun x y H Q => TyOk C x ∧ TyOk C y ∧ Q (.bl (!decide (x = y))) H
theorem kyV_ok (d : D) : TyOk C (kyV C d) := by cases d <;> first | exact .inl ⟨_, rfl⟩ | exact .inr rfl
theorem op_isTyA : OpR X (compareOp .Is) (rIsTyA C) := by
  intro pins s σ H x y v u Q I rx ry h
  obtain ⟨hx, hy, q⟩ := h
  rcases hx with ⟨m, rfl⟩ | rfl <;> rcases hy with ⟨n, rfl⟩ | rfl
  · exact op_isTy pins s σ H _ _ v u Q I rx ry ⟨m, n, rfl, rfl, by simpa using q⟩
  · cases (show v = Value.type m from rx)
    cases (show u = Value.ref _ from ry)
    exact wpAny_is_other rfl (fun z => nomatch z) ⟨.bl false, H, I, rfl, by simpa using q⟩
  · cases (show v = Value.ref _ from rx)
    cases (show u = Value.type n from ry)
    exact wpAny_is_other rfl (fun z => nomatch z) ⟨.bl false, H, I, rfl, by simpa using q⟩
  · exact op_is_cls pins s σ H _ _ v u Q I rx ry ⟨C, C, rfl, rfl, .inl rfl, by simpa using q⟩
theorem op_isNotTyA : OpR X (compareOp .IsNot) (rIsNotTyA C) := by
  intro pins s σ H x y v u Q I rx ry h
  obtain ⟨hx, hy, q⟩ := h
  rcases hx with ⟨m, rfl⟩ | rfl <;> rcases hy with ⟨n, rfl⟩ | rfl
  · exact op_isNotTy pins s σ H _ _ v u Q I rx ry ⟨m, n, rfl, rfl, by simpa using q⟩
  · cases (show v = Value.type m from rx)
    cases (show u = Value.ref _ from ry)
    exact wpAny_isNot_other rfl (fun z => nomatch z) ⟨.bl true, H, I, rfl, by simpa using q⟩
  · cases (show v = Value.ref _ from rx)
    cases (show u = Value.type n from ry)
    exact wpAny_isNot_other rfl (fun z => nomatch z) ⟨.bl true, H, I, rfl, by simpa using q⟩
  · exact op_isnot_cls pins s σ H _ _ v u Q I rx ry ⟨C, C, rfl, rfl, .inl rfl, by simpa using q⟩
/-- isinstance(x, c): c a built-in type or the class at C -/
def rIsiA (K : PySem.W.Frag) (C : Addr) : List V → Hp → VK → Prop := fun xs H Q => ∃ x d c u b, xs = [x, c] ∧ Is C H x d ∧ ClsV c u ∧ PySem.W.kitOne K (kyU C d) u = some b ∧ Q (.bl b) H
theorem call_isiA (T : Cl X.K C) : CallR X (.builtin "isinstance") (rIsiA X.K C) := fun pins s σ H xs us Q I r h => by
  obtain ⟨x, d, c, u, b, e, t, k, kt, q⟩ := h
  exact call_isi pins s σ H xs us Q I r ⟨x, c, _, _, b, e, k, t.tyX T, kt, q⟩
end
mutual
theorem Is.uniq {C : Addr} {H : Hp} : ∀ {x : V} {d e : D}, Is C H x d → Is C H x e → d = e
  | _, _, _, .non, .non => rfl
  | _, _, _, .bl _, .bl _ => rfl
  | _, _, _, .int _, .int _ => rfl
  | _, _, _, .str _, .str _ => rfl
  | _, _, _, .tup h t, g => by
    cases g with
    | tup h' t' =>
      rw [h] at h'
      cases h'
      rw [IsA.uniq t t']
    | lst h' _ => rw [h] at h'; cases h'
    | dct h' => rw [h] at h'; cases h'
    | atom h' _ _ => rw [h] at h'; cases h'
  | _, _, _, .lst h t, g => by
    cases g with
    | lst h' t' =>
      rw [h] at h'
      cases h'
      rw [IsA.uniq t t']
    | tup h' _ => rw [h] at h'; cases h'
    | dct h' => rw [h] at h'; cases h'
    | atom h' _ _ => rw [h] at h'; cases h'
  | _, _, _, .dct h, g => by
    cases g with
    | dct h' => rfl
    | tup h' _ => rw [h] at h'; cases h'
    | lst h' _ => rw [h] at h'; cases h'
    | atom h' _ _ => rw [h] at h'; cases h'
  | _, _, _, .atom h h2 t, g => by
    cases g with
    | tup h' _ => rw [h] at h'; cases h'
    | lst h' _ => rw [h] at h'; cases h'
    | dct h' => rw [h] at h'; cases h'
    | atom h' h2' t' =>
      have e := Option.some.inj (h.symm.trans h')
      unfold atF at e
      injection e with e1 e2 e3
      injection e3 with e4 e5
      injection e5 with e6 e7
      have ek := V.str.inj (congrArg Prod.snd e4)
      have et := V.ref.inj (congrArg Prod.snd e6)
      subst ek
      subst et
      rw [h2] at h2'
      cases h2'
      rw [IsA.uniq t t']
theorem IsA.uniq {C : Addr} {H : Hp} : ∀ {xs : List V} {ds es : List D}, IsA C H xs ds → IsA C H xs es → ds = es
  | _, _, _, .nil, .nil => rfl
  | _, _, _, .cons h t, .cons h' t' => by rw [Is.uniq h h', IsA.uniq t t']
end
end Hr

namespace Hr
open PySem PySem.SeqAt PyProof.Rows
open AutoSeq1 (wpAny_loadPart')
open MeetsSeq MeetsSeq2 MeetsSeq3 SeqRoads2
theorem ext_tup (l : Addr) (items : Array Value) (n : Nat) (b : Addr) (items2 : Array Value) (n2 : Nat) (dd : Option Addr) (sl : Array (Option Value)) (hs0 : ¬(!items.isEmpty && Builtin.List.listTooLong (items.size + items2.size)) = true) (hs1 : items.size ≤ sizeLine) (hs2 : items.size + items2.size ≤ sizeLine + 1) :
    Meets (Builtin.«list.extend» ⟨[.ref l, .ref b], []⟩) (fun _ R s => s.heap.get? l = some { cls := .type "list", dict := none, data := .seq items n, slots := #[] } ∧ s.heap.get? b = some { cls := .type "tuple", dict := dd, data := .seq items2 n2, slots := sl } ∧
      R (.ok (.ret Value.none)) { s with heap := s.heap.update l (Obj.mapSeq fun x => x ++ items2), toks := s.toks }) :=
  .of_wp fun prog w A R s h => by
    obtain ⟨hp, g, d, tk, os⟩ := s
    obtain ⟨hl, hb, h⟩ := h
    have g1 := AutoSeq1.sub_tuple_tuple
    have g2 := AutoSeq1.sub_list_list
    have g3 := AutoSeq1.sub_tuple_list
    have g4 := AutoSeq1.sub_list_tuple
    have hz' : (items ++ items2).size ≤ sizeLine + 1 := by rw [Array.size_append]; exact hs2
    wp_walk using (wpAny_updateSeq hl rfl (hz := hs1) (_hz' := hz')), wpAny_loadPart' hl, wpAny_loadPart' hb
    exact ⟨_, rfl, h⟩
end Hr
namespace Hr
open PySem PySem.Spec PyProof.Rows L2
/-- xs.extend(t), t a tuple -/
def rExtT : V → List V → Hp → VK → Prop := fun x vs H Q => ∃ l b xs zs, x = .ref l ∧ vs = [.ref b] ∧ H l = some (.lst xs) ∧ H b = some (.tup zs) ∧ xs.length + zs.length ≤ sizeLine ∧ Q .non (upd H l (.lst (xs ++ zs)))
theorem mt_extendT {X : Cx} : MtM X "list.extend" rExtT := by
  intro pins s σ H x vs v us Q I rx rv h
  obtain ⟨l, b, xs, zs, rfl, rfl, hH, hB, hz, q⟩ := h
  cases rx
  obtain ⟨u, rfl, ru⟩ := rv.one
  cases ru
  obtain ⟨z, its, n, r, hl, e⟩ := I.lstM hH
  obtain ⟨its2, r2, ⟨⟨oc, od, dt, sl⟩, e2, hc2, n2, hd2⟩, hz2⟩ := I.tuple (SqT.of hB)
  simp only at hc2 hd2
  subst hc2 hd2
  have hl2 := r2.length
  have hsz : its.toArray.size + its2.toArray.size ≤ sizeLine := by rw [List.size_toArray, List.size_toArray]; omega
  have hlong : ¬ (!its.toArray.isEmpty && Builtin.List.listTooLong (its.toArray.size + its2.toArray.size)) = true := by
    rw [notLongL hsz, Bool.and_false]
    exact Bool.false_ne_true
  refine call_meets F.slot_list_extend ⟨_, e, rfl⟩ F.entry_list_extend (F.args_list_extend_2 _ _)
    (ext_tup l its.toArray n b its2.toArray n2 od sl hlong (by rw [List.size_toArray]; omega) (by omega)) ⟨e, e2, ?_⟩
  refine ⟨.non, _, I.lset (its' := its ++ its2) hH e (by simp) (r.append r2) ?_, rfl, q⟩
  rw [List.length_append]
  omega
end Hr

/-! .get of a written dict; a def known by another name -/
namespace Hr
open PySem PySem.Spec PyProof.Rows L2
/-- G.get(e), G a written dict at g -/
def tGetW (K : PySem.W.Frag) (g : Addr) (td ty : TE) : TE := fun σ H Q => td σ H fun x H1 => x = .ref g ∧ ty σ H1 fun y H2 => ∃ (z : Str) (r : Option Value), y = .str z ∧ PySem.W.nsIn K g z = some r ∧ (r = none → Q .non H2) ∧ ∀ u, r = some u → ∃ v, RelV v u ∧ Q v H2
theorem pe_getW {X : Cx} {g : Addr} {es : Array DictEntry} {n : Nat} {o e : Expr} {apos cpos : Pos} {td ty : TE} (D : KDict X.K X.w g es n) (ho : PE X o td) (he : PE X e ty) (m : M1 X o "get" apos e cpos := by constructor <;> rfl) : PE X (.Call (.Attribute o "get" apos) [e] [] cpos) (tGetW X.K g td ty) := by
  refine ⟨fun pins s σ H Q I h => wpAny_Call_method m.base m.few m.line PySem.F.plainAttrs_dict PySem.F.slot_dict_get PySem.F.type_dict_get (thn (ho.run pins s σ H _ I h) fun u s1 hh => ?_)⟩
  obtain ⟨x, H1, J, rx, ex, q1⟩ := hh
  subst ex
  cases rx
  refine ⟨kd_type D J, fun b q => ?_, ?_⟩
  · cases q
    exact ⟨_, J.kIn _ _ D.at_, rfl⟩
  rw [m.trees]
  refine Calls.callWith_builtin rfl (Calls.evalArgs_plain (Calls.spliced_cons (thn (he.run pins s1 σ H1 _ J q1) fun iv s2 hk => Calls.spliced_nil ?_)))
  obtain ⟨y, H2, J2, ry, z, r, ez, hr, hn, hs⟩ := hk
  subst ez
  obtain ⟨t, rfl⟩ := ry
  refine call_meetsIn PySem.F.slot_dict_get (kd_type D J2) PySem.F.entry_dict_get (PySem.F.args_dict_get_2 _ _) (meets_dict_get (PySem.strKind X.prog X.w) g (PySem.strKind_is X.prog X.w z t) D.low) ⟨_, PySem.W.mapOf_K (prog := X.prog) J2.kIn D.at_ D.lit, ?_⟩
  rw [PySem.W.find_K D.at_ hr]
  cases r with
  | none => exact ⟨.non, H2, J2.tok _, rfl, hn rfl⟩
  | some v0 =>
    obtain ⟨v, rv, q⟩ := hs v0 rfl
    exact ⟨v, H2, J2.tok _, rv, q⟩
/-- a call without arguments -/
theorem pe_c0 {X : Cx} {k j : Nat} {x : Str} {sp : Sp} {dvs : List V} {q1 q2 : Pos} (c : C8.Cal X.prog X.w X.K X.mg X.base k x sp dvs) (hr : Room j X.A) (hk : k ≤ j) (hg : Gl X x) (hdb : (x == ("__debug__" : Str)) = false := by decide) : PE X (.Call (.Name x q1) [] [] q2) (tCall sp dvs C8.E0 tNil) := by
  obtain ⟨f, fd, ps, ds, F, hm, kp, b, d⟩ := c.ex
  exact pe_call0 F (hr.mono hk) hg hm kp b d C8.pass0 hdb
/-- a def under another name -/
theorem calA {P : Program} {w : World} {K : PySem.W.Frag} {mg : Str → Option Value} {base : Heap} {x y qual : Str} {st : Stmt} {f : Addr} {fd : FuncData} {N ps : List Str} {ds : List Value} {dvs : List V} {k : Nat} {sp : Sp} (F : C8.Fun K x qual st f fd) (hm : mg y = some (.ref f)) (kp : PySem.W.keepIn K (.ref f) = true) (b : Binds K fd ps ds) (d : Vals dvs ds) (S : FnScope N ps (C8.fnScope st)) (len : ∀ vs H Q E, sp vs H Q E → vs.length = ps.length)
    (go : ∀ (cdv : Value) (A : Around) (outer : List Env) (s : Shared) (H : Hp) (vs : List V) (Q : VK) (E : XK), Room k (A.deeper (envOfC qual (C8.fnScope st) s.heap.objs.size f cdv)) → sp vs H Q E →
      ∃ t, PSs (cxOf C8.CX0 P w K mg base N qual (C8.fnScope st) f cdv A outer s H E).nox (C8.fnBody st) t ∧ t { nx := fun _ H' => Q .non H', rt := Q } (L2.start N vs) H) : C8.Cal P w K mg base (k + 1) y sp dvs :=
  ⟨f, fd, ps, ds, C8.fn0 F S len go, hm, kp, b, d⟩
end Hr

namespace Hr
open PySem PySem.Spec PyProof.Rows L2
/-! ### len(set(xs)), xs a list of ints -/
def nDist (ns : List Int) : Nat := (firstMet (fun i => ns.getD i 0) ns.length).length
def tLenSetG (K : PySem.W.Frag) (ta : TE) : TE := fun σ H Q => ta σ H fun x H1 => ∃ (l : Addr) (ns : List Int), x = .ref l ∧ SqL K H1 l (ns.map V.int) ∧ ns.length ≤ 4000 ∧ Q (.int (nDist ns)) H1
theorem pe_lenSetG {X : Cx} {a : Expr} {ta : TE} {p p2 q pos : Pos} (hg : Gl X "len") (hm : X.mg "len" = none) (hg2 : Gl X "set") (hm2 : X.mg "set" = none) (ha : PE X a ta) (hc : X.calm = true := by rfl) (na : starEach [a] X.env = (false, eval a X.env) :: starEach [] X.env := by rfl) :
    PE X (.Call (.Name "len" p) [.Call (.Name "set" p2) [a] [] q] [] pos) (tLenSetG X.K ta) where
  run := fun pins s σ H Q I h => Call_ (ld_blt I hg hm boot_len (callWith_builtin1 (args_cons (Call_ (ld_blt I hg2 hm2 boot_set (callWith_type1 (he := na) (args_cons (he := na) (thn (ha.run pins s σ H _ I h) fun v s1 x => by
    obtain ⟨x1, H1, I1, r1, l, ns, rfl, hq, hl, q1⟩ := x
    cases r1
    refine args_nil ?_
    obtain ⟨its, r, pl, hz⟩ := I1.list hq
    have hlen : its.toArray.size = ns.length := by rw [List.size_toArray, ← r.length, List.length_map]
    refine call_set_list (I1.ok.hd hc) pl.isList (RZ.intsAre_vals r) (by rw [hlen]; exact Nat.lt_of_le_of_lt (show _ ≤ 4001 by omega) (by decide)) fun h' tk hS hk => ?_
    refine args_nil ?_
    rw [hlen] at hS
    obtain ⟨o, es, ep, t, ho, hex, hd, _, _, _, hf, hn⟩ := hS
    have I2 := I1.kept (t' := tk) fun b o e => hk b o (Heap.lt_size e) e
    have hle := firstMet_length_le (fun i => ns.getD i 0) ns.length
    refine call_len_set ho hex hd hf (by rw [hn]; exact Int.lt_of_le_of_lt (show _ ≤ ((4000 : Nat) : Int) by omega) (by decide)) ?_
    exact ⟨.int (nDist ns), H1, I2.tok _, ⟨_, by rw [hn]; rfl⟩, q1⟩))))))))
/-! ### tuple(d), d a dict -/
theorem kdl_collect {prog : Program} {w : World} {A : Around} {E : Value → Shared → Prop} {s : Shared} {T : String} {r d : Addr} {n : Nat} {P : Nat → Value → Prop} {OK : Heap → Prop} {R : List Value → Shared → Prop}
    (K : PySem.W.KdlSrc prog w T r d n P OK) (hh : A.handled = none) (hok : OK s.heap) (hn : n ≤ sizeLine)
    (h : ∀ (h' : Heap) (tk : Nat) (acc : Array Value), (∀ b o, s.heap.get? b = some o → h'.get? b = some o) → ItemsOf P acc n → R acc.toList { heap := h', gens := s.gens, drawn := s.drawn, toks := tk, os := s.os }) :
    wpAny (model prog w) A (collect (.ref r)) R E s := by
  have hlt := K.there s.heap hok
  have hS := Heap.get?_push_size (o := { cls := .type "list", data := .seq #[] }) s.heap rfl
  refine wpAny_bind (wpAny_runValue (codeAny_builtin entry_proto_collect' ?_))
  rw [Around.under_plainId F.plain_proto_collect _]
  refine wpAny_bind (wpAny_newObj_type (wpAny_pure ⟨plainId_quiet F.plain_list_iadd _, codeAny_builtin entry_list_iadd' ?_⟩))
  rw [Around.under_plainId F.plain_list_iadd _]
  have key := PySem.W.kdl_extend (A := A) (s := { heap := s.heap.push { cls := .type "list", data := .seq #[] }, gens := s.gens, drawn := s.drawn, toks := s.toks, os := s.os })
    (R := fun q s' => ∃ h' tk acc c, q = .ok (.ret (.ref s.heap.objs.size)) ∧ s' = { heap := h', gens := s.gens, drawn := s.drawn, toks := tk, os := s.os } ∧ (∀ b o, s.heap.get? b = some o → h'.get? b = some o) ∧ h'.get? s.heap.objs.size = some { cls := .type "list", data := .seq acc c } ∧ ItemsOf P acc n)
    K hh (K.keep s.heap _ hok fun b _ o e => Heap.get?_push_of_some _ e) s.heap.objs.size (Nat.ne_of_gt hlt.1) (Nat.ne_of_gt hlt.2) (.ref s.heap.objs.size) 0 hS
    (fun h' tk acc c hk hS' hi => ⟨h', tk, acc, c, rfl, rfl, fun b o e => hk b o (Nat.ne_of_lt (Heap.lt_size e)) (Heap.get?_push_of_some _ e), hS', hi⟩) hn
  have fin : ∀ (q : Result) (s' : Shared), (∃ h' tk acc c, q = .ok (.ret (.ref s.heap.objs.size)) ∧ s' = { heap := h', gens := s.gens, drawn := s.drawn, toks := tk, os := s.os } ∧ (∀ b o, s.heap.get? b = some o → h'.get? b = some o) ∧ h'.get? s.heap.objs.size = some { cls := .type "list", data := .seq acc c } ∧ ItemsOf P acc n) →
      match q with
      | .ok (.ret v) => wpAny (model prog w) A (match v with
          | .ref a => do
            let o ← load a
            match o.data with | .seq xs _ => pure xs.toList | _ => unsupported "internal:collect"
          | _ => unsupported "internal:collect") R E s'
      | .ok _ => False
      | .error e => E e s' := by
    rintro q s' ⟨h', tk, acc, c, rfl, rfl, hk, hS', hi⟩
    have hl : ({ heap := h', gens := s.gens, drawn := s.drawn, toks := tk, os := s.os } : Shared).heap.get? s.heap.objs.size = some { cls := .type "list", data := .seq acc c } := hS'
    refine wpAny_bind (wpAny_load hl ?_)
    exact wpAny_pure (h h' tk acc hk hi)
  refine wpAny_mono key (fun f s' x => ?_) (fun e s' x => fin _ _ x)
  cases f with
  | done f => exact fin _ _ x
  | again c' => exact ⟨x.1, codeAny_mono x.2 fin⟩
theorem code_tuple_new_kdl {prog : Program} {w : World} {A : Around} {E : Value → Shared → Prop} {s : Shared} {T : String} {r d : Addr} {n : Nat} {P : Nat → Value → Prop} {OK : Heap → Prop} {Q₁ : Value → Shared → Prop}
    (K : PySem.W.KdlSrc prog w T r d n P OK) (hh : A.handled = none) (hok : OK s.heap) (hn : n ≤ sizeLine)
    (h : ∀ (h' : Heap) (tk : Nat) (acc : Array Value), (∀ b o, s.heap.get? b = some o → h'.get? b = some o) → ItemsOf P acc n → Q₁ (.ref h'.objs.size) { heap := h'.push { cls := .type "tuple", data := .seq acc }, gens := s.gens, drawn := s.drawn, toks := tk, os := s.os }) :
    codeAny (model prog w) A (.call (.builtin "tuple.__new__") { pos := [.type "tuple", .ref r] }) (wants Q₁ E) s := by
  refine codeAny_of_tree ?_
  refine wpAny_bind (wpAny_of_eq (F.newCall_tuple_1 _) (wpAny_pure ⟨plainId_quiet F.plain_tuple_new _, codeAny_builtin F.entry_tuple_new ?_⟩))
  rw [Around.under_plainId F.plain_tuple_new _]
  have hTI := K.type s hok
  have nT := K.notTuple
  refine wpAny_bind (wpAny_pure (wpAny_ite_false rfl (wpAny_bind (wpAny_of_eq sub_tuple_self (wpAny_ite_false rfl (wpAny_ite_false rfl (wpAny_bind (wpAny_of_eq madeHere_tuple (wpAny_bind (wpAny_of_eq init_tuple_lookup (wpAny_ite_true rfl (wpAny_bind ?_))))))))))))
  refine id (wpAny_ite_true rfl (wpAny_pure (wpAny_bind ?_)))
  unfold checkCount
  dsimp only
  refine wpAny_ite_false rfl ?_
  refine wpAny_ite_false rfl ?_
  refine wpAny_ite_false rfl ?_
  refine wpAny_pure ?_
  refine wpAny_ite_true rfl (wpAny_bind ?_)
  unfold Builtin.Tuple.tupleIsExact
  refine wpAny_bind (wpAny_typeOf hTI (wpAny_pure (wpAny_ite_false ?_ (wpAny_bind ?_))))
  · rw [nT]; rfl
  refine kdl_collect K hh hok hn fun h' tk acc hk hi => ?_
  refine wpAny_bind (wpAny_pure ?_)
  unfold Builtin.Tuple.tupleExact
  refine wpAny_bind (wpAny_newObj_type (wpAny_pure ?_) ?_)
  · exact h h' tk acc hk hi
  · show acc.toList.toArray.size ≤ sizeLine
    have := hi.1
    simp only [List.size_toArray, Array.length_toList]
    omega
def rTupDK : List V → Hp → VK → Prop := fun xs H Q => ∃ p kvs, xs = [.ref p] ∧ H p = some (.dK kvs) ∧ ∀ q, H q = none → Q (.ref q) (upd H q (.tup (kvs.map fun kv => kV kv.1)))
theorem call_tuple_dK {X : Cx} (hc : X.calm = true) : CallR X (.type "tuple") rTupDK := by
  intro pins s σ H xs us Q I r h
  obtain ⟨p, kvs, rfl, hk, q⟩ := h
  obtain ⟨u, rfl, rx⟩ := vals1 r
  cases rx
  obtain ⟨z, lo, vs, rk, hd⟩ : ObjOk X.prog X.w H s.heap p (.dK kvs) := I.hok p _ hk
  obtain ⟨ep, hat⟩ := hd.dictAt
  have hl := Paired.length rk
  refine callType_codes F.called_tuple (F.typeCall_tuple_1 (.ref p)) F.entry_object_init
    (code_tuple_new_kdl (Q₁ := fun obj s₁ => s₁.TypeIs obj "tuple" ∧ L2.EP X pins σ Q obj s₁) (PySem.W.kdl_dict lo) (I.ok.hd hc) hat (by rw [← hl]; exact z) fun h' tk acc hkeep hacc => ⟨⟨_, Heap.get?_push_size _ rfl, rfl⟩, ?_⟩)
    fun obj s₁ h₁ => ⟨h₁.1, F.args_object_init_2 obj (.ref p), object_init_meets F.called_tuple.init.lookup F.called_tuple.made (by decide) X.prog X.w _ _ s₁ ⟨h₁.1, rfl, h₁.2⟩⟩
  have I1 := I.kept (t' := tk) hkeep
  have rv : Vals (kvs.map fun kv => kV kv.1) acc.toList := by
    refine vals_of_at (by rw [List.length_map, hl, ← hacc.1, Array.length_toList]) fun j x w h1 h2 => ?_
    rw [Array.getElem?_toList] at h2
    obtain ⟨k, y, hky, hi⟩ := hacc.2 j w h2
    have e1 : (kvs.map (·.1))[j]? = some k := by rw [KV.keys rk, List.getElem?_map, hky]; rfl
    have e2 : (kvs.map fun kv => kV kv.1)[j]? = some (kV k) := by
      rw [show (kvs.map fun kv => kV kv.1) = (kvs.map (·.1)).map kV by rw [List.map_map]; rfl, List.getElem?_map, e1]; rfl
    rw [e2] at h1
    cases h1
    exact keyIs_rel hi
  have I2 := I1.laid (o := .tup (kvs.map fun kv => kV kv.1)) (t' := tk) (fun b o e => Heap.get?_push_of_some { cls := .type "tuple", data := .seq acc } e) (Nat.le_refl _) ⟨by rw [List.length_map]; exact z, acc.toList, rv, by have := IsTup.new h' acc; simpa using this⟩
  exact ⟨.ref h'.objs.size, _, I2, rfl, q _ (HOk.fresh I1.hok (Nat.le_refl _))⟩
end Hr

namespace Hr
open PySem PySem.Spec PyProof.Rows L2
/-! ### == and != of two dicts that hold the very same values -/
def sameB : V → Bool | .ref _ => true | v => flatB v
theorem eqAt_id {A : Around} {s : Shared} {v : V} {u u' : Value} (r : RelV v u) (r' : RelV v u') (f : sameB v = true) : SeqAt.EqAt A s u u' true := by
  cases v with
  | ref a =>
    cases r
    cases r'
    exact SeqAt.EqAt.same _
  | _ => exact eqAt_same r r' f
theorem hits_id {κ : Type} [DecidableEq κ] {A : Around} {s : Shared} {kvs : List (κ × V)} {vb : List (κ × Value)} (rb : KV kvs vb) : ∀ {ks : List (κ × V)} {va : List (κ × Value)}, KV ks va → (∀ p ∈ ks, valV kvs p.1 = some p.2 ∧ sameB p.2 = true) → PySem.W.KeqHits A s vb va true := by
  intro ks va ra
  induction ra with
  | nil => intro _; exact .nil
  | @cons p q ps qs h t ih =>
    intro hp
    obtain ⟨h1, h2⟩ := h
    obtain ⟨e, f⟩ := hp p List.mem_cons_self
    have rr : RelO (some p.2) (valueAt vb p.1) := by rw [← e]; exact KV.val rb p.1
    obtain ⟨y, hy, ry⟩ := RelO.some_of rr
    obtain ⟨k, v⟩ := q
    have h1 : p.1 = k := h1
    rw [h1] at hy
    exact .hit hy (eqAt_id h2 ry f) (ih fun p' hm => hp p' (List.mem_cons_of_mem p hm))
def rEqDI (g : Bool → Bool) : R2 := fun x y H Q => ∃ a b ks ls, x = .ref a ∧ y = .ref b ∧ H a = some (.dK ks) ∧ H b = some (.dK ls) ∧ ks.length = ls.length ∧ (∀ p ∈ ks, valV ls p.1 = some p.2 ∧ sameB p.2 = true) ∧ Q (.bl (g true)) H
theorem op_eqDI {X : Cx} (hu : X.A.units < cLine) : OpR X (compareOp .Eq) (rEqDI id) := by
  intro pins s σ H x y v u Q I rx ry h
  obtain ⟨a, b, ks, ls, rfl, rfl, ea, eb, hlen, hp, q⟩ := h
  cases rx
  cases ry
  obtain ⟨_, ya, va, ra, da⟩ : ObjOk X.prog X.w H s.heap a (.dK ks) := I.hok a _ ea
  obtain ⟨_, yb, vb, rb, db⟩ : ObjOk X.prog X.w H s.heap b (.dK ls) := I.hok b _ eb
  have hl : va.length = vb.length := by rw [← KV.length ra, ← KV.length rb]; exact hlen
  exact PySem.W.keq_eq ya yb da db hu (fun _ => hits_id rb ra hp) (fin_bl I q (by simp [hl]))
theorem op_neDI {X : Cx} (hu : X.A.units < cLine) : OpR X (compareOp .NotEq) (rEqDI not) := by
  intro pins s σ H x y v u Q I rx ry h
  obtain ⟨a, b, ks, ls, rfl, rfl, ea, eb, hlen, hp, q⟩ := h
  cases rx
  cases ry
  obtain ⟨_, ya, va, ra, da⟩ : ObjOk X.prog X.w H s.heap a (.dK ks) := I.hok a _ ea
  obtain ⟨_, yb, vb, rb, db⟩ : ObjOk X.prog X.w H s.heap b (.dK ls) := I.hok b _ eb
  have hl : va.length = vb.length := by rw [← KV.length ra, ← KV.length rb]; exact hlen
  exact PySem.W.keq_ne ya yb da db hu (fun _ => hits_id rb ra hp) (fin_bl I q (by simp [hl]))
end Hr

namespace Hc
open PySem PySem.Spec PyProof.Rows L2 Hr
def top (i : Nat) : Stmt := PySem.Challenge.pw_hermitcell_k70_what_measures_tell.main.body.getD i (.Pass ⟨0, 0, 0, 0⟩)
theorem bt_type : bootBuiltins "type" = some (.type "type") := by decide +kernel
theorem bt_int : bootBuiltins "int" = some (.type "int") := by decide +kernel
theorem bt_str : bootBuiltins "str" = some (.type "str") := by decide +kernel
theorem bt_bool : bootBuiltins "bool" = some (.type "bool") := by decide +kernel
theorem bt_tuple : bootBuiltins "tuple" = some (.type "tuple") := by decide +kernel
theorem bt_list : bootBuiltins "list" = some (.type "list") := by decide +kernel
theorem bt_dict : bootBuiltins "dict" = some (.type "dict") := by decide +kernel
theorem bt_range : bootBuiltins "range" = some (.type "range") := by decide +kernel
theorem bt_zip : bootBuiltins "zip" = some (.type "zip") := by decide +kernel
theorem bt_set : bootBuiltins "set" = some (.type "set") := by decide +kernel
theorem bt_len : bootBuiltins "len" = some (.builtin "len") := by decide +kernel
theorem bt_all : bootBuiltins "all" = some (.builtin "all") := by decide +kernel
theorem bt_max : bootBuiltins "max" = some (.builtin "max") := by decide +kernel
theorem bt_isinstance : bootBuiltins "isinstance" = some (.builtin "isinstance") := by decide +kernel
theorem bt_abs : bootBuiltins "abs" = some (.builtin "abs") := by decide +kernel
/-- a tuple of texts in the written part -/
def KTup (K : PySem.W.Frag) (a : Addr) (ts : List Str) : Prop := ∀ H : Hp, SqT K H a (ts.map V.str)
/-- the forms of instructions -/
def progF : List (Str × List Str) := [("set", ["register", "number"]), ("copy", ["register", "register"]), ("add", ["register", "register", "register"]), ("less", ["register", "register", "register"]), ("same", ["register", "register", "register"]), ("zero", ["register", "place"]), ("jump", ["place"]), ("load", ["register", "register", "register"]), ("store", ["register", "register", "register"]), ("tell", ["register", "register"]), ("token", ["register", "register"]), ("end", [])]
def formsM (k : Str) : Option (List Str) := (progF.find? fun p => decide (p.1 = k)).map (·.2)
/-- a written dict from texts to tuples of texts; none behind the names more -/
structure KForms (K : PySem.W.Frag) (mg : Str → Option Value) (w : World) (x : Str) (fs : List (Str × List Str)) (more : List Str) : Prop where
  ex : ∃ g es n, (∃ u, mg x = some u ∧ RelV (.ref g) u) ∧ KDict K w g es n ∧ (∀ p ∈ fs, ∃ t, PySem.W.nsIn K g p.1 = some (some (.ref t)) ∧ KTup K t p.2) ∧ ∀ k ∈ more, PySem.W.nsIn K g k = some none
/-- what the top has -/
structure Txt (K : PySem.W.Frag) (mg : Str → Option Value) (w : World) (C : Addr) : Prop where
  cl : Cl K C
  g_Atom : mg "Atom" = some (.ref C)
  z_type : mg "type" = none
  z_int : mg "int" = none
  z_str : mg "str" = none
  z_bool : mg "bool" = none
  z_tuple : mg "tuple" = none
  z_list : mg "list" = none
  z_dict : mg "dict" = none
  z_range : mg "range" = none
  z_zip : mg "zip" = none
  z_set : mg "set" = none
  z_len : mg "len" = none
  z_all : mg "all" = none
  z_max : mg "max" = none
  z_isinstance : mg "isinstance" = none
  z_abs : mg "abs" = none
  c_LEAST : ∃ u, mg "LEAST" = some u ∧ RelV (.int (-2147483648)) u
  c_GREATEST : ∃ u, mg "GREATEST" = some u ∧ RelV (.int (2147483647)) u
  c_MOST_CHARACTERS : ∃ u, mg "MOST_CHARACTERS" = some u ∧ RelV (.int (24)) u
  c_MOST_DEEP : ∃ u, mg "MOST_DEEP" = some u ∧ RelV (.int (40)) u
  c_MOST_DEEP_HOST : ∃ u, mg "MOST_DEEP_HOST" = some u ∧ RelV (.int (10)) u
  c_MOST_RANK : ∃ u, mg "MOST_RANK" = some u ∧ RelV (.int (40)) u
  c_MOST_RANK_HOST : ∃ u, mg "MOST_RANK_HOST" = some u ∧ RelV (.int (36)) u
  c_WORDS : ∃ u, mg "WORDS" = some u ∧ RelV (.int (4)) u
  c_PAGES : ∃ u, mg "PAGES" = some u ∧ RelV (.int (16)) u
  c_FIRST_SHARED : ∃ u, mg "FIRST_SHARED" = some u ∧ RelV (.int (8)) u
  c_MOST_INSTRUCTIONS : ∃ u, mg "MOST_INSTRUCTIONS" = some u ∧ RelV (.int (24)) u
  c_REGISTERS : ∃ u, mg "REGISTERS" = some u ∧ RelV (.int (4)) u
  forms : ∃ Fo t1 t2 t3 t4 t5, (∃ u, mg "FORMS_words" = some u ∧ RelV (.ref Fo) u) ∧ (∃ es n, KDict K w Fo es n) ∧
    KDct K w Fo "token" (.ref t1) ∧ KDct K w Fo "challenge" (.ref t2) ∧ KDct K w Fo "seal" (.ref t3) ∧ KDct K w Fo "page" (.ref t4) ∧ KDct K w Fo "ticket" (.ref t5) ∧ PySem.W.nsIn K Fo "key" = some none ∧
    KTup K t1 ["text", "tuple", "word"] ∧ KTup K t2 ["text", "number"] ∧ KTup K t3 ["text", "number", "number", "hidden"] ∧ KTup K t4 ["text", "number", "number", "hidden"] ∧ KTup K t5 ["text", "number", "text", "tuple", "pages", "tuple"]
  prog : KForms K mg w "FORMS_machine" progF ["nope"]
  kit : ∀ (d : D) (n : String), n ∈ ["int", "str", "tuple", "bool", "list", "dict"] → PySem.W.kitOne K (kyU C d) (.type n) = some (match d with | .int _ => n == "int" | .bl _ => n == "int" || n == "bool" | .str _ => n == "str" | .tup _ => n == "tuple" | .lst _ => n == "list" | .dct => n == "dict" | _ => false)
  kitC : ∀ d : D, PySem.W.kitOne K (kyU C d) (.ref C) = some (match d with | .atom _ _ => true | _ => false)
end Hc

namespace Hc
open PySem PySem.Spec PyProof.Rows L2 Hr
theorem ifT {p A B : Prop} [Decidable p] (hp : p) (h : A) : if decide p = true then A else B := by
  rw [decide_eq_true hp]; exact iteT h
theorem ifF {p A B : Prop} [Decidable p] (hp : ¬ p) (h : B) : if decide p = true then A else B := by
  rw [decide_eq_false hp]; exact iteF h
theorem bT {b : Bool} {A B : Prop} (hb : b = true) (h : A) : if b = true then A else B := by
  rw [hb]; exact iteT h
theorem bF {b : Bool} {A B : Prop} (hb : b = false) (h : B) : if b = true then A else B := by
  rw [hb]; exact iteF h
theorem bcase {b : Bool} {A B : Prop} (h1 : b = true → A) (h2 : b = false → B) : if b = true then A else B := by
  cases b with
  | true => exact iteT (h1 rfl)
  | false => exact iteF (h2 rfl)
/-- a comprehension without a test -/
theorem yes {σ : L2.St} {H : Hp} {A B : Hp → Prop} (h : A H) : tYes σ H fun b H3 => if b = true then A H3 else B H3 := by
  show (if true = true then A H else B H)
  exact iteT h
theorem same_new {q : Addr} {H : Hp} {o : HO} (h : H q = none) : Same H (L2.upd H q o) := fun c x e => by rw [upd_ne (ne_of_none e h)]; exact e
theorem sfree {H H' : Hp} (e : Same H H') {p : Addr} (h : H' p = none) : H p = none := e.free h
/-! ### what the defs tell -/
def numOk (i : Int) : Bool := decide (-2147483648 ≤ i) && decide (i ≤ 2147483647)
def isNum : D → Bool | .int i => numOk i | _ => false
def sgn (c : Nat) : Bool := decide (32 ≤ c) && decide (c ≤ 126)
def txtOk (s : Str) : Bool := decide (s.length ≤ 24) && s.cps.toList.all sgn
def isTxt : D → Bool | .str s => txtOk s | _ => false
/-- one value is asked; new objects may be made -/
def spB (C : Addr) (ok : D → Prop) (f : D → Bool) : Sp := fun vs H Q _ => ∃ x d, vs = [x] ∧ Is C H x d ∧ ok d ∧ ∀ H', Same H H' → Q (.bl (f d)) H'
theorem kyV_int {C : Addr} {d : D} : (kyV C d = .ty "int") ↔ ∃ i, d = .int i := by cases d <;> simp [kyV]
theorem kyV_str {C : Addr} {d : D} : (kyV C d = .ty "str") ↔ ∃ i, d = .str i := by cases d <;> simp [kyV]
theorem kyV_tup {C : Addr} {d : D} : (kyV C d = .ty "tuple") ↔ ∃ i, d = .tup i := by cases d <;> simp [kyV]
theorem kyV_atom {C : Addr} {d : D} : (kyV C d = .ref C) ↔ ∃ k i, d = .atom k i := by cases d <;> simp [kyV]
section
variable {P : Program} {w : World} {K : PySem.W.Frag} {mg : Str → Option Value} {base : Heap} {f : Addr} {fd : FuncData} {C : Addr}
abbrev s_is_number : Stmt := top 13
theorem sc_is_number : FnScope ["value"] ["value"] (C8.fnScope s_is_number) := C8.fnScope_by (by decide +kernel)
theorem ok_is_number (F : C8.Def K mg "is_number" s_is_number f fd) (b : Binds K fd ["value"] []) (T : Txt K mg w C) : C8.Cal P w K mg base 1 "is_number" (spB C (fun _ => True) isNum) [] := by
  refine C8.cal0 F b .nil sc_is_number (fun vs H Q E h => ?_) (fun cdv A outer s H vs Q E hr h => ?_)
  · obtain ⟨x, d, rfl, _⟩ := h; rfl
  obtain ⟨x, d, rfl, hx, _, q⟩ := h
  refine ⟨_, (pss_one (ps_ret (pe_and (pe_cmpR (op_isTyA (C := C)) (pe_callTy (call_typeA (C := C)) rfl T.z_type bt_type (pa_cons (pv 0) pa_nil)) (pe_bltn (v := .ty "int") rfl T.z_int bt_int rfl) (nomark _)) (pe_one (pe_chain op_le op_le (C8.pe_gc rfl T.c_LEAST) (pv 0) (C8.pe_gc rfl T.c_GREATEST)))))), ?_⟩
  have q := q H (Same.refl H)
  refine ⟨x, rfl, x, d, rfl, hx, kyV_ok d, .inl ⟨_, rfl⟩, _, rfl, ?_⟩
  by_cases c : kyV C d = .ty "int"
  · refine ifT c ?_
    obtain ⟨i, rfl⟩ := kyV_int.mp c
    cases hx
    refine ⟨_, rfl, _, _, rfl, rfl, _, rfl, ite2 (fun c => ?_) (fun c => ?_)⟩
    · refine ⟨_, _, rfl, rfl, ?_⟩
      have e : isNum (.int i) = decide (i ≤ 2147483647) := by simp [isNum, numOk, of_decide_eq_true c]
      rw [e] at q; exact q
    · have e : isNum (.int i) = false := by simp [isNum, numOk] at c ⊢; omega
      rw [e] at q; exact q
  · have e : isNum d = false := by cases d <;> first | rfl | exact absurd rfl c
    rw [e] at q
    exact ifF c q
/-- signs between the space and the tilde -/
theorem lt_one (a b : Nat) : decide (([a] : List Nat) < [b]) = decide (a < b) := by
  by_cases h : a < b
  · rw [decide_eq_true h]; exact decide_eq_true (List.cons_lt_cons_iff.mpr (.inl h))
  · rw [decide_eq_false h]
    refine decide_eq_false fun z => ?_
    rcases List.cons_lt_cons_iff.mp z with z | ⟨_, z⟩
    · exact h z
    · cases z
abbrev s_is_text : Stmt := top 14
theorem sc_is_text : FnScope ["value", "character"] ["value"] (C8.fnScope s_is_text) := C8.fnScope_by (by decide +kernel)
theorem ok_is_text (F : C8.Def K mg "is_text" s_is_text f fd) (b : Binds K fd ["value"] []) (T : Txt K mg w C) : C8.Cal P w K mg base 1 "is_text" (spB C (fun d => ∀ s, d = .str s → s.length ≤ sizeLine) isTxt) [] := by
  refine C8.cal0 F b .nil sc_is_text (fun vs H Q E h => ?_) (fun cdv A outer s H vs Q E hr h => ?_)
  · obtain ⟨x, d, rfl, _⟩ := h; rfl
  obtain ⟨x, d, rfl, hx, hz, q⟩ := h
  refine ⟨_, (pss_cons (ps_if (PW.pt (pw_or (pt_cmpR (op_isNotTyA (C := C)) (pe_callTy (call_typeA (C := C)) rfl T.z_type bt_type (pa_cons (pv 0) pa_nil)) (pe_bltn (v := .ty "str") rfl T.z_str bt_str rfl) (nomark _)) (pw_or1 (pt_cmpR op_gt (pe_callB call_len_str rfl T.z_len bt_len (pa_cons (pv 0) pa_nil)) (C8.pe_gc rfl T.c_MOST_CHARACTERS) (nomark _))))) (pss_one (ps_ret pe_bl)) pss_nil)
      (pss_one (ps_ret (pe_callB (cr_all rfl) rfl T.z_all bt_all (pa_cons (pe_lc (own := [("character", 1)]) (g := gName 1) rfl sc_is_text.nd (pi_str (pv 0)) (blkOk_by (own := [("character", 1)]) (N := ["value", "character"]) (sc := C8.fnScope s_is_text) (by decide +kernel)) (fun _ _ _ _ _ => (pg_name (i := 1) sc_is_text.nd rfl (Or.inl rfl))) (fun _ _ _ _ _ => pts_nil) (fun _ _ _ _ _ => (pe_chain op_le_str op_le_str pe_str (pv 1) pe_str))) pa_nil))))), ?_⟩
  refine ⟨x, rfl, x, d, rfl, hx, kyV_ok d, .inl ⟨_, rfl⟩, _, rfl, ?_⟩
  by_cases c : kyV C d = .ty "str"
  · rw [decide_eq_true c]
    obtain ⟨z, rfl⟩ := kyV_str.mp c
    cases hx
    refine iteF ⟨_, rfl, z, rfl, hz z rfl, _, _, rfl, rfl, _, rfl, ite2 (fun c => ?_) (fun c => ?_)⟩
    · have e : isTxt (.str z) = false := by
        simp only [isTxt, txtOk]
        rw [decide_eq_false (by simp at c; omega)]; rfl
      have q := q H (Same.refl H)
      rw [e] at q; exact q
    · have hlen : z.length ≤ 24 := by simp at c; omega
      have e : isTxt (.str z) = z.cps.toList.all sgn := by
        simp only [isTxt, txtOk]
        rw [decide_eq_true hlen]; rfl
      rw [e] at q
      refine ⟨_, rfl, z, rfl, fun Dl hD => ?_⟩
      refine lc_it (walk_str (z := z)) (fun i H' => Same H H' ∧ H' Dl = some (.lst ((z.cps.toList.take i).map fun c => V.bl (sgn c)))) ⟨same_new hD, upd_same⟩ (fun _ _ _ _ => trivial) ?_ ?_
      · rintro i y H0 H1 hi ⟨s1, hl⟩ ⟨rfl, c, hc, rfl⟩
        have hc' : z.cps.toList[i]? = some c := by rw [Array.getElem?_toList]; exact hc
        have go : ∀ H3, H3 = upd H1 Dl (.lst ((z.cps.toList.take i).map (fun c => V.bl (sgn c)) ++ [.bl (sgn c)])) → Same H H3 ∧ H3 Dl = some (.lst ((z.cps.toList.take (i + 1)).map fun c => V.bl (sgn c))) := fun H3 e3 => by
          subst e3
          refine ⟨fun p o hp => by rw [upd_ne (ne_of_none hp hD)]; exact s1 p o hp, ?_⟩
          rw [upd_same, List.take_add_one, hc', List.map_append]; rfl
        have hn : ((z.cps.toList.take i).map fun c => V.bl (sgn c)).length < sizeLine := by
          have h1 : z.cps.size = z.length := rfl
          rw [List.length_map, List.length_take, Array.length_toList]
          exact small1000 (by omega)
        refine ⟨rfl, yes ?_⟩
        refine ⟨_, rfl, _, _, rfl, rfl, _, rfl, ?_⟩
        have e1 : (!decide (([c] : List Nat) < [32])) = decide (32 ≤ c) := by
          rw [lt_one]; by_cases h : c < 32
          · rw [decide_eq_true h, decide_eq_false (by omega)]; rfl
          · rw [decide_eq_false h, decide_eq_true (by omega)]; rfl
        have e2 : (!decide (([126] : List Nat) < [c])) = decide (c ≤ 126) := by
          rw [lt_one]; by_cases h : 126 < c
          · rw [decide_eq_true h, decide_eq_false (by omega)]; rfl
          · rw [decide_eq_false h, decide_eq_true (by omega)]; rfl
        refine bcase (b := !decide (([c] : List Nat) < [32])) (fun hb => ?_) (fun hb => ?_)
        · refine ⟨_, _, rfl, rfl, _, hl, hn, go _ ?_⟩
          have : (!decide (([126] : List Nat) < [c])) = sgn c := by rw [e2]; rw [e1] at hb; simp only [sgn]; rw [hb, Bool.true_and]
          exact congrArg (fun k => upd H1 Dl (.lst ((z.cps.toList.take i).map (fun c => V.bl (sgn c)) ++ [.bl k]))) this
        · refine ⟨_, hl, hn, go _ ?_⟩
          have : false = sgn c := by rw [e1] at hb; simp only [sgn]; rw [hb, Bool.false_and]
          exact congrArg (fun k => upd H1 Dl (.lst ((z.cps.toList.take i).map (fun c => V.bl (sgn c)) ++ [.bl k]))) this
      · rintro H1 ⟨s1, hl⟩
        have ea : z.cps.toList.take z.cps.size = z.cps.toList := List.take_of_length_le (by rw [Array.length_toList]; exact Nat.le_refl _)
        rw [ea] at hl
        refine ⟨Dl, z.cps.toList.map sgn, rfl, SqL.of (by rw [List.map_map]; exact hl), ?_⟩
        have e9 : (z.cps.toList.map sgn).all id = z.cps.toList.all sgn := by rw [List.all_map]; rfl
        rw [e9]
        exact q H1 s1
  · have e : isTxt d = false := by cases d <;> first | rfl | exact absurd rfl c
    have q := q H (Same.refl H)
    rw [e] at q
    rw [decide_eq_false c]
    exact iteT q
end
end Hc

namespace Hc
open PySem PySem.Spec PyProof.Rows L2 Hr
mutual
/-- a word, nested so deep at most -/
def okW (md mr : Nat) : Nat → D → Bool
  | n, .tup ds => decide (n ≠ md) && okA md mr (n + 1) ds
  | _, .atom k ds => decide (rank (.atom k ds) ≤ mr)
  | _, .non => true
  | _, .int i => numOk i
  | _, .str s => txtOk s
  | _, _ => false
def okA (md mr : Nat) : Nat → List D → Bool
  | _, [] => true
  | n, d :: ds => okW md mr n d && okA md mr n ds
end
mutual
/-- no text is too long for the model's len -/
def txl : D → Prop
  | .str s => s.length ≤ sizeLine
  | .tup ds => txlL ds
  | .lst ds => txlL ds
  | .atom _ ds => txlL ds
  | _ => True
def txlL : List D → Prop
  | [] => True
  | d :: ds => txl d ∧ txlL ds
end
/-- data of a size that the lists bear -/
def Fit (d : D) : Prop := sz d ≤ 1000000 ∧ txl d
theorem okA_app (md mr n : Nat) : ∀ a b : List D, okA md mr n (a ++ b) = (okA md mr n a && okA md mr n b)
  | [], b => by simp [okA]
  | x :: a, b => by rw [List.cons_append]; simp only [okA]; rw [okA_app md mr n a b, Bool.and_assoc]
theorem okA_rev (md mr n : Nat) : ∀ a : List D, okA md mr n a.reverse = okA md mr n a
  | [] => rfl
  | x :: a => by rw [List.reverse_cons, okA_app, okA_rev md mr n a]; simp only [okA]; rw [Bool.and_true, Bool.and_comm]
theorem txlL_mem : ∀ {ds : List D} {d : D}, txlL ds → d ∈ ds → txl d
  | x :: ds, d, h, hd => by
    simp only [txlL] at h
    rcases List.mem_cons.mp hd with rfl | hd
    · exact h.1
    · exact txlL_mem h.2 hd
/-- the stack: pairs of a part and how deep it lies; the parts stood ahead of the call -/
inductive Stk (C : Addr) (H0 H : Hp) : List V → List (D × Nat) → Prop
  | nil : Stk C H0 H [] []
  | cons {q : Addr} {x : V} {d : D} {n : Nat} {xs : List V} {ps : List (D × Nat)} (h : H q = some (.tup [x, .int (n : Int)])) (hx : Is C H0 x d) (t : Stk C H0 H xs ps) : Stk C H0 H (.ref q :: xs) ((d, n) :: ps)
/-- the tuples stand -/
def Tups (H H' : Hp) : Prop := ∀ b xs, H b = some (.tup xs) → H' b = some (.tup xs)
theorem Tups.put {H : Hp} {l : Addr} {xs ys : List V} (h : H l = some (.lst xs)) : Tups H (L2.upd H l (.lst ys)) := fun b zs e => by
  rw [upd_ne (fun z => by rw [z, h] at e; cases e)]; exact e
theorem Tups.trans {H H1 H2 : Hp} (a : Tups H H1) (b : Tups H1 H2) : Tups H H2 := fun c xs h => b c xs (a c xs h)
theorem Tups.of {H H1 : Hp} (a : Same H H1) : Tups H H1 := fun c xs h => a c _ h
theorem Stk.keep {C : Addr} {H0 H H' : Hp} (e : Tups H H') : ∀ {xs : List V} {ps : List (D × Nat)}, Stk C H0 H xs ps → Stk C H0 H' xs ps
  | _, _, .nil => .nil
  | _, _, .cons h hx t => .cons (e _ _ h) hx (t.keep e)
theorem Stk.len {C : Addr} {H0 H : Hp} : ∀ {xs : List V} {ps : List (D × Nat)}, Stk C H0 H xs ps → xs.length = ps.length
  | _, _, .nil => rfl
  | _, _, .cons _ _ t => congrArg (· + 1) t.len
theorem Stk.app {C : Addr} {H0 H : Hp} : ∀ {xs ys : List V} {ps qs : List (D × Nat)}, Stk C H0 H xs ps → Stk C H0 H ys qs → Stk C H0 H (xs ++ ys) (ps ++ qs)
  | _, _, _, _, .nil, t => t
  | _, _, _, _, .cons h hx u, t => .cons h hx (u.app t)
theorem Stk.last {C : Addr} {H0 H : Hp} : ∀ {xs : List V} {ps : List (D × Nat)}, Stk C H0 H xs ps → ps ≠ [] → ∃ (q : Addr) (x : V) (d : D) (n : Nat) (ys : List V) (qs : List (D × Nat)), xs = ys ++ [.ref q] ∧ ps = qs ++ [(d, n)] ∧ H q = some (.tup [x, .int (n : Int)]) ∧ Is C H0 x d ∧ Stk C H0 H ys qs
  | _, _, .nil, h => absurd rfl h
  | _, _, .cons (ps := []) h hx .nil, _ => ⟨_, _, _, _, [], [], rfl, rfl, h, hx, .nil⟩
  | _, _, .cons (ps := p :: ps) h hx t, _ => by
    obtain ⟨q, x, d, n, ys, qs, e1, e2, h1, h2, h3⟩ := t.last (List.cons_ne_nil _ _)
    rw [e1, e2]
    exact ⟨q, x, d, n, _ :: ys, _ :: qs, rfl, rfl, h1, h2, .cons h hx h3⟩
/-- a list that is no argument of ours changes: what stood stays -/
theorem same_put {H H' : Hp} {l : Addr} {o : HO} (s : Same H H') (h : H l = none) : Same H (L2.upd H' l o) := fun b u e => by
  rw [upd_ne (ne_of_none e h)]; exact s b u e
def okS (md mr : Nat) : List (D × Nat) → Bool
  | [] => true
  | p :: ps => okW md mr p.2 p.1 && okS md mr ps
def szS : List (D × Nat) → Nat
  | [] => 0
  | p :: ps => sz p.1 + szS ps
theorem okS_app (md mr : Nat) : ∀ a b, okS md mr (a ++ b) = (okS md mr a && okS md mr b)
  | [], b => by simp [okS]
  | x :: a, b => by rw [List.cons_append]; simp only [okS]; rw [okS_app md mr a b, Bool.and_assoc]
theorem szS_app : ∀ a b, szS (a ++ b) = szS a + szS b
  | [], b => by simp [szS]
  | x :: a, b => by rw [List.cons_append]; simp only [szS]; rw [szS_app a b]; omega
theorem len_szS : ∀ a : List (D × Nat), a.length ≤ szS a
  | [] => Nat.le_refl _
  | x :: a => by
    have := len_szS a
    have := sz_pos x.1
    simp only [szS, List.length_cons]; omega
theorem okS_map (md mr n : Nat) : ∀ ds : List D, okS md mr (ds.map fun d => (d, n)) = okA md mr n ds
  | [] => by simp [okS, okA]
  | d :: ds => by simp only [List.map_cons, okS, okA]; rw [okS_map md mr n ds]
theorem szS_map (n : Nat) : ∀ ds : List D, szS (ds.map fun d => (d, n)) = szL ds
  | [] => by simp [szS, szL]
  | d :: ds => by simp only [List.map_cons, szS, szL]; rw [szS_map n ds]
def spWithin (C : Addr) : Sp := fun vs H Q _ => ∃ x d, ∃ md mr : Nat, vs = [x, .int (md : Int), .int (mr : Int)] ∧ Is C H x d ∧ Fit d ∧ ∀ H', Same H H' → Q (.bl (okW md mr 0 d)) H'
section
variable {P : Program} {w : World} {K : PySem.W.Frag} {mg : Str → Option Value} {base : Heap} {f : Addr} {fd : FuncData} {C : Addr}
abbrev s__is_within : Stmt := top 20
theorem sc__is_within : FnScope ["value", "most_deep", "most_rank", "todo", "part", "deep", "each"] ["value", "most_deep", "most_rank"] (C8.fnScope s__is_within) := C8.fnScope_by (by decide +kernel)
theorem ok__is_within (F : C8.Def K mg "_is_within" s__is_within f fd) (b : Binds K fd ["value", "most_deep", "most_rank"] []) (T : Txt K mg w C) (c_is_number : C8.Cal P w K mg base 1 "is_number" (spB C (fun _ => True) isNum) [])
    (c_is_text : C8.Cal P w K mg base 1 "is_text" (spB C (fun d => ∀ s, d = .str s → s.length ≤ sizeLine) isTxt) []) : C8.Cal P w K mg base 2 "_is_within" (spWithin C) [] := by
  refine C8.cal0 F b .nil sc__is_within (fun vs H Q E h => ?_) (fun cdv A outer s H vs Q E hr h => ?_)
  · obtain ⟨x, d, md, mr, rfl, _⟩ := h; rfl
  obtain ⟨x, d, md, mr, rfl, hx, hz, q⟩ := h
  refine ⟨_, (pss_cons (ps_set (i := 3) sc__is_within.nd rfl (Or.inl rfl) (pe_lst (pa_cons (pe_tup (pa_cons (pv 0) (pa_cons pe_int pa_nil))) pa_nil)))
      (pss_cons (ps_while PassesOwn.never (pt_truth (pv 3) (fun _ => rfl))
      (pss_cons (ps_asg (pe_bm0 PySem.F.plainAttrs_list PySem.F.slot_list_pop PySem.F.type_list_pop mt_pop (pv 3)) (pg_tup rfl (pgs_cons (pg_name (i := 4) sc__is_within.nd rfl (Or.inl rfl)) (pgs_cons (pg_name (i := 5) sc__is_within.nd rfl (Or.inr rfl)) pgs_nil))))
      (pss_one (ps_if (pt_cmpR (op_isTyA (C := C)) (pe_callTy (call_typeA (C := C)) rfl T.z_type bt_type (pa_cons (pv 4) pa_nil)) (pe_bltn (v := .ty "tuple") rfl T.z_tuple bt_tuple rfl) (nomark _)) (pss_cons (ps_if (pt_cmpR op_eq (pv 5) (pv 1) (nomark _)) (pss_one (ps_ret pe_bl)) pss_nil)
      (pss_one (ps_expr (pe_bm PySem.F.plainAttrs_list PySem.F.slot_list_extend PySem.F.type_list_extend mt_extend (pv 3) (pa_cons (pe_lc (own := [("each", 6)]) (g := gName 6) rfl sc__is_within.nd (pi_tup (pv 4)) (blkOk_by (own := [("each", 6)]) (N := ["value", "most_deep", "most_rank", "todo", "part", "deep", "each"]) (sc := C8.fnScope s__is_within) (by decide +kernel)) (fun _ _ _ _ _ => (pg_name (i := 6) sc__is_within.nd rfl (Or.inl rfl))) (fun _ _ _ _ _ => pts_nil) (fun _ _ _ _ _ => (pe_tup (pa_cons (pv 6) (pa_cons (pe_op op_add (pv 5) pe_int) pa_nil))))) pa_nil))))) (pss_one (ps_if (pt_cmpR (op_isTyA (C := C)) (pe_callTy (call_typeA (C := C)) rfl T.z_type bt_type (pa_cons (pv 4) pa_nil)) (pe_glob (v := .ref C) rfl T.g_Atom rfl) (nomark _)) (pss_one (ps_if (pt_cmpR op_gt (pe_fld (pv 4) rfl) (pv 2) (nomark _)) (pss_one (ps_ret pe_bl)) pss_nil)) (pss_one (ps_if (PW.pt (pw_and (pt_cmpR op_notN (pv 4) pe_non (nomark _)) (pw_and (pt_not (pt_val (C8.pe_c c_is_number hr (by first | decide | omega) rfl (pa_cons (pv 4) pa_nil)))) (pw_and1 (pt_not (pt_val (C8.pe_c c_is_text hr (by first | decide | omega) rfl (pa_cons (pv 4) pa_nil)))))))) (pss_one (ps_ret pe_bl)) pss_nil))))))))
      (pss_one (ps_ret pe_bl)))), ?_⟩
  refine ⟨_, rfl, (by show 2 ≤ sizeLine; decide), fun q0 hq0 => ⟨(by show 1 ≤ sizeLine; decide), fun l hl => ?_⟩⟩
  have s1 := same_new (o := .tup [x, .int 0]) hq0
  have s2 := same_new (o := .lst [.ref q0]) hl
  have hl0 : H l = none := s1.free hl
  refine ⟨fun m σ' H' => ∃ v4 v5 xs ps, σ' = [some x, some (.int (md : Int)), some (.int (mr : Int)), some (.ref l), v4, v5, none] ∧ Same H H' ∧ H' l = some (.lst xs) ∧ Stk C H H' xs ps ∧ okS md mr ps = okW md mr 0 d ∧ m = szS ps ∧ szS ps ≤ 1000000 ∧ ∀ p ∈ ps, txl p.1,
    ⟨_, none, none, [.ref q0], [(d, 0)], rfl, s1.trans s2, upd_same, .cons (s2 _ _ upd_same) hx .nil, by simp [okS], rfl, by simp [szS]; exact hz.1, fun p hp => by rw [List.mem_singleton.mp hp]; exact hz.2⟩, ?_⟩
  rintro m σ' H' ⟨v4, v5, xs, ps, rfl, sm, hl', st, ok, rfl, hm, hs⟩
  refine ⟨_, rfl, _, .inl ⟨xs, SqL.of hl', rfl⟩, ?_⟩
  by_cases hps : ps = []
  · subst hps
    cases st
    refine iteF ?_
    have q := q H' sm
    rw [← ok] at q
    exact q
  obtain ⟨qa, y, e, n, ys, qs, rfl, rfl, hq, hy, st'⟩ := st.last hps
  refine bT (by simp) ⟨fun σ2 H2 => ∃ m', m' < szS (qs ++ [(e, n)]) ∧ ∃ v4 v5 xs ps, σ2 = [some x, some (.int (md : Int)), some (.int (mr : Int)), some (.ref l), v4, v5, none] ∧ Same H H2 ∧ H2 l = some (.lst xs) ∧ Stk C H H2 xs ps ∧ okS md mr ps = okW md mr 0 d ∧ m' = szS ps ∧ szS ps ≤ 1000000 ∧ ∀ p ∈ ps, txl p.1, fun σ2 H2 h => h, ?_⟩
  -- part, deep = todo.pop()
  refine ⟨_, rfl, .inl ⟨rfl, _, SqL.of hl'⟩, l, _, .ref qa, rfl, rfl, hl', by simp, ?_⟩
  rw [List.dropLast_concat]
  have tp := Tups.put (ys := ys) hl'
  refine ⟨qa, [y, .int (n : Int)], rfl, SqT.of (tp _ _ hq), rfl, y, [.int (n : Int)], rfl, .int (n : Int), [], rfl, rfl, ?_⟩
  have sm2 : Same H (upd H' l (.lst ys)) := same_put sm hl0
  have hys : (upd H' l (.lst ys)) l = some (.lst ys) := upd_same
  have st2 := st'.keep tp
  rw [okS_app] at ok
  have hsz : szS (qs ++ [(e, n)]) = szS qs + sz e := by rw [szS_app]; simp [szS]
  have hse := sz_pos e
  have hqs : ∀ p ∈ qs, txl p.1 := fun p hp => hs p (List.mem_append_left _ hp)
  have hse2 : txl e := hs (e, n) (List.mem_append_right _ (List.mem_singleton.mpr rfl))
  have ok2 : okS md mr [(e, n)] = okW md mr n e := by simp [okS]
  rw [ok2] at ok
  generalize upd H' l (.lst ys) = H2 at sm2 hys st2
  have hy2 := hy.same sm2
  -- a part that is right, and leads no further
  have good : okW md mr n e = true → ∀ H3, Same H2 H3 → H3 l = some (.lst ys) → ∃ m', m' < szS (qs ++ [(e, n)]) ∧ ∃ v4 v5 xs ps, ([some x, some (.int (md : Int)), some (.int (mr : Int)), some (.ref l), some y, some (.int (n : Int)), none] : L2.St) = [some x, some (.int (md : Int)), some (.int (mr : Int)), some (.ref l), v4, v5, none] ∧ Same H H3 ∧ H3 l = some (.lst xs) ∧ Stk C H H3 xs ps ∧ okS md mr ps = okW md mr 0 d ∧ m' = szS ps ∧ szS ps ≤ 1000000 ∧ ∀ p ∈ ps, txl p.1 := fun hok H3 s3 hl3 =>
    ⟨szS qs, by omega, _, _, ys, qs, rfl, sm2.trans s3, hl3, st2.keep (Tups.of s3), by rw [← ok, hok, Bool.and_true], rfl, by omega, hqs⟩
  -- a part that is wrong
  have bad : okW md mr n e = false → ∀ H3, Same H2 H3 → Q (.bl false) H3 := fun hok H3 s3 => by
    have q := q H3 (sm2.trans s3)
    rw [← ok, hok, Bool.and_false] at q
    exact q
  refine ⟨_, rfl, y, e, rfl, hy2, kyV_ok e, .inl ⟨_, rfl⟩, _, rfl, ?_⟩
  by_cases ct : kyV C e = .ty "tuple"
  · refine ifT ct ?_
    obtain ⟨es, rfl⟩ := kyV_tup.mp ct
    refine ⟨_, rfl, _, rfl, rfl, _, rfl, ?_⟩
    by_cases cn : n = md
    · refine ifT (by rw [cn]) ?_
      exact bad (by simp [okW, cn]) H2 (Same.refl _)
    · refine ifF (fun z => cn (by have := V.int.inj z; omega)) ?_
      have hyt := hy
      cases hyt with
      | @tup ta txs _ hta tis =>
        refine ⟨_, rfl, .inl ⟨rfl, _, SqL.of hys⟩, _, rfl, ta, rfl, ⟨_, SqT.of (sm2 _ _ hta)⟩, fun Dl hD => ?_⟩
        have nDl : l ≠ Dl := fun z => by rw [z] at hys; rw [hys] at hD; cases hD
        refine lc_tup (K := K) (a := ta) (xs := txs) (fun i H3 => Same H2 H3 ∧ ∃ zs, H3 Dl = some (.lst zs) ∧ Stk C H H3 zs ((es.take i).map fun d => (d, n + 1)) ∧ zs.length = i)
          ⟨same_new hD, [], upd_same, by simpa using Stk.nil, rfl⟩ (fun i H3 _ h => SqT.of (h.1 _ _ (sm2 _ _ hta))) ?_ ?_
        · rintro i z H3 hi ⟨s3, zs, hz3, stz, hzl⟩
          obtain ⟨ed, hed, hiz⟩ := tis.at hi
          refine ⟨rfl, yes ?_⟩
          refine ⟨_, rfl, _, rfl, _, _, rfl, rfl, (by show 2 ≤ sizeLine; decide), fun t ht => ?_⟩
          have s4 := same_new (o := .tup [z, .int ((n : Int) + 1)]) ht
          have hz4 := s4 _ _ hz3
          have hlt := (List.getElem?_eq_some_iff.mp hed).1
          refine ⟨zs, hz4, Nat.lt_of_lt_of_le (show zs.length < 1000001 by simp only [sz] at hsz; have := len_szL es; omega) (by decide), same_put (s3.trans s4) hD, zs ++ [.ref t], upd_same, ?_, by simp [hzl]⟩
          have e6 : (es.take (i + 1)).map (fun d => (d, n + 1)) = (es.take i).map (fun d => (d, n + 1)) ++ [(ed, n + 1)] := by rw [List.take_add_one, hed, List.map_append]; rfl
          rw [e6]
          exact (stz.keep ((Tups.of s4).trans (Tups.put hz4))).app (.cons (Tups.put hz4 _ _ upd_same) hiz .nil)
        · rintro H3 ⟨s3, zs, hz3, stz, hzl⟩
          have htl := tis.len
          have hzl2 : zs.length + 1 ≤ sz (.tup es) := by simp only [sz]; have := len_szL es; omega
          have hyl := st2.len
          have hql := len_szS qs
          have hl3 := s3 _ _ hys
          refine ⟨l, Dl, ys, zs, rfl, rfl, hl3, hz3, Nat.le_trans (show ys.length + zs.length ≤ 1000000 by omega) (by decide), ?_⟩
          rw [List.take_of_length_le (by omega)] at stz
          refine ⟨szS (qs ++ es.map fun d => (d, n + 1)), ?_, _, _, ys ++ zs, qs ++ es.map (fun d => (d, n + 1)), rfl, same_put (sm2.trans s3) hl0, upd_same, ((st2.keep (Tups.of s3)).app stz).keep (Tups.put hl3), ?_, rfl, ?_, fun p hp => ?_⟩
          · rw [szS_app, szS_map, hsz]; simp only [sz]; omega
          · rw [okS_app, okS_map, ← ok]; simp [okW, cn]
          · rw [szS_app, szS_map]; simp only [sz] at hsz; omega
          · rcases List.mem_append.mp hp with hp | hp
            · exact hqs p hp
            · obtain ⟨d', hd', rfl⟩ := List.mem_map.mp hp
              exact txlL_mem (by simpa [txl] using hse2) hd'
  · refine ifF ct ⟨_, rfl, y, e, rfl, hy2, kyV_ok e, .inr rfl, _, rfl, ?_⟩
    by_cases ca : kyV C e = .ref C
    · refine ifT ca ?_
      obtain ⟨k, es, rfl⟩ := kyV_atom.mp ca
      cases hy2 with
      | @atom aa dx at_ _ axs _ h1 h2 h3 =>
        refine ⟨_, rfl, aa, C, dx, _, _, rfl, h1, T.cl.cl, T.cl.nR, rfl, _, rfl, _, _, rfl, rfl, _, rfl, ite2 (fun c => ?_) (fun c => ?_)⟩
        · exact bad (by simp only [okW]; refine decide_eq_false fun z => ?_; simp at c; omega) H2 (Same.refl _)
        · exact good (by simp only [okW]; refine decide_eq_true ?_; simp at c; omega) H2 (Same.refl _) hys
    · refine ifF ca ⟨_, rfl, rfl, _, rfl, ?_⟩
      by_cases cN : y = .non
      · rw [decide_eq_true cN]
        subst cN
        cases hy
        exact iteF (iteF (good rfl H2 (Same.refl _) hys))
      · rw [decide_eq_false cN]
        refine iteT ⟨_, rfl, y, e, rfl, hy2, trivial, fun H3 s3 => ⟨_, rfl, ?_⟩⟩
        cases hn : isNum e with
        | true =>
          refine iteF (iteF (good ?_ H3 s3 (s3 _ _ hys)))
          cases e <;> first | exact hn | cases hn
        | false =>
          refine iteT ⟨_, rfl, y, e, rfl, hy2.same s3, fun z hz' => by subst hz'; simpa [txl] using hse2, fun H4 s4 => ⟨_, rfl, ?_⟩⟩
          have s34 := s3.trans s4
          cases ht : isTxt e with
          | true =>
            refine iteF (good ?_ H4 s34 (s34 _ _ hys))
            cases e <;> first | exact ht | cases ht
          | false =>
            refine iteT (bad ?_ H4 s34)
            cases e with
            | non => cases hy; exact absurd rfl cN
            | int i => exact hn
            | str z => exact ht
            | tup es => exact absurd rfl ct
            | atom k es => exact absurd rfl ca
            | _ => rfl
end
end Hc

namespace Hc
open PySem PySem.Spec PyProof.Rows L2 Hr
mutual
/-- the atoms, each where it stands -/
def places : D → List D
  | .tup ds => placesL ds
  | .atom k ds => [.atom k ds]
  | _ => []
def placesL : List D → List D
  | [] => []
  | d :: ds => places d ++ placesL ds
end
theorem placesL_app : ∀ a b : List D, placesL (a ++ b) = placesL a ++ placesL b
  | [], b => rfl
  | x :: a, b => by rw [List.cons_append]; simp only [placesL]; rw [placesL_app a b, List.append_assoc]
mutual
theorem places_len : ∀ d : D, (places d).length ≤ sz d
  | .tup ds => by simp only [places, sz]; have := placesL_len ds; omega
  | .atom k ds => by simp [places, sz]
  | .non | .bl _ | .int _ | .str _ | .lst _ | .dct => by simp [places, sz]
theorem placesL_len : ∀ ds : List D, (placesL ds).length ≤ szL ds
  | [] => Nat.le_refl _
  | d :: ds => by simp only [placesL, szL, List.length_append]; have := places_len d; have := placesL_len ds; omega
end
mutual
theorem places_rank : ∀ d : D, (∀ e ∈ places d, rank e ≤ rank d) ∧ (0 < rank d → ∃ e ∈ places d, rank e = rank d)
  | .tup ds => by simp only [places, rank]; exact placesL_rank ds
  | .atom k ds => by simp [places]
  | .non | .bl _ | .int _ | .str _ | .lst _ | .dct => by simp [places, rank]
theorem placesL_rank : ∀ ds : List D, (∀ e ∈ placesL ds, rank e ≤ rankL ds) ∧ (0 < rankL ds → ∃ e ∈ placesL ds, rank e = rankL ds)
  | [] => by simp [placesL, rankL]
  | d :: ds => by
    obtain ⟨h1, h2⟩ := places_rank d
    obtain ⟨h3, h4⟩ := placesL_rank ds
    simp only [placesL, rankL]
    refine ⟨fun e he => ?_, fun hp => ?_⟩
    · rcases List.mem_append.mp he with he | he
      · have := h1 e he; omega
      · have := h3 e he; omega
    · by_cases c : rankL ds ≤ rank d
      · obtain ⟨e, he, hr⟩ := h2 (by omega)
        exact ⟨e, List.mem_append_left _ he, by omega⟩
      · obtain ⟨e, he, hr⟩ := h4 (by omega)
        exact ⟨e, List.mem_append_right _ he, by omega⟩
end
mutual
theorem places_atom : ∀ (d : D), ∀ e ∈ places d, ∃ k ds, e = .atom k ds
  | .tup ds, e, h => placesL_atom ds e (by simpa [places] using h)
  | .atom k ds, e, h => by simp [places] at h; exact ⟨k, ds, h⟩
  | .non, _, h | .bl _, _, h | .int _, _, h | .str _, _, h | .lst _, _, h | .dct, _, h => by simp [places] at h
theorem placesL_atom : ∀ (ds : List D), ∀ e ∈ placesL ds, ∃ k ds, e = .atom k ds
  | [], _, h => by simp [placesL] at h
  | d :: ds, e, h => by
    simp only [placesL] at h
    rcases List.mem_append.mp h with h | h
    · exact places_atom d e h
    · exact placesL_atom ds e h
end
def spPlaces (C : Addr) : Sp := fun vs H Q _ => ∃ x d, vs = [x] ∧ Is C H x d ∧ Fit d ∧ ∀ H' p xs, Same H H' → H p = none → H' p = some (.lst xs) → IsA C H' xs (places d) → Q (.ref p) H'
/-- a natural number is told -/
def spN (C : Addr) (ok : D → Prop) (f : D → Nat) : Sp := fun vs H Q _ => ∃ x d, vs = [x] ∧ Is C H x d ∧ ok d ∧ ∀ H', Same H H' → Q (.int (f d : Int)) H'
section
variable {P : Program} {w : World} {K : PySem.W.Frag} {mg : Str → Option Value} {base : Heap} {f : Addr} {fd : FuncData} {C : Addr}
abbrev s_is_word : Stmt := top 15
theorem sc_is_word : FnScope ["value"] ["value"] (C8.fnScope s_is_word) := C8.fnScope_by (by decide +kernel)
theorem ok_is_word (F : C8.Def K mg "is_word" s_is_word f fd) (b : Binds K fd ["value"] []) (T : Txt K mg w C) (c__is_within : C8.Cal P w K mg base 2 "_is_within" (spWithin C) []) : C8.Cal P w K mg base 3 "is_word" (spB C Fit (okW 40 40 0)) [] := by
  refine C8.cal0 F b .nil sc_is_word (fun vs H Q E h => ?_) (fun cdv A outer s H vs Q E hr h => ?_)
  · obtain ⟨x, d, rfl, _⟩ := h; rfl
  obtain ⟨x, d, rfl, hx, hz, q⟩ := h
  refine ⟨_, (pss_one (ps_ret (C8.pe_c c__is_within hr (by first | decide | omega) rfl (pa_cons (pv 0) (pa_cons (C8.pe_gc rfl T.c_MOST_DEEP) (pa_cons (C8.pe_gc rfl T.c_MOST_RANK) pa_nil)))))), ?_⟩
  exact ⟨x, rfl, x, d, 40, 40, rfl, hx, hz, q⟩
abbrev s__places_of_atoms : Stmt := top 21
theorem sc__places_of_atoms : FnScope ["value", "found", "todo", "part"] ["value"] (C8.fnScope s__places_of_atoms) := C8.fnScope_by (by decide +kernel)
theorem ok__places_of_atoms (F : C8.Def K mg "_places_of_atoms" s__places_of_atoms f fd) (b : Binds K fd ["value"] []) (T : Txt K mg w C) : C8.Cal P w K mg base 1 "_places_of_atoms" (spPlaces C) [] := by
  refine C8.cal0 F b .nil sc__places_of_atoms (fun vs H Q E h => ?_) (fun cdv A outer s H vs Q E hr h => ?_)
  · obtain ⟨x, d, rfl, _⟩ := h; rfl
  obtain ⟨x, d, rfl, hx, hz, q⟩ := h
  refine ⟨_, (pss_cons (ps_set (i := 1) sc__places_of_atoms.nd rfl (Or.inl rfl) (pe_lst pa_nil))
      (pss_cons (ps_set (i := 2) sc__places_of_atoms.nd rfl (Or.inl rfl) (pe_lst (pa_cons (pv 0) pa_nil)))
      (pss_cons (ps_while PassesOwn.never (pt_truth (pv 2) (fun _ => rfl))
      (pss_cons (ps_set (i := 3) sc__places_of_atoms.nd rfl (Or.inl rfl) (pe_bm0 PySem.F.plainAttrs_list PySem.F.slot_list_pop PySem.F.type_list_pop mt_pop (pv 2)))
      (pss_one (ps_if (pt_cmpR (op_isTyA (C := C)) (pe_callTy (call_typeA (C := C)) rfl T.z_type bt_type (pa_cons (pv 3) pa_nil)) (pe_bltn (v := .ty "tuple") rfl T.z_tuple bt_tuple rfl) (nomark _)) (pss_one (ps_expr (pe_bm PySem.F.plainAttrs_list PySem.F.slot_list_extend PySem.F.type_list_extend mt_extendT (pv 2) (pa_cons (pe_revT (pv 3)) pa_nil)))) (pss_one (ps_if (pt_cmpR (op_isTyA (C := C)) (pe_callTy (call_typeA (C := C)) rfl T.z_type bt_type (pa_cons (pv 3) pa_nil)) (pe_glob (v := .ref C) rfl T.g_Atom rfl) (nomark _)) (pss_one (ps_expr (pe_bm PySem.F.plainAttrs_list PySem.F.slot_list_append PySem.F.type_list_append mt_append (pv 1) (pa_cons (pv 3) pa_nil)))) pss_nil))))))
      (pss_one (ps_ret (pv 1)))))), ?_⟩
  refine ⟨(by show 0 ≤ sizeLine; decide), fun fo hfo => ⟨x, rfl, (by show 1 ≤ sizeLine; decide), fun l hl => ?_⟩⟩
  have s1 := same_new (o := .lst []) hfo
  have s2 := same_new (o := .lst [x]) hl
  have hl0 : H l = none := s1.free hl
  have nfl : fo ≠ l := fun z => by rw [← z, upd_same] at hl; cases hl
  refine ⟨fun m σ' H' => ∃ v3 fs xs es ds, σ' = [some x, some (.ref fo), some (.ref l), v3] ∧ Same H H' ∧ H' fo = some (.lst fs) ∧ H' l = some (.lst xs) ∧ IsA C H fs es ∧ IsA C H xs ds ∧ es ++ placesL ds.reverse = places d ∧ m = szL ds ∧ szL ds ≤ 1000000,
    ⟨_, none, [], [x], [], [d], rfl, s1.trans s2, s2 _ _ upd_same, upd_same, .nil, .cons hx .nil, by simp [placesL], rfl, by simp [szL]; exact hz.1⟩, ?_⟩
  rintro m σ' H' ⟨v3, fs, xs, es, ds, rfl, sm, hf', hl', hfs, hxs, e0, rfl, hm⟩
  refine ⟨_, rfl, _, .inl ⟨xs, SqL.of hl', rfl⟩, ?_⟩
  rcases List.eq_nil_or_concat ds with rfl | ⟨ds', e, rfl⟩
  · cases hxs
    refine iteF ⟨_, rfl, ?_⟩
    simp only [List.reverse_nil, placesL, List.append_nil] at e0
    rw [e0] at hfs
    exact q H' fo fs sm hfo hf' (hfs.same sm)
  obtain ⟨ys, y, rfl, hys, hy⟩ := hxs.concat
  simp only [List.concat_eq_append] at e0 hm ⊢
  refine bT (by simp) ⟨fun σ2 H2 => ∃ m', m' < szL (ds' ++ [e]) ∧ ∃ v3 fs xs es ds, σ2 = [some x, some (.ref fo), some (.ref l), v3] ∧ Same H H2 ∧ H2 fo = some (.lst fs) ∧ H2 l = some (.lst xs) ∧ IsA C H fs es ∧ IsA C H xs ds ∧ es ++ placesL ds.reverse = places d ∧ m' = szL ds ∧ szL ds ≤ 1000000, fun σ2 H2 h => h, ?_⟩
  refine ⟨_, rfl, .inl ⟨rfl, _, SqL.of hl'⟩, l, _, y, rfl, rfl, hl', by simp, ?_⟩
  rw [List.dropLast_concat]
  have sm2 : Same H (upd H' l (.lst ys)) := same_put sm hl0
  have hl2 : (upd H' l (.lst ys)) l = some (.lst ys) := upd_same
  have hf2 : (upd H' l (.lst ys)) fo = some (.lst fs) := by rw [upd_ne nfl]; exact hf'
  generalize upd H' l (.lst ys) = H2 at sm2 hl2 hf2
  rw [List.reverse_append, List.reverse_singleton, List.singleton_append] at e0
  simp only [placesL] at e0
  have hse := sz_pos e
  have hsz : szL (ds' ++ [e]) = szL ds' + sz e := by rw [szL_app]; simp [szL]
  have hdl := len_szL ds'
  have hyl := hys.len
  refine ⟨_, rfl, y, e, rfl, hy.same sm2, kyV_ok e, .inl ⟨_, rfl⟩, _, rfl, ?_⟩
  by_cases ct : kyV C e = .ty "tuple"
  · refine ifT ct ?_
    obtain ⟨gs, rfl⟩ := kyV_tup.mp ct
    cases hy with
    | @tup ta txs _ hta tis =>
      refine ⟨_, rfl, .inl ⟨rfl, _, SqL.of hl2⟩, _, rfl, ta, _, rfl, SqT.of (sm2 _ _ hta), fun r hr' => ?_⟩
      have s3 := same_new (o := .tup txs.reverse) hr'
      have htl := tis.len
      have hgl := len_szL gs
      refine ⟨l, r, ys, _, rfl, rfl, s3 _ _ hl2, upd_same, Nat.le_trans (show ys.length + txs.reverse.length ≤ 1000000 by simp only [sz] at hsz; rw [List.length_reverse]; omega) (by decide), ?_⟩
      refine ⟨szL (ds' ++ gs.reverse), ?_, _, fs, ys ++ txs.reverse, es, ds' ++ gs.reverse, rfl, same_put (sm2.trans s3) hl0, by rw [upd_ne nfl]; exact s3 _ _ hf2, upd_same, hfs, hys.app tis.rev, ?_, rfl, ?_⟩
      · rw [szL_app, szL_rev, hsz]; simp only [sz]; omega
      · rw [List.reverse_append, List.reverse_reverse, placesL_app]; simp only [places] at e0; exact e0
      · rw [szL_app, szL_rev]; simp only [sz] at hsz; omega
  · refine ifF ct ⟨_, rfl, y, e, rfl, hy.same sm2, kyV_ok e, .inr rfl, _, rfl, ?_⟩
    by_cases ca : kyV C e = .ref C
    · refine ifT ca ?_
      obtain ⟨k, gs, rfl⟩ := kyV_atom.mp ca
      have hel : es.length + 1 ≤ 1000000 := by
        have h1 := congrArg List.length e0
        have h2 := places_len d
        have h3 := hz.1
        simp only [List.length_append, places, List.length_singleton] at h1
        omega
      have hfl := hfs.len
      refine ⟨_, rfl, .inl ⟨rfl, _, SqL.of hf2⟩, _, rfl, fo, fs, y, rfl, rfl, hf2, Nat.lt_of_lt_of_le (show fs.length < 1000001 by omega) (by decide), ?_⟩
      refine ⟨szL ds', by omega, _, fs ++ [y], ys, es ++ [.atom k gs], ds', rfl, same_put sm2 hfo, upd_same, by rw [upd_ne nfl.symm]; exact hl2, hfs.app (.cons hy .nil), hys, ?_, rfl, by omega⟩
      simp only [places] at e0
      rw [List.append_assoc]; exact e0
    · refine ifF ca ⟨szL ds', by omega, _, fs, ys, es, ds', rfl, sm2, hf2, hl2, hfs, hys, ?_, rfl, by omega⟩
      have hp : places e = [] := by cases e <;> first | rfl | exact absurd rfl ct | exact absurd rfl ca
      rw [hp] at e0; exact e0
end
end Hc

namespace Hc
open PySem PySem.Spec PyProof.Rows L2 Hr
theorem call_lenS {X : Cx} : CallR X (.builtin "len") (fun xs H Q => ∃ p ys, xs = [.ref p] ∧ (SqL X.K H p ys ∨ SqT X.K H p ys) ∧ Q (.int ys.length) H) := call_len_seq
def spRk (C : Addr) : Sp := fun vs H Q _ => ∃ k t ds, vs = [.str k, .ref t] ∧ Is C H (.ref t) (.tup ds) ∧ Fit (.tup ds) ∧ ∀ H', Same H H' → Q (.int ((rank (.atom k ds) : Nat) : Int)) H'
def mostR (k : Str) : Nat := if k = "token" then 36 else 40
def spMost : Sp := fun vs H Q _ => ∃ k, vs = [.str k] ∧ Q (.int ((mostR k : Nat) : Int)) H
def isS : D → Bool | .str _ => true | _ => false
def isI : D → Bool | .int _ => true | _ => false
def isT : D → Bool | .tup _ => true | _ => false
def hasF (d : D) (z : Str) : Bool :=
  if z = "text" then isS d
  else if z = "number" then isI d
  else if z = "tuple" then isT d
  else if z = "hidden" then (match d with | .non => true | .tup ds => decide (ds.length = 4) | _ => false)
  else if z = "pages" then (match d with | .tup ds => decide (ds.length = 8) | _ => false)
  else true
def spHasF (C : Addr) : Sp := fun vs H Q _ => ∃ x d z, vs = [x, .str z] ∧ Is C H x d ∧ Q (.bl (hasF d z)) H
theorem inV2 (k : Str) : inV (.str k) [.str "seal", .str "page"] = (decide (k = "seal") || decide (k = "page")) := by
  have e : ∀ a b : Str, eqV (.str a) (.str b) = decide (b = a) := fun a b => by
    simp only [eqV]
    by_cases h : a = b
    · subst h; simp
    · simp [h, Ne.symm h, fun z : b = a => h z.symm]
  show ([V.str "seal", .str "page"].any fun y => eqV y (.str k)) = _
  rw [List.any_cons, List.any_cons, e, e]
  simp
section
variable {P : Program} {w : World} {K : PySem.W.Frag} {mg : Str → Option Value} {base : Heap} {f : Addr} {fd : FuncData} {C : Addr}
abbrev s_rank_of : Stmt := top 18
theorem sc_rank_of : FnScope ["word", "atom"] ["word"] (C8.fnScope s_rank_of) := C8.fnScope_by (by decide +kernel)
theorem ok_rank_of (F : C8.Def K mg "rank_of" s_rank_of f fd) (b : Binds K fd ["word"] []) (T : Txt K mg w C) (c__places_of_atoms : C8.Cal P w K mg base 1 "_places_of_atoms" (spPlaces C) []) : C8.Cal P w K mg base 2 "rank_of" (spN C Fit rank) [] := by
  refine C8.cal0 F b .nil sc_rank_of (fun vs H Q E h => ?_) (fun cdv A outer s H vs Q E hr h => ?_)
  · obtain ⟨x, d, rfl, _⟩ := h; rfl
  obtain ⟨x, d, rfl, hx, hz, q⟩ := h
  refine ⟨_, (pss_one (ps_ret (pe_callBK (call_maxDK rfl) rfl T.z_max bt_max (pa_cons (pe_lc (own := [("atom", 1)]) (te := tFld K (tVar 1) "rank") (g := gName 1) rfl sc_rank_of.nd (pi_list (C8.pe_c c__places_of_atoms hr (by first | decide | omega) rfl (pa_cons (pv 0) pa_nil))) (blkOk_by (own := [("atom", 1)]) (N := ["word", "atom"]) (sc := C8.fnScope s_rank_of) (by decide +kernel)) (fun _ _ _ _ _ => (pg_name (i := 1) sc_rank_of.nd rfl (Or.inl rfl))) (fun _ _ _ _ _ => pts_nil) (fun _ _ _ _ _ => (pe_fld (pv 1) rfl))) pa_nil) (pk_cons pe_int pk_nil)))), ?_⟩
  refine ⟨x, rfl, x, d, rfl, hx, hz, fun H1 p xs sm hp hl is => ⟨p, rfl, ⟨xs, SqL.of hl⟩, fun Dl hD => ?_⟩⟩
  have npD : p ≠ Dl := fun z => by rw [z] at hl; rw [hl] at hD; cases hD
  refine lc_list (K := K) (a := p) (xs := xs) (fun i H3 => Same H1 H3 ∧ H3 Dl = some (.lst (((places d).take i).map fun e => V.int ((rank e : Nat) : Int)))) ⟨same_new hD, upd_same⟩ (fun i H3 _ h => SqL.of (h.1 _ _ hl)) ?_ ?_
  · rintro i z H3 hi ⟨s3, hz3⟩
    obtain ⟨e, he, hie⟩ := is.at hi
    obtain ⟨k, gs, rfl⟩ := places_atom d e (List.mem_of_getElem? he)
    refine ⟨rfl, yes ?_⟩
    have hie3 := hie.same s3
    cases hie3 with
    | @atom aa dx at_ _ axs _ h1 h2 h3 =>
      have hlt := (List.getElem?_eq_some_iff.mp he).1
      have hpl := places_len d
      have hzz := hz.1
      refine ⟨_, rfl, aa, C, dx, _, _, rfl, h1, T.cl.cl, T.cl.nR, rfl, _, hz3, Nat.lt_of_lt_of_le (show _ < 1000001 by rw [List.length_map, List.length_take]; omega) (by decide), same_put s3 hD, ?_⟩
      rw [upd_same, List.take_add_one, he, List.map_append]; rfl
  · rintro H3 ⟨s3, hz3⟩
    rw [is.len, List.take_of_length_le (Nat.le_refl _)] at hz3
    refine ⟨Dl, (places d).map fun e => ((rank e : Nat) : Int), 0, rfl, rfl, SqL.of (by rw [List.map_map]; exact hz3), fun m h0 h1 => ?_⟩
    have em : m = ((rank d : Nat) : Int) := by
      obtain ⟨r1, r2⟩ := places_rank d
      by_cases hp0 : places d = []
      · have hr0 : ¬ 0 < rank d := fun z => by
          obtain ⟨e, he, _⟩ := r2 z
          rw [hp0] at he; cases he
        rw [h0 (by rw [hp0]; rfl)]; omega
      · obtain ⟨hm, hall⟩ := h1 (by simpa using hp0)
        obtain ⟨e, he, rfl⟩ := List.mem_map.mp hm
        have h5 := r1 e he
        have hpos : 0 < rank d := by
          obtain ⟨k, gs, rfl⟩ := places_atom d e he
          have : 0 < rank (.atom k gs) := by simp only [rank]; split <;> omega
          omega
        obtain ⟨e2, he2, hr2⟩ := r2 hpos
        have := hall _ (List.mem_map.mpr ⟨e2, he2, rfl⟩)
        omega
    rw [em]
    exact q H3 (sm.trans s3)
abbrev s__rank_of_atom : Stmt := top 26
theorem sc__rank_of_atom : FnScope ["kind", "term"] ["kind", "term"] (C8.fnScope s__rank_of_atom) := C8.fnScope_by (by decide +kernel)
theorem ok__rank_of_atom (F : C8.Def K mg "_rank_of_atom" s__rank_of_atom f fd) (b : Binds K fd ["kind", "term"] []) (T : Txt K mg w C) (c_rank_of : C8.Cal P w K mg base 2 "rank_of" (spN C Fit rank) []) : C8.Cal P w K mg base 3 "_rank_of_atom" (spRk C) [] := by
  refine C8.cal0 F b .nil sc__rank_of_atom (fun vs H Q E h => ?_) (fun cdv A outer s H vs Q E hr h => ?_)
  · obtain ⟨k, t, ds, rfl, _⟩ := h; rfl
  obtain ⟨k, t, ds, rfl, hx, hz, q⟩ := h
  refine ⟨_, (pss_cons (ps_if (pt_cmpR op_in_seq (pv 0) (pe_tup (pa_cons pe_str (pa_cons pe_str pa_nil))) (by with_unfolding_all rfl)) (pss_one (ps_ret pe_int)) pss_nil)
      (pss_one (ps_ret (pe_op op_add (C8.pe_c c_rank_of hr (by first | decide | omega) rfl (pa_cons (pv 1) pa_nil)) pe_int)))), ?_⟩
  refine ⟨_, rfl, (by show 2 ≤ sizeLine; decide), fun u hu => ?_⟩
  have s1 := same_new (o := .tup [.str "seal", .str "page"]) hu
  refine ⟨u, _, rfl, .inr (SqT.of upd_same), rfl, rfl, _, rfl, ?_⟩
  show (if (inV (.str k) [.str "seal", .str "page"]) = true then _ else _)
  rw [inV2]
  by_cases c : k = "seal" ∨ k = "page"
  · have e : rank (.atom k ds) = 1 := by simp only [rank]; rw [if_pos c]
    rw [e] at q
    refine bT (by simpa using c) (q _ s1)
  · have e : rank (.atom k ds) = rankL ds + 1 := by simp only [rank]; rw [if_neg c]
    rw [e] at q
    refine bF (by simpa using c) ⟨_, rfl, _, .tup ds, rfl, hx.same s1, hz, fun H2 s2 => ⟨_, _, rfl, rfl, ?_⟩⟩
    have q2 := q H2 (s1.trans s2)
    have e2 : (((rankL ds + 1 : Nat)) : Int) = ((rank (.tup ds) : Nat) : Int) + 1 := by simp only [rank]; omega
    rw [e2] at q2
    exact q2
abbrev s__most_rank : Stmt := top 27
theorem sc__most_rank : FnScope ["kind"] ["kind"] (C8.fnScope s__most_rank) := C8.fnScope_by (by decide +kernel)
theorem ok__most_rank (F : C8.Def K mg "_most_rank" s__most_rank f fd) (b : Binds K fd ["kind"] []) (T : Txt K mg w C) : C8.Cal P w K mg base 1 "_most_rank" spMost [] := by
  refine C8.cal0 F b .nil sc__most_rank (fun vs H Q E h => ?_) (fun cdv A outer s H vs Q E hr h => ?_)
  · obtain ⟨k, rfl, _⟩ := h; rfl
  obtain ⟨k, rfl, q⟩ := h
  refine ⟨_, (pss_one (ps_ret (pe_ifExp (pt_cmpR op_eq (pv 0) pe_str (nomark _)) (C8.pe_gc rfl T.c_MOST_RANK_HOST) (C8.pe_gc rfl T.c_MOST_RANK)))), ?_⟩
  refine ⟨_, rfl, rfl, _, rfl, ?_⟩
  unfold mostR at q
  by_cases c : k = "token"
  · rw [if_pos c] at q
    exact ifT (congrArg V.str c) q
  · rw [if_neg c] at q
    exact ifF (fun z => c (V.str.inj z)) q
abbrev s_has_form_words : Stmt := top 24
theorem sc_has_form_words : FnScope ["part", "form"] ["part", "form"] (C8.fnScope s_has_form_words) := C8.fnScope_by (by decide +kernel)
theorem ok_has_form_words (F : C8.Fun K "_has_form" "_has_form" s_has_form_words f fd) (hm : mg "has_form_words" = some (.ref f)) (kp : PySem.W.keepIn K (.ref f) = true) (b : Binds K fd ["part", "form"] []) (T : Txt K mg w C) : C8.Cal P w K mg base 1 "has_form_words" (spHasF C) [] := by
  refine calA F hm kp b .nil sc_has_form_words (fun vs H Q E h => ?_) (fun cdv A outer s H vs Q E hr h => ?_)
  · obtain ⟨x, d, z, rfl, _⟩ := h; rfl
  obtain ⟨x, d, z, rfl, hx, q⟩ := h
  refine ⟨_, (pss_cons (ps_if (pt_cmpR op_eq (pv 1) pe_str (nomark _)) (pss_one (ps_ret (pe_cmpR (op_isTyA (C := C)) (pe_callTy (call_typeA (C := C)) rfl T.z_type bt_type (pa_cons (pv 0) pa_nil)) (pe_bltn (v := .ty "str") rfl T.z_str bt_str rfl) (nomark _)))) pss_nil)
      (pss_cons (ps_if (pt_cmpR op_eq (pv 1) pe_str (nomark _)) (pss_one (ps_ret (pe_cmpR (op_isTyA (C := C)) (pe_callTy (call_typeA (C := C)) rfl T.z_type bt_type (pa_cons (pv 0) pa_nil)) (pe_bltn (v := .ty "int") rfl T.z_int bt_int rfl) (nomark _)))) pss_nil)
      (pss_cons (ps_if (pt_cmpR op_eq (pv 1) pe_str (nomark _)) (pss_one (ps_ret (pe_cmpR (op_isTyA (C := C)) (pe_callTy (call_typeA (C := C)) rfl T.z_type bt_type (pa_cons (pv 0) pa_nil)) (pe_bltn (v := .ty "tuple") rfl T.z_tuple bt_tuple rfl) (nomark _)))) pss_nil)
      (pss_cons (ps_if (pt_cmpR op_eq (pv 1) pe_str (nomark _)) (pss_one (ps_ret (pe_or (pe_cmpR op_isN (pv 0) pe_non (nomark _)) (pe_one (pe_and (pe_cmpR (op_isTyA (C := C)) (pe_callTy (call_typeA (C := C)) rfl T.z_type bt_type (pa_cons (pv 0) pa_nil)) (pe_bltn (v := .ty "tuple") rfl T.z_tuple bt_tuple rfl) (nomark _)) (pe_one (pe_cmpR op_eq (pe_callB call_lenS rfl T.z_len bt_len (pa_cons (pv 0) pa_nil)) pe_int (nomark _)))))))) pss_nil)
      (pss_cons (ps_if (pt_cmpR op_eq (pv 1) pe_str (nomark _)) (pss_one (ps_ret (pe_and (pe_cmpR (op_isTyA (C := C)) (pe_callTy (call_typeA (C := C)) rfl T.z_type bt_type (pa_cons (pv 0) pa_nil)) (pe_bltn (v := .ty "tuple") rfl T.z_tuple bt_tuple rfl) (nomark _)) (pe_one (pe_cmpR op_eq (pe_callB call_lenS rfl T.z_len bt_len (pa_cons (pv 0) pa_nil)) pe_int (nomark _)))))) pss_nil)
      (pss_one (ps_ret pe_bl))))))), ?_⟩
  have q := q
  unfold hasF at q
  have kS : decide (kyV C d = .ty "str") = isS d := by cases d <;> simp [kyV, isS]
  have kI : decide (kyV C d = .ty "int") = isI d := by cases d <;> simp [kyV, isI]
  have kT : decide (kyV C d = .ty "tuple") = isT d := by cases d <;> simp [kyV, isT]
  refine ⟨_, rfl, rfl, _, rfl, ?_⟩
  by_cases c1 : z = "text"
  · rw [if_pos c1] at q
    refine ifT (congrArg V.str c1) ⟨x, rfl, x, d, rfl, hx, kyV_ok d, .inl ⟨_, rfl⟩, ?_⟩
    rw [kS]; exact q
  rw [if_neg c1] at q
  refine ifF (fun y => c1 (V.str.inj y)) ⟨_, rfl, rfl, _, rfl, ?_⟩
  by_cases c2 : z = "number"
  · rw [if_pos c2] at q
    refine ifT (congrArg V.str c2) ⟨x, rfl, x, d, rfl, hx, kyV_ok d, .inl ⟨_, rfl⟩, ?_⟩
    rw [kI]; exact q
  rw [if_neg c2] at q
  refine ifF (fun y => c2 (V.str.inj y)) ⟨_, rfl, rfl, _, rfl, ?_⟩
  by_cases c3 : z = "tuple"
  · rw [if_pos c3] at q
    refine ifT (congrArg V.str c3) ⟨x, rfl, x, d, rfl, hx, kyV_ok d, .inl ⟨_, rfl⟩, ?_⟩
    rw [kT]; exact q
  rw [if_neg c3] at q
  refine ifF (fun y => c3 (V.str.inj y)) ⟨_, rfl, rfl, _, rfl, ?_⟩
  by_cases c4 : z = "hidden"
  · rw [if_pos c4] at q
    refine ifT (congrArg V.str c4) ⟨x, rfl, rfl, _, rfl, ?_⟩
    cases hx with
    | non => exact iteT q
    | @tup a xs ds ht ha =>
      have hl := ha.len
      refine iteF ⟨_, rfl, _, .tup ds, rfl, .tup ht ha, kyV_ok _, .inl ⟨_, rfl⟩, _, rfl, ?_⟩
      refine ifT rfl ⟨_, rfl, a, xs, rfl, .inr (SqT.of ht), rfl, ?_⟩
      have e : decide (V.int (xs.length : Int) = V.int 4) = decide (ds.length = 4) := by
        rw [hl]; by_cases c : ds.length = 4
        · rw [c]; rfl
        · rw [decide_eq_false c, decide_eq_false fun y => c (by have := V.int.inj y; omega)]
      rw [e]; exact q
    | bl y => exact iteF ⟨_, rfl, _, .bl y, rfl, .bl y, kyV_ok _, .inl ⟨_, rfl⟩, _, rfl, ifF (by simp [kyV]) q⟩
    | int y => exact iteF ⟨_, rfl, _, .int y, rfl, .int y, kyV_ok _, .inl ⟨_, rfl⟩, _, rfl, ifF (by simp [kyV]) q⟩
    | str y => exact iteF ⟨_, rfl, _, .str y, rfl, .str y, kyV_ok _, .inl ⟨_, rfl⟩, _, rfl, ifF (by simp [kyV]) q⟩
    | lst h1 h2 => exact iteF ⟨_, rfl, _, .lst _, rfl, .lst h1 h2, kyV_ok _, .inl ⟨_, rfl⟩, _, rfl, ifF (by simp [kyV]) q⟩
    | dct h1 => exact iteF ⟨_, rfl, _, .dct, rfl, .dct h1, kyV_ok _, .inl ⟨_, rfl⟩, _, rfl, ifF (by simp [kyV]) q⟩
    | atom h1 h2 h3 => exact iteF ⟨_, rfl, _, .atom _ _, rfl, .atom h1 h2 h3, kyV_ok _, .inl ⟨_, rfl⟩, _, rfl, ifF (by simp [kyV]) q⟩
  rw [if_neg c4] at q
  refine ifF (fun y => c4 (V.str.inj y)) ⟨_, rfl, rfl, _, rfl, ?_⟩
  by_cases c5 : z = "pages"
  · rw [if_pos c5] at q
    refine ifT (congrArg V.str c5) ⟨x, rfl, x, d, rfl, hx, kyV_ok d, .inl ⟨_, rfl⟩, _, rfl, ?_⟩
    by_cases ct : kyV C d = .ty "tuple"
    · obtain ⟨ds, rfl⟩ := kyV_tup.mp ct
      cases hx with
      | @tup a xs _ ht ha =>
        have hl := ha.len
        refine ifT ct ⟨_, rfl, a, xs, rfl, .inr (SqT.of ht), rfl, ?_⟩
        have e : decide (V.int (xs.length : Int) = V.int 8) = decide (ds.length = 8) := by
          rw [hl]; by_cases c : ds.length = 8
          · rw [c]; rfl
          · rw [decide_eq_false c, decide_eq_false fun y => c (by have := V.int.inj y; omega)]
        rw [e]; exact q
    · refine ifF ct ?_
      cases d <;> first | exact q | exact absurd rfl ct
  rw [if_neg c5] at q
  exact ifF (fun y => c5 (V.str.inj y)) q
end
end Hc

namespace Hc
open PySem PySem.Spec PyProof.Rows L2 Hr
theorem walk_zipT {K : PySem.W.Frag} {a b : Addr} {xs ys : List V} {n : Nat} (hn : n = min xs.length ys.length) : Walk (RZ.ItzT K a b) n (fun H => SqT K H a xs ∧ SqT K H b ys) (YPair (fun i => xs[i]?) (fun i => ys[i]?)) := by
  subst hn
  refine ⟨fun i _ hi q => ?_, fun _ q => ⟨xs, ys, q.1, q.2, by omega⟩, fun i H v H' _ q y => ?_⟩
  · have h1 : i < xs.length := by omega
    have h2 : i < ys.length := by omega
    exact ⟨xs, ys, xs[i], ys[i], q.1, q.2, by simp [h1], by simp [h2]⟩
  · obtain ⟨t, x, z, e1, e2, e3, e4, e5⟩ := y
    exact ⟨t, x, z, e1, e2, e3, e4 xs q.1, e5 ys q.2⟩
def formsOf (k : Str) : Option (List Str) :=
  if k = "token" then some ["text", "tuple", "word"]
  else if k = "challenge" then some ["text", "number"]
  else if k = "seal" then some ["text", "number", "number", "hidden"]
  else if k = "page" then some ["text", "number", "number", "hidden"]
  else if k = "ticket" then some ["text", "number", "text", "tuple", "pages", "tuple"]
  else none
def partOk (d : D) (z : Str) : Bool := okW 40 40 0 d && hasF d z
def isTermK (k : Str) (ds : List D) : Bool := match formsOf k with
  | some fs => decide (ds.length = fs.length) && (ds.zip fs).all fun p => partOk p.1 p.2
  | none => false
def isTermD : D → D → Bool
  | .str k, .tup ds => isTermK k ds
  | _, _ => false
def KindOk : D → Prop
  | .str k => k = "token" ∨ k = "challenge" ∨ k = "seal" ∨ k = "page" ∨ k = "ticket" ∨ k = "key"
  | _ => True
theorem forms_at {K : PySem.W.Frag} {mg : Str → Option Value} {w : World} {C : Addr} (T : Txt K mg w C) : ∃ Fo, (∃ u, mg "FORMS_words" = some u ∧ RelV (.ref Fo) u) ∧ (∃ es n, KDict K w Fo es n) ∧
    ∀ k : Str, KindOk (.str k) → (∃ t fs, formsOf k = some fs ∧ KDct K w Fo k (.ref t) ∧ KTup K t fs) ∨ (formsOf k = none ∧ PySem.W.nsIn K Fo k = some none) := by
  obtain ⟨Fo, t1, t2, t3, t4, t5, gF, KD, d1, d2, d3, d4, d5, d6, k1, k2, k3, k4, k5⟩ := T.forms
  refine ⟨Fo, gF, KD, fun k hk => ?_⟩
  rcases hk with rfl | rfl | rfl | rfl | rfl | rfl
  · exact .inl ⟨t1, _, by decide +kernel, d1, k1⟩
  · exact .inl ⟨t2, _, by decide +kernel, d2, k2⟩
  · exact .inl ⟨t3, _, by decide +kernel, d3, k3⟩
  · exact .inl ⟨t4, _, by decide +kernel, d4, k4⟩
  · exact .inl ⟨t5, _, by decide +kernel, d5, k5⟩
  · exact .inr ⟨by decide +kernel, d6⟩
def spTerm (C : Addr) : Sp := fun vs H Q _ => ∃ xk xt dk dt, vs = [xk, xt] ∧ Is C H xk dk ∧ Is C H xt dt ∧ KindOk dk ∧ Fit dt ∧ ∀ H', Same H H' → Q (.bl (isTermD dk dt)) H'
theorem Fit.part {ds : List D} {d : D} (h : Fit (.tup ds)) (hd : d ∈ ds) : Fit d := by
  refine ⟨?_, txlL_mem (by simpa [txl] using h.2) hd⟩
  have h1 := h.1
  simp only [sz] at h1
  have : sz d ≤ szL ds := by
    clear h h1
    induction ds with
    | nil => cases hd
    | cons x r ih =>
      simp only [szL]
      rcases List.mem_cons.mp hd with rfl | hd
      · omega
      · have := ih hd; omega
  omega
def spInit (C : Addr) : Sp := fun vs H Q _ => ∃ p dx k t ds, vs = [.ref p, .str k, .ref t] ∧ H p = some (.ins C dx []) ∧ Is C H (.ref t) (.tup ds) ∧ isTermK k ds = true ∧ rank (.atom k ds) ≤ mostR k ∧ Fit (.tup ds) ∧
  ∀ H', H' p = some (.ins C dx (atF k t (rank (.atom k ds)))) → (∀ b o, H b = some o → b ≠ p → H' b = some o) → Q .non H'
theorem put_at (k : Str) (t : Addr) (r : Nat) : putF "_stripped" .non (putF "rank" (.int (r : Int)) (putF "term" (.ref t) (putF "kind" (.str k) []))) = atF k t r := by
  have n1 : ¬ (("kind" : Str) = "term") := by decide +kernel
  have n2 : ¬ (("kind" : Str) = "rank") := by decide +kernel
  have n3 : ¬ (("term" : Str) = "rank") := by decide +kernel
  have n4 : ¬ (("kind" : Str) = "_stripped") := by decide +kernel
  have n5 : ¬ (("term" : Str) = "_stripped") := by decide +kernel
  have n6 : ¬ (("rank" : Str) = "_stripped") := by decide +kernel
  simp [putF, atF, n1, n2, n3, n4, n5, n6]
theorem term_kind {k : Str} {ds : List D} (h : isTermK k ds = true) : KindOk (.str k) := by
  unfold isTermK formsOf at h
  unfold KindOk
  by_cases c1 : k = "token"
  · exact .inl c1
  by_cases c2 : k = "challenge"
  · exact .inr (.inl c2)
  by_cases c3 : k = "seal"
  · exact .inr (.inr (.inl c3))
  by_cases c4 : k = "page"
  · exact .inr (.inr (.inr (.inl c4)))
  by_cases c5 : k = "ticket"
  · exact .inr (.inr (.inr (.inr (.inl c5))))
  rw [if_neg c1, if_neg c2, if_neg c3, if_neg c4, if_neg c5] at h
  cases h
section
variable {P : Program} {w : World} {K : PySem.W.Frag} {mg : Str → Option Value} {base : Heap} {f : Addr} {fd : FuncData} {C : Addr}
abbrev s__is_term : Stmt := top 23
theorem sc__is_term : FnScope ["kind", "term", "forms", "part", "form"] ["kind", "term"] (C8.fnScope s__is_term) := C8.fnScope_by (by decide +kernel)
theorem ok__is_term (F : C8.Def K mg "_is_term" s__is_term f fd) (b : Binds K fd ["kind", "term"] []) (T : Txt K mg w C) (c_is_word : C8.Cal P w K mg base 3 "is_word" (spB C Fit (okW 40 40 0)) []) (c_has_form_words : C8.Cal P w K mg base 1 "has_form_words" (spHasF C) []) : C8.Cal P w K mg base 4 "_is_term" (spTerm C) [] := by
  refine C8.cal0 F b .nil sc__is_term (fun vs H Q E h => ?_) (fun cdv A outer s H vs Q E hr h => ?_)
  · obtain ⟨xk, xt, dk, dt, rfl, _⟩ := h; rfl
  obtain ⟨xk, xt, dk, dt, rfl, hk, ht, hok, hz, q⟩ := h
  obtain ⟨Fo, gF, ⟨es, n, KD⟩, hf⟩ := forms_at T
  refine ⟨_, (pss_cons (ps_if (PW.pt (pw_or (pt_cmpR (op_isNotTyA (C := C)) (pe_callTy (call_typeA (C := C)) rfl T.z_type bt_type (pa_cons (pv 0) pa_nil)) (pe_bltn (v := .ty "str") rfl T.z_str bt_str rfl) (nomark _)) (pw_or (pt_cmpR (op_notIn_kd KD) (pv 0) (C8.pe_gc rfl gF) (by with_unfolding_all rfl)) (pw_or1 (pt_cmpR (op_isNotTyA (C := C)) (pe_callTy (call_typeA (C := C)) rfl T.z_type bt_type (pa_cons (pv 1) pa_nil)) (pe_bltn (v := .ty "tuple") rfl T.z_tuple bt_tuple rfl) (nomark _)))))) (pss_one (ps_ret pe_bl)) pss_nil)
      (pss_cons (ps_set (i := 2) sc__is_term.nd rfl (Or.inl rfl) (pe_ix ix_kdict (C8.pe_gc rfl gF) (pv 0) (fun _ _ => rfl)))
      (pss_cons (ps_if (pt_cmpR op_ne (pe_callB call_lenS rfl T.z_len bt_len (pa_cons (pv 1) pa_nil)) (pe_callB call_lenS rfl T.z_len bt_len (pa_cons (pv 2) pa_nil)) (nomark _)) (pss_one (ps_ret pe_bl)) pss_nil)
      (pss_one (ps_ret (pe_callB (cr_all rfl) rfl T.z_all bt_all (pa_cons (pe_lc (own := [("part", 3), ("form", 4)]) (g := gTup K 2 (gCons (gName 3) (gCons (gName 4) gNil))) rfl sc__is_term.nd (RZ.pi_zipA rfl T.z_zip (pa_cons (pv 1) (pa_cons (pv 2) pa_nil))) (blkOk_by (own := [("part", 3), ("form", 4)]) (N := ["kind", "term", "forms", "part", "form"]) (sc := C8.fnScope s__is_term) (by decide +kernel)) (fun _ _ _ _ _ => (pg_tup rfl (pgs_cons (pg_name (i := 3) sc__is_term.nd rfl (Or.inl rfl)) (pgs_cons (pg_name (i := 4) sc__is_term.nd rfl (Or.inl rfl)) pgs_nil)))) (fun _ _ _ _ _ => pts_nil) (fun _ _ _ _ _ => (pe_and (C8.pe_c c_is_word hr (by first | decide | omega) rfl (pa_cons (pv 3) pa_nil)) (pe_one (C8.pe_c c_has_form_words hr (by first | decide | omega) rfl (pa_cons (pv 3) (pa_cons (pv 4) pa_nil))))))) pa_nil))))))), ?_⟩
  refine ⟨_, rfl, xk, dk, rfl, hk, kyV_ok dk, .inl ⟨_, rfl⟩, _, rfl, ?_⟩
  by_cases c1 : kyV C dk = .ty "str"
  · obtain ⟨k, rfl⟩ := kyV_str.mp c1
    rw [decide_eq_true c1]
    cases hk
    rcases hf k hok with ⟨tf, fs, e1, kd, kt⟩ | ⟨e1, kn⟩
    · obtain ⟨es', n', u, kl, kk, kn, ru⟩ := id kd
      refine iteF ⟨_, rfl, k, some u, rfl, rfl, kn, _, rfl, iteF ?_⟩
      refine ⟨_, rfl, xt, dt, rfl, ht, kyV_ok dt, .inl ⟨_, rfl⟩, _, rfl, ?_⟩
      by_cases c2 : kyV C dt = .ty "tuple"
      · obtain ⟨ds, rfl⟩ := kyV_tup.mp c2
        rw [decide_eq_true c2]
        cases ht with
        | @tup ta xs _ hta hxs =>
          have hl := hxs.len
          refine iteF ⟨_, rfl, Fo, k, _, rfl, rfl, kd, ?_⟩
          refine ⟨_, rfl, ta, xs, rfl, .inr (SqT.of hta), _, rfl, tf, _, rfl, .inr (kt H), rfl, _, rfl, ?_⟩
          have eT : isTermD (.str k) (.tup ds) = (decide (ds.length = fs.length) && (ds.zip fs).all fun p => partOk p.1 p.2) := by
            simp only [isTermD, isTermK, e1]
          rw [eT] at q
          by_cases c3 : ds.length = fs.length
          · refine bF (by rw [hl, List.length_map, c3]; simp) ?_
            rw [decide_eq_true c3, Bool.true_and] at q
            refine ⟨_, rfl, _, rfl, ta, tf, xs, fs.map V.str, rfl, .inr ⟨SqT.of hta, kt H, fun Dl hD => ?_⟩⟩
            have hmin : ds.length = min xs.length (fs.map V.str).length := by rw [hl, List.length_map]; omega
            refine lc_it (walk_zipT (K := K) (a := ta) (b := tf) (xs := xs) (ys := fs.map V.str) hmin) (fun i H3 => Same H H3 ∧ H3 Dl = some (.lst (((ds.zip fs).take i).map fun p => V.bl (partOk p.1 p.2)))) ⟨same_new hD, upd_same⟩ (fun i H3 _ h => ⟨SqT.of (h.1 _ _ hta), kt H3⟩) ?_ ?_
            · rintro i v H3 H4 hi ⟨s3, hz3⟩ ⟨t, x, y, rfl, nt, rfl, ex, ey⟩
              have ex : xs[i]? = some x := ex
              obtain ⟨d, hd, hx⟩ := hxs.at ex
              obtain ⟨z, hz2, rfl⟩ : ∃ z, fs[i]? = some z ∧ y = V.str z := by
                have ey : (fs.map V.str)[i]? = some y := ey
                rw [List.getElem?_map] at ey
                cases h : fs[i]? with
                | none => rw [h] at ey; cases ey
                | some z => rw [h] at ey; exact ⟨z, rfl, (Option.some.inj ey).symm⟩
              have s4 := same_new (o := .tup [x, .str z]) nt
              refine ⟨t, [x, .str z], rfl, SqT.of upd_same, rfl, x, [.str z], rfl, .str z, [], rfl, rfl, rfl, yes ?_⟩
              refine ⟨_, rfl, x, d, rfl, hx.same (s3.trans s4), hz.part (List.mem_of_getElem? hd), fun H5 s5 => ⟨_, rfl, ?_⟩⟩
              have hpz : (ds.zip fs)[i]? = some (d, z) := by rw [List.getElem?_zip_eq_some]; exact ⟨hd, hz2⟩
              have s35 := (s3.trans s4).trans s5
              have hz5 := s5 _ _ (s4 _ _ hz3)
              have fin : ∀ r, r = partOk d z → ∃ acc, H5 Dl = some (.lst acc) ∧ acc.length < sizeLine ∧ Same H (upd H5 Dl (.lst (acc ++ [.bl r]))) ∧ (upd H5 Dl (.lst (acc ++ [.bl r]))) Dl = some (.lst (((ds.zip fs).take (i + 1)).map fun p => V.bl (partOk p.1 p.2))) := fun r er => by
                subst er
                refine ⟨_, hz5, Nat.lt_of_lt_of_le (show _ < 1000001 by rw [List.length_map, List.length_take]; have := hz.1; have := len_szL ds; simp only [sz] at *; omega) (by decide), same_put s35 hD, ?_⟩
                rw [upd_same, List.take_add_one, hpz, List.map_append]; rfl
              cases ho : okW 40 40 0 d with
              | true => exact iteT ⟨_, rfl, _, rfl, x, d, z, rfl, hx.same s35, fin _ (by simp [partOk, ho])⟩
              | false => exact iteF (fin _ (by simp [partOk, ho]))
            · rintro H3 ⟨s3, hz3⟩
              have hzl : (ds.zip fs).length = ds.length := by rw [List.length_zip]; omega
              rw [List.take_of_length_le (by omega)] at hz3
              refine ⟨Dl, (ds.zip fs).map fun p => partOk p.1 p.2, rfl, SqL.of (by rw [List.map_map]; exact hz3), ?_⟩
              have e9 : ((ds.zip fs).map fun p => partOk p.1 p.2).all id = (ds.zip fs).all fun p => partOk p.1 p.2 := by rw [List.all_map]; rfl
              rw [e9]
              exact q H3 s3
          · refine bT (by rw [hl, List.length_map, decide_eq_false (fun z => c3 (by have := V.int.inj z; omega))]; rfl) ?_
            rw [decide_eq_false c3, Bool.false_and] at q
            exact q H (Same.refl H)
      · rw [decide_eq_false c2]
        have e : isTermD (.str k) dt = false := by cases dt <;> first | rfl | exact absurd rfl c2
        rw [e] at q
        exact iteT (q H (Same.refl H))
    · refine iteF ⟨_, rfl, k, none, rfl, rfl, kn, _, rfl, iteT ?_⟩
      have e : isTermD (.str k) dt = false := by cases dt <;> simp [isTermD, isTermK, e1]
      rw [e] at q
      exact q H (Same.refl H)
  · rw [decide_eq_false c1]
    have e : isTermD dk dt = false := by cases dk <;> first | rfl | exact absurd rfl c1
    rw [e] at q
    exact iteT (q H (Same.refl H))
abbrev s_Atom___init__ : Stmt := L2.inClass (top 19) 0
theorem sc_Atom___init__ : FnScope ["self", "kind", "term", "rank"] ["self", "kind", "term"] (C8.fnScope s_Atom___init__) := C8.fnScope_by (by decide +kernel)
theorem ok_init {fI : Addr} {fdI : FuncData} (M : Mk K C fI) (hm : mg "Atom" = some (.ref C)) (F : C8.Fun K "__init__" "Atom.__init__" s_Atom___init__ fI fdI) (b : Binds K fdI ["self", "kind", "term"] []) (T : Txt K mg w C)
    (c__is_term : C8.Cal P w K mg base 4 "_is_term" (spTerm C) []) (c__rank_of_atom : C8.Cal P w K mg base 3 "_rank_of_atom" (spRk C) []) (c__most_rank : C8.Cal P w K mg base 1 "_most_rank" spMost []) : C8.Mak P w K mg base 5 "Atom" C (spInit C) [] := by
  refine C8.mak0 M hm F b .nil sc_Atom___init__ (fun vs H Q E h => ?_) (fun cdv A outer s H vs Q E hr h => ?_)
  · obtain ⟨p, dx, k, t, ds, rfl, _⟩ := h; rfl
  obtain ⟨p, dx, k, t, ds, rfl, hp, hx, ht, hrk, hz, q⟩ := h
  refine ⟨_, (pss_cons (ps_if (pt_not (pt_val (C8.pe_c c__is_term hr (by first | decide | omega) rfl (pa_cons (pv 1) (pa_cons (pv 2) pa_nil))))) (pss_one ps_never) pss_nil)
      (pss_cons (ps_set (i := 3) sc_Atom___init__.nd rfl (Or.inl rfl) (C8.pe_c c__rank_of_atom hr (by first | decide | omega) rfl (pa_cons (pv 1) (pa_cons (pv 2) pa_nil))))
      (pss_cons (ps_if (pt_cmpR op_gt (pv 3) (C8.pe_c c__most_rank hr (by first | decide | omega) rfl (pa_cons (pv 1) pa_nil)) (nomark _)) (pss_one ps_never) pss_nil)
      (pss_cons (ps_fld (pv 0) (pv 1) rfl)
      (pss_cons (ps_fld (pv 0) (pv 2) rfl)
      (pss_cons (ps_fld (pv 0) (pv 3) rfl)
      (pss_one (ps_fld (pv 0) pe_non rfl)))))))), ?_⟩
  refine ⟨_, rfl, _, rfl, _, _, .str k, .tup ds, rfl, .str k, hx, term_kind ht, hz, fun H1 s1 => ⟨_, rfl, ?_⟩⟩
  refine bF (by simp only [isTermD, ht]; rfl) ?_
  refine ⟨_, rfl, _, rfl, k, t, ds, rfl, hx.same s1, hz, fun H2 s2 => ?_⟩
  refine ⟨_, rfl, _, rfl, k, rfl, _, _, rfl, rfl, _, rfl, ?_⟩
  refine ifF (by omega) ?_
  have hp2 := s2 _ _ (s1 _ _ hp)
  refine ⟨_, rfl, _, rfl, p, C, dx, [], rfl, hp2, T.cl.cl, T.cl.nK, (by show 0 < 1000; decide), ?_⟩
  refine ⟨_, rfl, _, rfl, p, C, dx, _, rfl, upd_same, T.cl.cl, T.cl.nT, (by show 1 < 1000; decide), ?_⟩
  refine ⟨_, rfl, _, rfl, p, C, dx, _, rfl, upd_same, T.cl.cl, T.cl.nR, (by show 2 < 1000; decide), ?_⟩
  refine ⟨_, rfl, p, C, dx, _, rfl, upd_same, T.cl.cl, T.cl.nS, (by show 3 < 1000; decide), ?_⟩
  refine q _ (Eq.trans upd_same (congrArg (fun l => some (HO.ins C dx l)) (put_at k t _))) fun c o e n => ?_
  rw [upd_ne n, upd_ne n, upd_ne n, upd_ne n]
  exact s2 _ _ (s1 _ _ e)
end
end Hc

/-! == and != of an instance with an own == and something of another kind. -/
namespace Hr
open PySem PySem.Spec PyProof.Rows PySem.SeqAt
/-- what is asked of the class at C beside its own == -/
structure Oth (K : PySem.W.Frag) (C : Addr) : Prop where
  mo : PySem.W.mroIn K C (.type "object") = some true
  nn : PySem.W.findIn K (.ref C) "__ne__" = some (some (.builtin "object.__ne__"))
  sN : PySem.W.subIn K (.ref C) (.type "NoneType") = some false
  sI : PySem.W.subIn K (.ref C) (.type "int") = some false
  sS : PySem.W.subIn K (.ref C) (.type "str") = some false
  sT : PySem.W.subIn K (.ref C) (.type "tuple") = some false
theorem sub_bi {K : PySem.W.Frag} {C : Addr} {n : String} (h : n = "NoneType" ∨ n = "int" ∨ n = "str" ∨ n = "tuple") : PySem.W.subIn K (.type n) (.ref C) = some false := by
  rcases h with rfl | rfl | rfl | rfl
  · have e : fastBuiltinMro "NoneType" = some [.type "NoneType", .type "object"] := by decide +kernel
    show (fastBuiltinMro "NoneType").map (·.contains (.ref C)) = some false
    rw [e]; first | rfl | simp
  · have e : fastBuiltinMro "int" = some [.type "int", .type "object"] := by decide +kernel
    show (fastBuiltinMro "int").map (·.contains (.ref C)) = some false
    rw [e]; first | rfl | simp
  · have e : fastBuiltinMro "str" = some [.type "str", .type "object"] := by decide +kernel
    show (fastBuiltinMro "str").map (·.contains (.ref C)) = some false
    rw [e]; first | rfl | simp
  · have e : fastBuiltinMro "tuple" = some [.type "tuple", .type "object"] := by decide +kernel
    show (fastBuiltinMro "tuple").map (·.contains (.ref C)) = some false
    rw [e]; first | rfl | simp
section
variable {prog : Program} {w : World} {A : Around} {E : Value → Shared → Prop} {s : Shared} {K : PySem.W.Frag} {x C : Addr} {ox : Obj} {od : Option Obj} {b : Value}
theorem ne_entry {M : Model} {Q : Fin → Shared → Prop} (hu : A.units < cLine) (h : wpAny M A (callSpecialIfBound? (.ref x) (Str.ofString "__eq__") [b]) (fun r s' => ∃ v, r = some (.bool v) ∧ Q (.done (.ret (.bool (!v)))) s') E s) :
    wpAny M A (Builtin.«object.__ne__» ⟨[.ref x, b], []⟩) Q E s := by
  unfold Builtin.«object.__ne__»
  repeat (first
    | with_reducible refine wpAny_cRoomFor hu ?_
    | (refine wpAny_bind (m := callSpecialIfBound? (.ref x) (Str.ofString "__eq__") [b]) (wpAny_mono h (fun r s' hr => by
          obtain ⟨v, rfl, hq⟩ := hr
          repeat (first | exact hq | exact wpAny_pure hq | exact wpAny_truthy_bool hq | (refine wpAny_bind (m := truthy (.bool _)) (wpAny_truthy_bool ?_)) | wp_step)) fun _ _ e => e))
    | wp_step)
theorem ifBound_objNe {M : Model} {args : List Value} {Q : Option Value → Shared → Prop} (X : K.In s.heap) (I : PySem.W.InstAt s.heap x ox C od) (hs : PySem.W.findIn K (.ref C) "__ne__" = some (some (.builtin "object.__ne__")))
    (h : wpAny M A (call (.builtin "object.__ne__") (.ref x :: args)) (fun v => Q (some v)) E s) : wpAny M A (callSpecialIfBound? (.ref x) "__ne__" args) Q E s := by
  simp only [callSpecialIfBound?, bindSpecialIfBound?]
  refine wpAny_holding (wpAny_bind (wpAny_bind (wpAny_bind (I.type.here ((PySem.W.looks_findIn X hs).here ?_)))))
  refine wpAny_bind (wpAny_askSetting (wpAny_ite ?_))
  have last : wpAny M A (call (.builtin "object.__ne__") ([.ref x] ++ args) >>= fun v => pure (some v)) Q E s := wpAny_bind (wpAny_mono h (fun v s' g => wpAny_pure g) fun _ _ g => g)
  split
  · exact wpAny_bind (wpAny_of_eq (F.cmp_object.ne.bind _) (wpAny_pure (by exact last)))
  · exact wpAny_tryCatch (wpAny_bind (wpAny_of_eq (F.cmp_object.ne.bind _) (wpAny_pure (by exact last))))
/-- the own == is asked of the instance at x, it says v -/
def Own (prog : Program) (w : World) (A : Around) (E : Value → Shared → Prop) (x : Addr) (b : Value) (v : Bool) (J : Shared → Prop) (s : Shared) : Prop :=
  wpAny (model prog w) A (callSpecialIfBound? (.ref x) (Str.ofString "__eq__") [b]) (fun r s' => r = some (.bool v) ∧ J s') E s
theorem call_objNe {v : Bool} {J : Shared → Prop} {Q : Value → Shared → Prop} (hu : A.units < cLine) (X : K.In s.heap) (I : PySem.W.InstAt s.heap x ox C od) (hm : PySem.W.mroIn K C (.type "object") = some true)
    (h : Own prog w A.in1 E x b v J s) (q : ∀ s', J s' → Q (.bool (!v)) s') (hu1 : A.in1.units < cLine) : wpAny (model prog w) A (call (.builtin "object.__ne__") [.ref x, b]) Q E s :=
  wpAny_call (codeAny_call_builtin F.cmp_object.ne.plain F.cmpEntry_ne (PySem.W.check_slot F.cmpKind_ne F.cmpSplit_ne (I.type.andThen (PySem.W.looks_mroIn X hm)) (F.cmpArgs_ne _ _)
    (ne_entry hu1 (wpAny_mono h (fun r s' z => ⟨v, z.1, q s' z.2⟩) fun _ _ z => z))))
theorem try_eq {v : Bool} {J : Shared → Prop} (h : Own prog w A E x b v J s) : wpAny (model prog w) A (tryCompare (.ref x) "__eq__" b) (fun r s' => r = some (.bool v) ∧ J s') E s := by
  unfold tryCompare
  refine wpAny_bind (wpAny_mono h (fun r s' z => ?_) fun _ _ z => z)
  obtain ⟨rfl, j⟩ := z
  exact wpAny_pure ⟨rfl, j⟩
theorem try_ne {v : Bool} {J : Shared → Prop} (hu : A.units < cLine) (hu1 : A.in1.units < cLine) (X : K.In s.heap) (I : PySem.W.InstAt s.heap x ox C od) (o : Oth K C)
    (h : Own prog w A.in1 E x b v J s) : wpAny (model prog w) A (tryCompare (.ref x) "__ne__" b) (fun r s' => r = some (.bool (!v)) ∧ J s') E s := by
  unfold tryCompare
  refine wpAny_bind (ifBound_objNe X I o.nn (call_objNe hu X I o.mo h (fun s' j => ?_) hu1))
  exact wpAny_pure ⟨rfl, j⟩
/-- instance == something of a built-in type -/
theorem rc_left {T : String} {op : CmpOp} {v : Bool} {J : Shared → Prop} {Q : Value → Shared → Prop} (hu : A.units < cLine) (X : K.In s.heap) (I : PySem.W.InstAt s.heap x ox C od) (hb : s.TypeIs b T) (hT : T = "NoneType" ∨ T = "int" ∨ T = "str" ∨ T = "tuple")
    (h : wpAny (model prog w) A (tryCompare (.ref x) (cmpInfo op).2.1 b) (fun r s' => r = some (.bool v) ∧ J s') E s) (q : ∀ s', J s' → Q (.bool v) s') : wpAny (model prog w) A (richCompare op (.ref x) b) Q E s := by
  unfold richCompare
  simp only [oneThing_ref]
  refine wpAny_holding (wpAny_bind (wpAny_cRoomFor hu ?_))
  refine wpAny_bind (I.type.here (wpAny_bind (wpAny_typeOf hb ?_)))
  split
  · refine wpAny_bind ((PySem.W.looks_subIn X (sub_bi hT)).here ?_)
    simp only [Bool.false_eq_true, if_false]
    refine wpAny_bind (wpAny_mono h (fun r s' z => ?_) fun _ _ z => z)
    obtain ⟨rfl, j⟩ := z
    exact wpAny_pure (q s' j)
  · rename_i z
    exact absurd (by simp) z
/-- something of a built-in type == instance: the built-in one declines -/
theorem rc_right {T id : String} {op : CmpOp} {v : Bool} {J : Shared → Prop} {Q : Value → Shared → Prop} (hu : A.units < cLine) (X : K.In s.heap) (I : PySem.W.InstAt s.heap x ox C od) (hb : s.TypeIs b T)
    (hsub : PySem.W.subIn K (.ref C) (.type T) = some false) (hone : oneThing? op b (.ref x) = none) (sl : Slot T (cmpInfo op).2.1 id)
    (dec : wpAny (model prog w) A (call (.builtin id) [b, .ref x]) (fun v s' => v = .notImplemented ∧ s' = s) E s)
    (h : wpAny (model prog w) A (tryCompare (.ref x) (cmpInfo op).2.2 b) (fun r s' => r = some (.bool v) ∧ J s') E s) (q : ∀ s', J s' → Q (.bool v) s') : wpAny (model prog w) A (richCompare op b (.ref x)) Q E s := by
  have two : wpAny (model prog w) A (tryCompare b (cmpInfo op).2.1 (.ref x)) (fun r s' => r = none ∧ s' = s) E s :=
    wpAny_tryCompare_declines hb sl (wpAny_mono dec (fun v s' z => ⟨z.1, rfl, z.2⟩) fun _ _ z => z)
  unfold richCompare
  simp only [hone]
  refine wpAny_holding (wpAny_bind (wpAny_cRoomFor hu ?_))
  refine wpAny_bind (wpAny_typeOf hb (wpAny_bind (I.type.here ?_)))
  split
  · refine wpAny_bind ((PySem.W.looks_subIn X hsub).here ?_)
    simp only [Bool.false_eq_true, if_false, Bool.not_false, if_true]
    refine wpAny_bind (m := tryCompare b _ (.ref x)) (wpAny_mono two (fun r s1 z => ?_) fun _ _ z => z)
    obtain ⟨z1, z2⟩ := z
    subst z1
    subst z2
    refine wpAny_bind (m := tryCompare (.ref x) _ b) (wpAny_mono h (fun r s2 z => ?_) fun _ _ z => z)
    obtain ⟨rfl, j⟩ := z
    exact wpAny_pure (q s2 j)
  · rename_i z
    exact absurd (by simp) z
end
end Hr

namespace Hr
open PySem PySem.Spec PyProof.Rows PySem.SeqAt
open AutoSeq1 (wpAny_loadPart')
open MeetsSeq MeetsSeq2 MeetsSeq3 SeqRoads2
theorem int_eq_inst (b : Int) (u : Tok) (l C : Addr) (dx : Addr) : Meets (Builtin.«int.__eq__» ⟨[.int b u, .ref l], []⟩) (fun _ R s => s.heap.get? l = some { cls := .ref C, dict := some dx, data := .plain } ∧ R (.ok (.ret .notImplemented)) s) :=
  .of_wp fun prog w A R s h => by
    obtain ⟨hp, g, d, tk, os⟩ := s; obtain ⟨hl, h⟩ := h
    wp_walk using wpAny_loadPart' hl, wpAny_load hl
    exact ⟨_, rfl, h⟩
theorem int_ne_inst (b : Int) (u : Tok) (l C : Addr) (dx : Addr) : Meets (Builtin.«int.__ne__» ⟨[.int b u, .ref l], []⟩) (fun _ R s => s.heap.get? l = some { cls := .ref C, dict := some dx, data := .plain } ∧ R (.ok (.ret .notImplemented)) s) :=
  .of_wp fun prog w A R s h => by
    obtain ⟨hp, g, d, tk, os⟩ := s; obtain ⟨hl, h⟩ := h
    wp_walk using wpAny_loadPart' hl, wpAny_load hl
    exact ⟨_, rfl, h⟩
theorem str_eq_inst (b : Str) (u : Tok) (l C : Addr) (dx : Addr) : Meets (Builtin.«str.__eq__» ⟨[.str b u, .ref l], []⟩) (fun _ R s => s.heap.get? l = some { cls := .ref C, dict := some dx, data := .plain } ∧ R (.ok (.ret .notImplemented)) s) :=
  .of_wp fun prog w A R s h => by
    obtain ⟨hp, g, d, tk, os⟩ := s; obtain ⟨hl, h⟩ := h
    wp_walk using wpAny_loadPart' hl, wpAny_load hl
    exact ⟨_, rfl, h⟩
theorem str_ne_inst (b : Str) (u : Tok) (l C : Addr) (dx : Addr) : Meets (Builtin.«str.__ne__» ⟨[.str b u, .ref l], []⟩) (fun _ R s => s.heap.get? l = some { cls := .ref C, dict := some dx, data := .plain } ∧ R (.ok (.ret .notImplemented)) s) :=
  .of_wp fun prog w A R s h => by
    obtain ⟨hp, g, d, tk, os⟩ := s; obtain ⟨hl, h⟩ := h
    wp_walk using wpAny_loadPart' hl, wpAny_load hl
    exact ⟨_, rfl, h⟩
section
variable {prog : Program} {w : World} {A : Around} {E : Value → Shared → Prop} {s : Shared} {R : Result → Shared → Prop}
theorem tup_eq_inst {l x C dx : Addr} {items : Array Value} {n : Nat} {dd : Option Addr} {sl : Array (Option Value)} (hI : PySem.W.Looks (model prog w) s.heap (isSubtype (.ref C) (.type "tuple")) false) (hx : s.heap.get? x = some { cls := .ref C, dict := some dx, data := .plain })
    (hl : s.heap.get? l = some { cls := .type "tuple", dict := dd, data := .seq items n, slots := sl }) (h : R (.ok (.ret .notImplemented)) s) : wpAny (model prog w) A.in1 (Builtin.«tuple.__eq__» ⟨[.ref l, .ref x], []⟩) (GQ.FinOf prog w A R) (fun e s' => R (.error e) s') s := by
  obtain ⟨hp, g, d, tk, os⟩ := s
  wp_walk using wpAny_loadPart' hl, wpAny_loadPart' hx, hI.here
  exact h
theorem tup_ne_inst {l x C dx : Addr} {items : Array Value} {n : Nat} {dd : Option Addr} {sl : Array (Option Value)} (hI : PySem.W.Looks (model prog w) s.heap (isSubtype (.ref C) (.type "tuple")) false) (hx : s.heap.get? x = some { cls := .ref C, dict := some dx, data := .plain })
    (hl : s.heap.get? l = some { cls := .type "tuple", dict := dd, data := .seq items n, slots := sl }) (h : R (.ok (.ret .notImplemented)) s) : wpAny (model prog w) A.in1 (Builtin.«tuple.__ne__» ⟨[.ref l, .ref x], []⟩) (GQ.FinOf prog w A R) (fun e s' => R (.error e) s') s := by
  obtain ⟨hp, g, d, tk, os⟩ := s
  wp_walk using wpAny_loadPart' hl, wpAny_loadPart' hx, hI.here
  exact h
end
end Hr

/-! == of tuples whose items' == may run code, and may give False. -/
namespace Hr
open PySem PySem.Spec PyProof.Rows PySem.SeqAt
open AutoSeq1 (wpAny_loadPart')
open MeetsSeq MeetsSeq2 MeetsSeq3 SeqRoads2
section
variable {prog : Program} {w : World} {A : Around} {R : Result → Shared → Prop}
/-- all the pairs are equal, and there are as many -/
def allP (bs : Nat → Bool) (m n : Nat) : Bool := (List.range (min m n)).all bs && (m == n)
theorem allP_no {bs : Nat → Bool} {m n i : Nat} (hi : i < min m n) (h : bs i = false) : allP bs m n = false := by
  unfold allP
  have : (List.range (min m n)).all bs = false := by
    rw [List.all_eq_false]
    exact ⟨i, List.mem_range.mpr hi, by rw [h]; exact Bool.false_ne_true⟩
  rw [this]; rfl
theorem allP_yes {bs : Nat → Bool} {m n : Nat} (h : ∀ j, j < min m n → bs j = true) : allP bs m n = (m == n) := by
  unfold allP
  rw [List.all_eq_true.mpr fun j hj => h j (List.mem_range.mp hj)]; rfl
theorem tup_eqB {l b : Addr} {items items2 : Array Value} {n n2 : Nat} {dd dd2 : Option Addr} {sl sl2 : Array (Option Value)} {bs : Nat → Bool} {J : Shared → Prop}
    (turn : ∀ i (h1 : i < items.size) (h2 : i < items2.size) s, J s → wpAny (model prog w) A.in1 (eqBool items[i] items2[i]) (fun r s' => r = bs i ∧ J s') (fun e s' => R (.error e) s') s)
    (fin : ∀ s, J s → R (.ok (.ret (.bool (allP bs items.size items2.size)))) s) {s : Shared} (hl1 : s.heap.get? l = some { cls := .type "tuple", dict := dd, data := .seq items n, slots := sl }) (hb1 : s.heap.get? b = some { cls := .type "tuple", dict := dd2, data := .seq items2 n2, slots := sl2 }) (h : J s) :
    wpAny (model prog w) A.in1 (Builtin.«tuple.__eq__» ⟨[.ref l, .ref b], []⟩) (GQ.FinOf prog w A R) (fun e s' => R (.error e) s') s := by
  have f2 := AutoSeq1.sub_tuple_tuple
  have hZ : (items.toList.zip items2.toList).length = min items.size items2.size := by simp
  have h0 := h
  obtain ⟨hp, g, d, tk, os⟩ := s
  wp_walk using wpAny_loadPart' hl1, wpAny_loadPart' hb1, wpAny_forIn_list _ (fun rest b s' => b.1 = none ∧ ∃ i, rest = (items.toList.zip items2.toList).drop i ∧ i ≤ min items.size items2.size ∧ (∀ j, j < i → bs j = true) ∧ J s') _
  case turn =>
    rintro ⟨y, x⟩ rest b s' ⟨hb', i, hz, hi, hbs, hI⟩
    have hlt : i < (items.toList.zip items2.toList).length := by
      rcases Nat.lt_or_ge i (items.toList.zip items2.toList).length with h' | h'
      · exact h'
      · rw [List.drop_of_length_le h'] at hz; cases hz
    have hm : i < min items.size items2.size := hZ ▸ hlt
    have h1 : i < items.size := Nat.lt_of_lt_of_le hm (Nat.min_le_left _ _)
    have h2 : i < items2.size := Nat.lt_of_lt_of_le hm (Nat.min_le_right _ _)
    rw [List.drop_eq_getElem_cons hlt] at hz
    injection hz with hyx hrest
    have hy : y = items[i] := by have := congrArg Prod.fst hyx; simpa using this
    have hx : x = items2[i] := by have := congrArg Prod.snd hyx; simpa using this
    subst hy hx
    refine wpAny_bind (wpAny_mono (turn i h1 h2 s' hI) (fun r s2 q2 => ?_) fun _ _ x => x)
    obtain ⟨hr, q2⟩ := q2
    subst hr
    cases hbi : bs i with
    | true =>
      wp_walk
      exact ⟨rfl, i + 1, hrest, hm, fun j hj => by
        rcases Nat.lt_succ_iff_lt_or_eq.mp hj with h | rfl
        · exact hbs j h
        · exact hbi, q2⟩
    | false =>
      have hR := fin s2 q2
      rw [allP_no hm hbi] at hR
      wp_walk
      exact hR
  case fin =>
    rintro ⟨b1, b2⟩ s' ⟨hb', i, hz, hi, hbs, hI⟩
    simp only at hb'
    subst hb'
    have hge : min items.size items2.size ≤ i := by
      rcases Nat.lt_or_ge i (items.toList.zip items2.toList).length with h' | h'
      · rw [List.drop_eq_getElem_cons h'] at hz; cases hz
      · exact hZ ▸ h'
    have hR := fin s' hI
    rw [allP_yes fun j hj => hbs j (by omega)] at hR
    wp_walk
    simpa [Builtin.Tuple.tupleCompareSizes] using hR
  case h =>
    exact ⟨rfl, 0, rfl, Nat.zero_le _, fun j hj => absurd hj (Nat.not_lt_zero _), h0⟩
end
end Hr

namespace Hc
open PySem PySem.Spec PyProof.Rows L2 Hr PySem.SeqAt
mutual
def eqD : D → D → Bool
  | .tup a, .tup b => eqL a b
  | .atom k a, .atom k' b => decide (k = k') && eqL a b
  | .non, .non => true
  | .int i, .int j => decide (i = j)
  | .str x, .str y => decide (x = y)
  | _, _ => false
def eqL : List D → List D → Bool
  | [], [] => true
  | x :: a, y :: b => eqD x y && eqL a b
  | _, _ => false
end
mutual
/-- a word, whatever its depth -/
def wrd : D → Bool
  | .tup ds => wrdL ds
  | .atom k ds => wrdL ds && isTermK k ds
  | .non => true
  | .int _ => true
  | .str _ => true
  | _ => false
def wrdL : List D → Bool
  | [] => true
  | d :: ds => wrd d && wrdL ds
end
theorem eqL_app : ∀ {a b x y : List D}, a.length = b.length → eqL (a ++ x) (b ++ y) = (eqL a b && eqL x y)
  | [], [], x, y, _ => by simp [eqL]
  | p :: a, q :: b, x, y, h => by
    rw [List.cons_append, List.cons_append]
    simp only [eqL]
    rw [eqL_app (by simpa using h), Bool.and_assoc]
  | [], _ :: _, _, _, h => by simp at h
  | _ :: _, [], _, _, h => by simp at h
theorem eqL_len : ∀ {a b : List D}, a.length ≠ b.length → eqL a b = false
  | [], [], h => absurd rfl h
  | p :: a, q :: b, h => by
    simp only [eqL]
    rw [eqL_len (fun z => h (by simp [z])), Bool.and_false]
  | [], _ :: _, _ => rfl
  | _ :: _, [], _ => rfl
theorem wrdL_app : ∀ (a b : List D), wrdL (a ++ b) = (wrdL a && wrdL b)
  | [], b => by simp [wrdL]
  | x :: a, b => by rw [List.cons_append]; simp only [wrdL]; rw [wrdL_app a b, Bool.and_assoc]
def isAt : D → Bool | .atom _ _ => true | _ => false
def isTu : D → Bool | .tup _ => true | _ => false
/-- what the loop keeps -/
def LoopS (X : Cx) (pins : List (Addr × Obj)) (σ : L2.St) (H : Hp) (s' : Shared) : Prop := ∃ H', Inv X pins σ H' s' ∧ Same H H'
/-- an atom == something that is none -/
def spEqN (C : Addr) : Sp := fun vs H Q _ => ∃ x y d e, vs = [x, y] ∧ Is C H x d ∧ Is C H y e ∧ isAt d = true ∧ isAt e = false ∧ ∀ H', Same H H' → Q (.bl false) H'
structure OwnS (P : Program) (w : World) (K : PySem.W.Frag) (mg : Str → Option Value) (base : Heap) (n : Nat) (C : Addr) (sp : Sp) : Prop where
  ex : ∃ (f : Addr) (fd : FuncData) (ps : List Str), FnOk P w K mg base C8.CX0 n f fd ps sp ∧ PySem.W.findIn K (.ref C) "__eq__" = some (some (.ref f)) ∧ PySem.W.isFn K (.ref f) = true ∧ Binds K fd ps []
section
variable {X : Cx} {n : Nat} {C : Addr} {sp : Sp}
theorem own_run (O : OwnS X.prog X.w X.K X.mg X.base n C sp) {A : Around} {pins : List (Addr × Obj)} {s : Shared} {σ : L2.St} {H : Hp} {a dx : Addr} {fs : List (Str × V)} {y : V} {v : Value} {r : Bool} (sb : Sub X n A) (I : Inv X pins σ H s) (ha : H a = some (.ins C dx fs)) (ry : RelV y v)
    (hsp : sp [.ref a, y] H (fun z H' => z = .bl r ∧ Same H H') C8.E0) : Own X.prog X.w A X.xe a v r (LoopS X pins σ H) s := by
  obtain ⟨f, fd, ps, F, hs, hf, hb⟩ := O.ex
  obtain ⟨mA, J, _⟩ := ins_get I.hok ha
  obtain ⟨od, J, _⟩ := J.look
  have e0 : Env0 X.prog X.w X.K X.mg X.base A X.stack s H := by
    have e := I.env0
    exact ⟨by rw [sb.fr]; exact e.frames, e.mod, e.bs, e.bsz, e.funs, e.frf, e.hok, e.bare⟩
  have hl := F.len _ _ _ _ hsp
  have r2 : Vals [V.ref a, y] [Value.ref a, v] := .cons rfl (.cons ry .nil)
  refine PySem.W.ifBound_K I.kIn J hs hf (wpAny_call (codeAny_mono (F.run A X.stack s H ⟨[.ref a, v], []⟩ [.ref a, v] [.ref a, y] _ C8.E0 sb.room e0 (by
    have := hb s [.ref a, v] I.kIn (by simpa using hl)
    simpa using this) r2 hsp) fun r s' hq => ?_))
  cases r with
  | error e => exact C8.pass0 (E := C8.E0) pins σ H s e s' I hq
  | ok fl =>
    cases fl with
    | ret w =>
      obtain ⟨z, H', I', rz, ez, ex⟩ := I.after hq
      subst ez
      cases rz
      exact ⟨rfl, H', I', ex⟩
    | next => exact False.elim hq
    | brk => exact False.elim hq
    | cont => exact False.elim hq
end
section
variable {P : Program} {w : World} {K : PySem.W.Frag} {mg : Str → Option Value} {base : Heap} {f : Addr} {fd : FuncData} {C : Addr}
theorem kitA (T : Txt K mg w C) (d : D) : PySem.W.kitOne K (kyU C d) (.ref C) = some (isAt d) := by rw [T.kitC]; cases d <;> rfl
end
section
variable {X : Cx} {n : Nat} {C : Addr}
/-- != of two words of which not both are tuples and not both are atoms -/
def rNeMix (C : Addr) : R2 := fun x y H Q => ∃ d e, Is C H x d ∧ Is C H y e ∧ wrd d = true ∧ wrd e = true ∧ (isTu d && isTu e) = false ∧ (isAt d && isAt e) = false ∧ ∀ H', Same H H' → Q (.bl (!eqD d e)) H'
theorem op_neMix (O : OwnS X.prog X.w X.K X.mg X.base n C (spEqN C)) (o : Oth X.K C) (hr : Room (n + 1) X.A) : OpR X (compareOp .NotEq) (rNeMix C) := by
  intro pins s σ H x y v u Q I rx ry h
  obtain ⟨d, e, hx, hy, wd, we, ht, ha, q⟩ := h
  have sb : Sub X (n + 1) X.A := ⟨hr, rfl⟩
  have hu := hr.units0
  have hu1 := sb.in1.room.units0
  show wpAny (model X.prog X.w) X.A (richCompare .NotEq v u) (EP X pins σ Q) X.xe s
  have fin : ∀ (b : Bool), b = (!eqD d e) → ∀ s', LoopS X pins σ H s' → EP X pins σ Q (.bool b) s' := fun b hb s' j => by
    obtain ⟨H', I', e'⟩ := j
    rw [hb]
    exact ⟨.bl _, H', I', rfl, q H' e'⟩
  have here : LoopS X pins σ H s := ⟨H, I, Same.refl H⟩
  -- the own == says no
  have own : ∀ {a dx : Addr} {fs : List (Str × V)} {y : V} {v : Value} {d e : D}, H a = some (.ins C dx fs) → Is C H (.ref a) d → Is C H y e → RelV y v → isAt d = true → isAt e = false → Own X.prog X.w X.A.in1 X.xe a v false (LoopS X pins σ H) s :=
    fun u1 h1 h2 rv d1 e1 => own_run O sb.in1 I u1 rv ⟨_, _, _, _, rfl, h1, h2, d1, e1, fun H' s' => ⟨rfl, s'⟩⟩
  have inst : ∀ {a dx : Addr} {fs : List (Str × V)}, H a = some (.ins C dx fs) → ∃ od, PySem.W.InstAt s.heap a (PySem.W.instObj C dx) C (some od) := fun u1 => by
    obtain ⟨mA, J, _⟩ := ins_get I.hok u1
    obtain ⟨od, J, _⟩ := J.look
    exact ⟨od, J⟩
  have tups : ∀ {a : Addr} {xs : List V}, H a = some (.tup xs) → ∃ its : Array Value, s.heap.IsTuple a its := fun h => by
    obtain ⟨its, r, e, z⟩ := I.tuple (SqT.of h)
    exact ⟨_, e⟩
  have left : ∀ {a dx : Addr} {fs : List (Str × V)} {T : String}, H a = some (.ins C dx fs) → x = .ref a → s.TypeIs u T → (T = "NoneType" ∨ T = "int" ∨ T = "str" ∨ T = "tuple") → isAt d = true → isAt e = false → wpAny (model X.prog X.w) X.A (richCompare .NotEq v u) (EP X pins σ Q) X.xe s := fun {a dx fs T} u1 hxa ht1 hT d1 e1 => by
    subst hxa
    cases rx
    obtain ⟨od, J⟩ := inst u1
    refine rc_left (op := .NotEq) hu I.kIn J ht1 hT (try_ne hu hu1 I.kIn J o (own u1 hx hy ry d1 e1)) (fun s' j => fin _ ?_ s' j)
    cases d <;> cases e <;> first | rfl | (simp [isAt] at d1; done) | (simp [isAt] at e1; done)
  have right : ∀ {c dy : Addr} {gs : List (Str × V)} {T id : String}, H c = some (.ins C dy gs) → y = .ref c → s.TypeIs v T → PySem.W.subIn X.K (.ref C) (.type T) = some false → oneThing? .NotEq v (.ref c) = none → Slot T (cmpInfo .NotEq).2.1 id →
      wpAny (model X.prog X.w) X.A (call (.builtin id) [v, .ref c]) (fun z s' => z = .notImplemented ∧ s' = s) X.xe s → isAt e = true → isAt d = false → wpAny (model X.prog X.w) X.A (richCompare .NotEq v u) (EP X pins σ Q) X.xe s := fun {c dy gs T id} u1 hyc ht1 hT hone sl dec e1 d1 => by
    subst hyc
    cases ry
    obtain ⟨od, J⟩ := inst u1
    refine rc_right (op := .NotEq) hu I.kIn J ht1 hT hone sl dec (try_ne hu hu1 I.kIn J o (own u1 hy hx rx e1 d1)) (fun s' j => fin _ ?_ s' j)
    cases d <;> cases e <;> first | rfl | (simp [isAt] at d1; done) | (simp [isAt] at e1; done)
  have flat : scal x y = true → (!decide (x = y)) = (!eqD d e) → wpAny (model X.prog X.w) X.A (richCompare .NotEq v u) (EP X pins σ Q) X.xe s := fun hs he => op_ne pins s σ H x y v u Q I rx ry ⟨hs, by rw [he]; exact q H (Same.refl H)⟩
  cases hx with
  | bl b => cases wd
  | lst _ _ => cases wd
  | dct _ => cases wd
  | @atom a1 dx1 t1 k1 xs1 ds1 u1 v1 i1 =>
    cases hy with
    | bl b => cases we
    | lst _ _ => cases we
    | dct _ => cases we
    | atom _ _ _ => cases ha
    | non => cases ry; exact left u1 rfl rfl (.inl rfl) rfl rfl
    | int j => obtain ⟨t, rfl⟩ := ry; exact left u1 rfl rfl (.inr (.inl rfl)) rfl rfl
    | str z => obtain ⟨t, rfl⟩ := ry; exact left u1 rfl rfl (.inr (.inr (.inl rfl))) rfl rfl
    | tup h2 i2 =>
      cases ry
      obtain ⟨its, oo, ho, hc, _⟩ := tups h2
      exact left u1 rfl ⟨oo, ho, hc⟩ (.inr (.inr (.inr rfl))) rfl rfl
  | non =>
    cases rx
    cases hy with
    | bl b => cases we
    | lst _ _ => cases we
    | dct _ => cases we
    | non => exact flat rfl (by simp [eqD])
    | int j => exact flat rfl (by simp [eqD])
    | str z => exact flat rfl (by simp [eqD])
    | tup h2 i2 =>
      cases ry
      obtain ⟨its, hi⟩ := tups h2
      exact RcNeAt.none_tuple hi hu _ _ _ _ (fin _ rfl s here)
    | @atom c dy _ _ _ _ u2 _ _ => exact right u2 rfl rfl o.sN rfl F.slot_NoneType_ne (call_gives F.slot_NoneType_ne rfl F.entry_NoneType_ne (F.args_NoneType_ne_2 _ _) (NoneType___ne___none_ref_0 c) ⟨rfl, rfl⟩) rfl rfl
  | int i =>
    obtain ⟨t, rfl⟩ := rx
    cases hy with
    | bl b => cases we
    | lst _ _ => cases we
    | dct _ => cases we
    | non => exact flat rfl (by simp [eqD])
    | int j => exact flat rfl (by simp [eqD])
    | str z => exact flat rfl (by simp [eqD])
    | tup h2 i2 =>
      cases ry
      obtain ⟨its, hi⟩ := tups h2
      exact RcNeAt.int_tuple i t hi hu _ _ _ _ (fin _ rfl s here)
    | @atom c dy _ _ _ _ u2 _ _ =>
      obtain ⟨od, J⟩ := inst u2
      exact right u2 rfl rfl o.sI rfl F.slot_int_ne (call_meets F.slot_int_ne rfl F.entry_int_ne (F.args_int_ne_2 _ _) (int_ne_inst i t c C dy) ⟨J.at_, rfl, rfl⟩) rfl rfl
  | str z0 =>
    obtain ⟨t, rfl⟩ := rx
    cases hy with
    | bl b => cases we
    | lst _ _ => cases we
    | dct _ => cases we
    | non => exact flat rfl (by simp [eqD])
    | int j => exact flat rfl (by simp [eqD])
    | str z => exact flat rfl (by simp [eqD])
    | tup h2 i2 =>
      cases ry
      obtain ⟨its, hi⟩ := tups h2
      exact RcNeAt.str_tuple z0 t hi hu _ _ _ _ (fin _ rfl s here)
    | @atom c dy _ _ _ _ u2 _ _ =>
      obtain ⟨od, J⟩ := inst u2
      exact right u2 rfl rfl o.sS rfl F.slot_str_ne (call_meets F.slot_str_ne rfl F.entry_str_ne (F.args_str_ne_2 _ _) (str_ne_inst z0 t c C dy) ⟨J.at_, rfl, rfl⟩) rfl rfl
  | @tup a1 xs1 ds1 h1 i1 =>
    cases rx
    obtain ⟨its, hi⟩ := tups h1
    cases hy with
    | bl b => cases we
    | lst _ _ => cases we
    | dct _ => cases we
    | non => cases ry; exact RcNeAt.tuple_none hi hu _ _ _ _ (fin _ rfl s here)
    | int j => obtain ⟨t, rfl⟩ := ry; exact RcNeAt.tuple_int j t hi hu _ _ _ _ (fin _ rfl s here)
    | str z => obtain ⟨t, rfl⟩ := ry; exact RcNeAt.tuple_str z t hi hu _ _ _ _ (fin _ rfl s here)
    | tup h2 i2 => cases ht
    | @atom c dy _ _ _ _ u2 _ _ =>
      obtain ⟨od, J⟩ := inst u2
      obtain ⟨⟨cls, dd, data, sl⟩, ho, hc, k, hd⟩ := id hi
      simp only at hc hd
      subst hc hd
      exact right u2 rfl ⟨_, ho, rfl⟩ o.sT (oneThing_ref _ _ _) F.slot_tuple_ne (GQ.call_here F.slot_tuple_ne ⟨_, ho, rfl⟩ F.entry_tuple_ne (F.args_tuple_ne_2 _ _) (tup_ne_inst (PySem.W.looks_subIn I.kIn o.sT) J.at_ ho ⟨rfl, rfl⟩)) rfl rfl
end
end Hc

namespace Hc
open PySem PySem.Spec PyProof.Rows L2 Hr
mutual
theorem eqD_refl : ∀ {d : D}, wrd d = true → eqD d d = true
  | .tup ds, h => by simp only [eqD]; simp only [wrd] at h; exact eqL_refl h
  | .atom k ds, h => by
    simp only [wrd, Bool.and_eq_true] at h
    simp only [eqD]; rw [eqL_refl h.1]; simp
  | .non, _ => rfl
  | .int i, _ => by simp [eqD]
  | .str s, _ => by simp [eqD]
  | .bl _, h => by simp [wrd] at h
  | .lst _, h => by simp [wrd] at h
  | .dct, h => by simp [wrd] at h
theorem eqL_refl : ∀ {ds : List D}, wrdL ds = true → eqL ds ds = true
  | [], _ => rfl
  | d :: ds, h => by
    simp only [wrdL, Bool.and_eq_true] at h
    simp only [eqL]; rw [eqD_refl h.1, eqL_refl h.2]; rfl
end
theorem term_len {k : Str} {ds es : List D} (h : isTermK k ds = true) (g : isTermK k es = true) : ds.length = es.length := by
  unfold isTermK at h g
  cases hf : formsOf k with
  | none => rw [hf] at h; cases h
  | some fs =>
    rw [hf] at h g
    simp only [Bool.and_eq_true, decide_eq_true_eq] at h g
    rw [h.1, g.1]
def spAre (C : Addr) : Sp := fun vs H Q _ => ∃ a b ds es, vs = [.ref a, .ref b] ∧ Is C H (.ref a) (.tup ds) ∧ Is C H (.ref b) (.tup es) ∧ ds.length = es.length ∧ wrdL ds = true ∧ wrdL es = true ∧ szL ds ≤ 1000000 ∧ szL es ≤ 1000000 ∧ ∀ H', Same H H' → Q (.bl (eqL ds es)) H'
def spSame (C : Addr) : Sp := fun vs H Q _ => ∃ a b dx fs dx' fs', vs = [.ref a, .ref b] ∧ H a = some (.ins C dx fs) ∧ H b = some (.ins C dx' fs') ∧ Q (.bl (decide (a = b))) H
section
variable {P : Program} {w : World} {K : PySem.W.Frag} {mg : Str → Option Value} {base : Heap} {f : Addr} {fd : FuncData} {C : Addr}
abbrev s_Atom_is_same : Stmt := L2.inClass (top 19) 2
theorem sc_Atom_is_same : FnScope ["self", "other"] ["self", "other"] (C8.fnScope s_Atom_is_same) := C8.fnScope_by (by decide +kernel)
theorem ok_is_same {fI : Addr} {fdI : FuncData} (me : Meth K C "is_same" fI) (T : Txt K mg w C) (F : C8.Fun K "is_same" "Atom.is_same" s_Atom_is_same fI fdI) (b : Binds K fdI ["self", "other"] []) : C8.Met P w K mg base 1 C "is_same" (spSame C) [] := by
  refine C8.met0 T.cl.cl me F b sc_Atom_is_same (fun vs H Q E h => ?_) (fun cdv A outer s H vs Q E hr h => ?_)
  · obtain ⟨a, b, dx, fs, dx', fs', rfl, _⟩ := h; rfl
  obtain ⟨a, b, dx, fs, dx', fs', rfl, h1, h2, q⟩ := h
  refine ⟨_, (pss_one (ps_ret (pe_cmpR op_is_ref (pv 0) (pv 1) (nomark _)))), ?_⟩
  exact ⟨_, rfl, _, rfl, a, b, _, _, rfl, rfl, h1, rfl, h2, rfl, q⟩
abbrev s__are_equal : Stmt := top 22
theorem sc__are_equal : FnScope ["ones", "others", "left", "right", "one", "other"] ["ones", "others"] (C8.fnScope s__are_equal) := C8.fnScope_by (by decide +kernel)
theorem ok__are_equal (F : C8.Def K mg "_are_equal" s__are_equal f fd) (b : Binds K fd ["ones", "others"] []) (T : Txt K mg w C) (O : OwnS P w K mg base 1 C (spEqN C)) (o : Oth K C) (m_is_same : C8.Met P w K mg base 1 C "is_same" (spSame C) []) : C8.Cal P w K mg base 3 "_are_equal" (spAre C) [] := by
  refine C8.cal0 F b .nil sc__are_equal (fun vs H Q E h => ?_) (fun cdv A outer s H vs Q E hr h => ?_)
  · obtain ⟨a, b, ds, es, rfl, _⟩ := h; rfl
  obtain ⟨a, b, ds, es, rfl, ha, hb, hl, hs, hs2, hz1, hz2, q⟩ := h
  refine ⟨_, (pss_cons (ps_set (i := 2) sc__are_equal.nd rfl (Or.inl rfl) (pe_callTy call_list_of rfl T.z_list bt_list (pa_cons (pv 0) pa_nil)))
      (pss_cons (ps_set (i := 3) sc__are_equal.nd rfl (Or.inl rfl) (pe_callTy call_list_of rfl T.z_list bt_list (pa_cons (pv 1) pa_nil)))
      (pss_cons (ps_while PassesOwn.never (pt_truth (pv 2) (fun _ => rfl))
      (pss_cons (ps_set (i := 4) sc__are_equal.nd rfl (Or.inl rfl) (pe_bm0 PySem.F.plainAttrs_list PySem.F.slot_list_pop PySem.F.type_list_pop mt_pop (pv 2)))
      (pss_cons (ps_set (i := 5) sc__are_equal.nd rfl (Or.inl rfl) (pe_bm0 PySem.F.plainAttrs_list PySem.F.slot_list_pop PySem.F.type_list_pop mt_pop (pv 3)))
      (pss_one (ps_if (PW.pt (pw_and (pt_cmpR (op_isTyA (C := C)) (pe_callTy (call_typeA (C := C)) rfl T.z_type bt_type (pa_cons (pv 4) pa_nil)) (pe_bltn (v := .ty "tuple") rfl T.z_tuple bt_tuple rfl) (nomark _)) (pw_and1 (pt_cmpR (op_isTyA (C := C)) (pe_callTy (call_typeA (C := C)) rfl T.z_type bt_type (pa_cons (pv 5) pa_nil)) (pe_bltn (v := .ty "tuple") rfl T.z_tuple bt_tuple rfl) (nomark _))))) (pss_cons (ps_if (pt_cmpR op_ne (pe_callB call_lenS rfl T.z_len bt_len (pa_cons (pv 4) pa_nil)) (pe_callB call_lenS rfl T.z_len bt_len (pa_cons (pv 5) pa_nil)) (nomark _)) (pss_one (ps_ret pe_bl)) pss_nil)
      (pss_cons (ps_expr (pe_bm PySem.F.plainAttrs_list PySem.F.slot_list_extend PySem.F.type_list_extend mt_extendT (pv 2) (pa_cons (pv 4) pa_nil)))
      (pss_one (ps_expr (pe_bm PySem.F.plainAttrs_list PySem.F.slot_list_extend PySem.F.type_list_extend mt_extendT (pv 3) (pa_cons (pv 5) pa_nil)))))) (pss_one (ps_if (PW.pt (pw_and (pt_cmpR (op_isTyA (C := C)) (pe_callTy (call_typeA (C := C)) rfl T.z_type bt_type (pa_cons (pv 4) pa_nil)) (pe_glob (v := .ref C) rfl T.g_Atom rfl) (nomark _)) (pw_and1 (pt_cmpR (op_isTyA (C := C)) (pe_callTy (call_typeA (C := C)) rfl T.z_type bt_type (pa_cons (pv 5) pa_nil)) (pe_glob (v := .ref C) rfl T.g_Atom rfl) (nomark _))))) (pss_cons (ps_if (pt_val (C8.pe_mt m_is_same hr (by first | decide | omega) (pv 4) (pa_cons (pv 5) pa_nil))) (pss_one ps_continue) pss_nil)
      (pss_cons (ps_if (pt_cmpR op_ne (pe_fld (pv 4) rfl) (pe_fld (pv 5) rfl) (nomark _)) (pss_one (ps_ret pe_bl)) pss_nil)
      (pss_cons (ps_expr (pe_bm PySem.F.plainAttrs_list PySem.F.slot_list_extend PySem.F.type_list_extend mt_extendT (pv 2) (pa_cons (pe_fld (pv 4) rfl) pa_nil)))
      (pss_one (ps_expr (pe_bm PySem.F.plainAttrs_list PySem.F.slot_list_extend PySem.F.type_list_extend mt_extendT (pv 3) (pa_cons (pe_fld (pv 5) rfl) pa_nil))))))) (pss_one (ps_if (pt_cmpR (op_neMix O o (hr.mono (by decide))) (pv 4) (pv 5) (nomark _)) (pss_one (ps_ret pe_bl)) pss_nil)))))))))
      (pss_one (ps_ret pe_bl))))), ?_⟩
  cases ha with
  | @tup _ xs _ ta ia =>
    cases hb with
    | @tup _ ys _ tb ib =>
      refine ⟨_, rfl, a, xs, rfl, .inr (SqT.of ta), fun l hl0 => ?_⟩
      have s1 := same_new (o := .lst xs) hl0
      refine ⟨_, rfl, b, ys, rfl, .inr (SqT.of (s1 _ _ tb)), fun r hr0 => ?_⟩
      have s2 := same_new (o := .lst ys) hr0
      have hrH : H r = none := s1.free hr0
      have nlr : l ≠ r := fun z => by rw [← z, upd_same] at hr0; cases hr0
      refine ⟨fun m σ' H' => ∃ v4 v5 xs ys as bs, σ' = [some (.ref a), some (.ref b), some (.ref l), some (.ref r), v4, v5] ∧ Same H H' ∧ H' l = some (.lst xs) ∧ H' r = some (.lst ys) ∧ IsA C H xs as ∧ IsA C H ys bs ∧ as.length = bs.length ∧ wrdL as = true ∧ wrdL bs = true ∧ eqL as bs = eqL ds es ∧ m = szL as ∧ szL as ≤ 1000000 ∧ szL bs ≤ 1000000,
        ⟨_, none, none, xs, ys, ds, es, rfl, s1.trans s2, s2 _ _ upd_same, upd_same, ia, ib, hl, hs, hs2, rfl, rfl, hz1, hz2⟩, ?_⟩
      clear hs hs2 hz1 hz2 hl s1 s2 ia ib ta tb hr0
      rintro m σ' H' ⟨v4, v5, xs, ys, as, bs, rfl, sm, hxl, hyr, ixs, iys, hl, hs, hs2, he, rfl, hza, hzb⟩
      refine ⟨_, rfl, _, .inl ⟨xs, SqL.of hxl, rfl⟩, ?_⟩
      rcases List.eq_nil_or_concat as with rfl | ⟨as', d, rfl⟩
      · have hb0 : bs = [] := List.eq_nil_of_length_eq_zero hl.symm
        subst hb0
        cases ixs
        refine iteF ?_
        have q := q H' sm
        rw [← he] at q
        exact q
      rcases List.eq_nil_or_concat bs with rfl | ⟨bs', e, rfl⟩
      · simp at hl
      obtain ⟨xs', x, rfl, ixs', hx⟩ := ixs.concat
      obtain ⟨ys', y, rfl, iys', hy⟩ := iys.concat
      simp only [List.concat_eq_append] at hl hs hs2 he hza hzb ⊢
      have hl' : as'.length = bs'.length := by simpa using hl
      rw [wrdL_app, Bool.and_eq_true] at hs hs2
      rw [eqL_app hl'] at he
      have wd : wrd d = true := by simpa [wrdL] using hs.2
      have we : wrd e = true := by simpa [wrdL] using hs2.2
      have he2 : eqL [d] [e] = eqD d e := by simp [eqL]
      rw [he2] at he
      have hsa : szL (as' ++ [d]) = szL as' + sz d := by rw [szL_app]; simp [szL]
      have hsb : szL (bs' ++ [e]) = szL bs' + sz e := by rw [szL_app]; simp [szL]
      have hpd := sz_pos d
      have hla := len_szL as'
      have hlb := len_szL bs'
      have hlx := ixs'.len
      have hly := iys'.len
      refine bT (by simp) ⟨fun σ2 H2 => ∃ m', m' < szL (as' ++ [d]) ∧ ∃ v4 v5 xs ys as bs, σ2 = [some (.ref a), some (.ref b), some (.ref l), some (.ref r), v4, v5] ∧ Same H H2 ∧ H2 l = some (.lst xs) ∧ H2 r = some (.lst ys) ∧ IsA C H xs as ∧ IsA C H ys bs ∧ as.length = bs.length ∧ wrdL as = true ∧ wrdL bs = true ∧ eqL as bs = eqL ds es ∧ m' = szL as ∧ szL as ≤ 1000000 ∧ szL bs ≤ 1000000, fun σ2 H2 h => h, ?_⟩
      -- one = left.pop(); other = right.pop()
      refine ⟨_, rfl, .inl ⟨rfl, _, SqL.of hxl⟩, l, _, x, rfl, rfl, hxl, by simp, ?_⟩
      rw [List.dropLast_concat]
      have hyr1 : (upd H' l (.lst xs')) r = some (.lst (ys' ++ [y])) := by rw [upd_ne nlr.symm]; exact hyr
      refine ⟨_, rfl, .inl ⟨rfl, _, SqL.of hyr1⟩, r, _, y, rfl, rfl, hyr1, by simp, ?_⟩
      rw [List.dropLast_concat]
      have sm2 : Same H (upd (upd H' l (.lst xs')) r (.lst ys')) := same_put (same_put sm hl0) hrH
      have hl2 : (upd (upd H' l (.lst xs')) r (.lst ys')) l = some (.lst xs') := by rw [upd_ne nlr]; exact upd_same
      have hr2 : (upd (upd H' l (.lst xs')) r (.lst ys')) r = some (.lst ys') := upd_same
      generalize upd (upd H' l (.lst xs')) r (.lst ys') = H2 at sm2 hl2 hr2
      have hx2 := hx.same sm2
      have hy2 := hy.same sm2
      -- nothing more is asked of the pair
      have good : ∀ H3, Same H2 H3 → eqD d e = true → ∃ m', m' < szL (as' ++ [d]) ∧ ∃ v4 v5 xs ys as bs, ([some (.ref a), some (.ref b), some (.ref l), some (.ref r), some x, some y] : L2.St) = [some (.ref a), some (.ref b), some (.ref l), some (.ref r), v4, v5] ∧ Same H H3 ∧ H3 l = some (.lst xs) ∧ H3 r = some (.lst ys) ∧ IsA C H xs as ∧ IsA C H ys bs ∧ as.length = bs.length ∧ wrdL as = true ∧ wrdL bs = true ∧ eqL as bs = eqL ds es ∧ m' = szL as ∧ szL as ≤ 1000000 ∧ szL bs ≤ 1000000 := fun H3 s3 h =>
        ⟨szL as', by omega, _, _, xs', ys', as', bs', rfl, sm2.trans s3, s3 _ _ hl2, s3 _ _ hr2, ixs', iys', hl', hs.1, hs2.1, by rw [← he, h, Bool.and_true], rfl, by omega, by omega⟩
      have bad : ∀ H3, Same H2 H3 → eqD d e = false → Q (.bl false) H3 := fun H3 s3 h => by
        have q := q H3 (sm2.trans s3)
        rw [← he, h, Bool.and_false] at q
        exact q
      -- both are opened
      have open_ : ∀ {ts us : List V} {gs hs' : List D} {p1 p2 : Addr}, H2 p1 = some (.tup ts) → H2 p2 = some (.tup us) → IsA C H ts gs → IsA C H us hs' → gs.length = hs'.length → wrdL gs = true → wrdL hs' = true → eqL gs hs' = eqD d e → szL gs < sz d → szL hs' ≤ sz e →
          (xs'.length + ts.length ≤ sizeLine ∧ ys'.length + us.length ≤ sizeLine) ∧ (upd H2 l (.lst (xs' ++ ts))) r = some (.lst ys') ∧ (upd H2 l (.lst (xs' ++ ts))) p2 = some (.tup us) ∧
          ∃ m', m' < szL (as' ++ [d]) ∧ ∃ v4 v5 xs ys as bs, ([some (.ref a), some (.ref b), some (.ref l), some (.ref r), some x, some y] : L2.St) = [some (.ref a), some (.ref b), some (.ref l), some (.ref r), v4, v5] ∧ Same H (upd (upd H2 l (.lst (xs' ++ ts))) r (.lst (ys' ++ us))) ∧ (upd (upd H2 l (.lst (xs' ++ ts))) r (.lst (ys' ++ us))) l = some (.lst xs) ∧ (upd (upd H2 l (.lst (xs' ++ ts))) r (.lst (ys' ++ us))) r = some (.lst ys) ∧ IsA C H xs as ∧ IsA C H ys bs ∧ as.length = bs.length ∧ wrdL as = true ∧ wrdL bs = true ∧ eqL as bs = eqL ds es ∧ m' = szL as ∧ szL as ≤ 1000000 ∧ szL bs ≤ 1000000 := fun {ts us gs hs' p1 p2} e1 e2 i1 i2 hlen hsp hsp2 heq z1 z2 => by
        have k1 := i1.len
        have k2 := i2.len
        have k3 := len_szL gs
        have k4 := len_szL hs'
        refine ⟨⟨Nat.le_trans (show _ ≤ 1000000 by omega) (by decide), Nat.le_trans (show _ ≤ 1000000 by omega) (by decide)⟩, by rw [upd_ne nlr.symm]; exact hr2, Tups.put hl2 _ _ e2, ?_⟩
        refine ⟨szL (as' ++ gs), ?_, _, _, xs' ++ ts, ys' ++ us, as' ++ gs, bs' ++ hs', rfl, same_put (same_put sm2 hl0) hrH, by rw [upd_ne nlr]; exact upd_same, upd_same, ixs'.app i1, iys'.app i2, by simp; omega, ?_, ?_, ?_, rfl, ?_, ?_⟩
        · rw [szL_app, hsa]; omega
        · rw [wrdL_app, hs.1, hsp]; rfl
        · rw [wrdL_app, hs2.1, hsp2]; rfl
        · rw [eqL_app hl', heq]; exact he
        · rw [szL_app]; omega
        · rw [szL_app]; omega
      refine ⟨_, rfl, x, d, rfl, hx2, kyV_ok d, .inl ⟨_, rfl⟩, _, rfl, ?_⟩
      by_cases ct : kyV C d = .ty "tuple"
      · refine ifT ct ⟨_, rfl, y, e, rfl, hy2, kyV_ok e, .inl ⟨_, rfl⟩, _, rfl, ?_⟩
        obtain ⟨gs, rfl⟩ := kyV_tup.mp ct
        by_cases cu : kyV C e = .ty "tuple"
        · refine ifT cu ?_
          obtain ⟨hs', rfl⟩ := kyV_tup.mp cu
          cases hx with
          | @tup p1 ts _ t1 i1 =>
            cases hy with
            | @tup p2 us _ t2 i2 =>
              have k1 := i1.len
              have k2 := i2.len
              refine ⟨_, rfl, p1, ts, rfl, .inr (SqT.of (sm2 _ _ t1)), _, rfl, p2, us, rfl, .inr (SqT.of (sm2 _ _ t2)), rfl, _, rfl, ?_⟩
              by_cases cl : gs.length = hs'.length
              · refine bF (by rw [k1, k2, cl]; simp) ?_
                have hsp : wrdL gs = true := by simpa [wrd] using wd
                have hsp2 : wrdL hs' = true := by simpa [wrd] using we
                obtain ⟨⟨b1, b2⟩, f1, f2, fin⟩ := open_ (sm2 _ _ t1) (sm2 _ _ t2) i1 i2 cl hsp hsp2 (by simp [eqD]) (by simp only [sz]; omega) (by simp only [sz]; omega)
                refine ⟨_, rfl, .inl ⟨rfl, _, SqL.of hl2⟩, _, rfl, l, p1, xs', ts, rfl, rfl, hl2, sm2 _ _ t1, b1, ?_⟩
                exact ⟨_, rfl, .inl ⟨rfl, _, SqL.of f1⟩, _, rfl, r, p2, ys', us, rfl, rfl, f1, f2, b2, fin⟩
              · refine bT (by rw [k1, k2, decide_eq_false (fun z => cl (by have := V.int.inj z; omega))]; rfl) ?_
                exact bad H2 (Same.refl H2) (by simp only [eqD]; exact eqL_len cl)
        · refine ifF cu ?_
          have hnt : (isTu (.tup gs) && isTu e) = false := by cases e <;> first | exact absurd rfl cu | simp [isTu]
          have hna : (isAt (.tup gs) && isAt e) = false := rfl
          refine ⟨_, rfl, x, .tup gs, rfl, hx2, kyV_ok _, .inr rfl, _, rfl, ifF (fun z => nomatch z) ?_⟩
          refine ⟨_, rfl, _, rfl, .tup gs, e, hx2, hy2, wd, we, hnt, hna, fun H3 s3 => ⟨_, rfl, ?_⟩⟩
          cases hq : eqD (.tup gs) e with
          | true => exact bF rfl (good H3 s3 hq)
          | false => exact bT rfl (bad H3 s3 hq)
      · refine ifF ct ?_
        refine ⟨_, rfl, x, d, rfl, hx2, kyV_ok d, .inr rfl, _, rfl, ?_⟩
        by_cases ca : kyV C d = .ref C
        · refine ifT ca ⟨_, rfl, y, e, rfl, hy2, kyV_ok e, .inr rfl, _, rfl, ?_⟩
          obtain ⟨k, gs, rfl⟩ := kyV_atom.mp ca
          by_cases cb : kyV C e = .ref C
          · refine ifT cb ?_
            obtain ⟨k', hs', rfl⟩ := kyV_atom.mp cb
            cases hx with
            | @atom a1 dx1 q1 _ ts _ u1 v1 i1 =>
              cases hy with
              | @atom a2 dx2 q2 _ us _ u2 v2 i2 =>
                refine ⟨_, rfl, a1, dx1, _, rfl, sm2 _ _ u1, rfl, _, rfl, a1, a2, dx1, _, dx2, _, rfl, sm2 _ _ u1, sm2 _ _ u2, ⟨_, rfl, ?_⟩⟩
                by_cases cs : a1 = a2
                · subst cs
                  have eds := Is.uniq (Is.atom u1 v1 i1) (Is.atom u2 v2 i2)
                  refine bT (by simp) ?_
                  exact good H2 (Same.refl H2) (by rw [eds]; exact eqD_refl we)
                refine bF (by simp [cs]) ?_
                refine ⟨_, rfl, a1, C, dx1, _, _, rfl, sm2 _ _ u1, T.cl.cl, T.cl.nK, rfl, _, rfl, a2, C, dx2, _, _, rfl, sm2 _ _ u2, T.cl.cl, T.cl.nK, rfl, rfl, _, rfl, ?_⟩
                by_cases ck : k = k'
                · refine bF (by rw [ck]; simp) ?_
                  have w1 : wrdL gs = true ∧ isTermK k gs = true := by simpa [wrd] using wd
                  have w2 : wrdL hs' = true ∧ isTermK k hs' = true := by subst ck; simpa [wrd] using we
                  have hlk := term_len w1.2 w2.2
                  obtain ⟨⟨b1, b2⟩, f1, f2, fin⟩ := open_ (sm2 _ _ v1) (sm2 _ _ v2) i1 i2 hlk w1.1 w2.1 (by simp [eqD, ck]) (by simp only [sz]; omega) (by simp only [sz]; omega)
                  refine ⟨_, rfl, .inl ⟨rfl, _, SqL.of hl2⟩, _, rfl, a1, C, dx1, _, _, rfl, sm2 _ _ u1, T.cl.cl, T.cl.nT, rfl, l, q1, xs', ts, rfl, rfl, hl2, sm2 _ _ v1, b1, ?_⟩
                  have n2 : a2 ≠ l := fun z => by have := sm2 _ _ u2; rw [z, hl2] at this; cases this
                  exact ⟨_, rfl, .inl ⟨rfl, _, SqL.of f1⟩, _, rfl, a2, C, dx2, _, _, rfl, by rw [upd_ne n2]; exact sm2 _ _ u2, T.cl.cl, T.cl.nT, rfl, r, q2, ys', us, rfl, rfl, f1, f2, b2, fin⟩
                · refine bT (by rw [decide_eq_false (fun z => ck (V.str.inj z))]; rfl) ?_
                  exact bad H2 (Same.refl H2) (by simp [eqD, ck])
          · refine ifF cb ?_
            have hnt : (isTu (.atom k gs) && isTu e) = false := rfl
            have hna : (isAt (.atom k gs) && isAt e) = false := by cases e <;> first | exact absurd rfl cb | simp [isAt]
            refine ⟨_, rfl, _, rfl, .atom k gs, e, hx2, hy2, wd, we, hnt, hna, fun H3 s3 => ⟨_, rfl, ?_⟩⟩
            cases hq : eqD (.atom k gs) e with
            | true => exact bF rfl (good H3 s3 hq)
            | false => exact bT rfl (bad H3 s3 hq)
        · refine ifF ca ?_
          have hnt : (isTu d && isTu e) = false := by cases d <;> first | rfl | exact absurd rfl ct
          have hna : (isAt d && isAt e) = false := by cases d <;> first | rfl | exact absurd rfl ca
          refine ⟨_, rfl, _, rfl, d, e, hx2, hy2, wd, we, hnt, hna, fun H3 s3 => ⟨_, rfl, ?_⟩⟩
          cases hq : eqD (d) e with
          | true => exact bF rfl (good H3 s3 hq)
          | false => exact bT rfl (bad H3 s3 hq)
end
end Hc

namespace Hc
open PySem PySem.Spec PyProof.Rows L2 Hr
section
variable {P : Program} {w : World} {K : PySem.W.Frag} {mg : Str → Option Value} {base : Heap} {f : Addr} {fd : FuncData} {C : Addr}
abbrev s_Atom___eq__ : Stmt := L2.inClass (top 19) 1
theorem sc_Atom___eq__ : FnScope ["self", "other"] ["self", "other"] (C8.fnScope s_Atom___eq__) := C8.fnScope_by (by decide +kernel)
theorem ok_eqN {fI : Addr} {fdI : FuncData} (F : C8.Fun K "__eq__" "Atom.__eq__" s_Atom___eq__ fI fdI) (T : Txt K mg w C) : FnOk P w K mg base C8.CX0 1 fI fdI ["self", "other"] (spEqN C) := by
  refine C8.fn0 F sc_Atom___eq__ (fun vs H Q E h => ?_) (fun cdv A outer s H vs Q E hr h => ?_)
  · obtain ⟨x, y, d, e, rfl, _⟩ := h; rfl
  obtain ⟨x, y, d, e, rfl, hx, hy, hd, he, q⟩ := h
  refine ⟨_, (pss_cons (ps_if (pt_not (pt_val (pe_callB (call_isiA T.cl) rfl T.z_isinstance bt_isinstance (pa_cons (pv 1) (pa_cons (pe_glob (v := .ref C) rfl T.g_Atom rfl) pa_nil))))) (pss_one (ps_ret pe_bl)) pss_nil)
      (pss_one ps_never)), ?_⟩
  refine ⟨_, rfl, y, _, _, _, _, rfl, hy, .own C, kitA T e, _, rfl, ?_⟩
  rw [he]
  exact bT rfl (q H (Same.refl H))
end
end Hc

namespace Hc
open PySem PySem.Spec PyProof.Rows L2 Hr
/-- an atom == a word -/
def spEqG (C : Addr) : Sp := fun vs H Q _ => ∃ x y d e, vs = [x, y] ∧ Is C H x d ∧ Is C H y e ∧ isAt d = true ∧ wrd d = true ∧ wrd e = true ∧ sz d ≤ 1000000 ∧ sz e ≤ 1000000 ∧ ∀ H', Same H H' → Q (.bl (eqD d e)) H'
section
variable {P : Program} {w : World} {K : PySem.W.Frag} {mg : Str → Option Value} {base : Heap} {f : Addr} {fd : FuncData} {C : Addr}
theorem ok_eq {fI : Addr} {fdI : FuncData} (F : C8.Fun K "__eq__" "Atom.__eq__" s_Atom___eq__ fI fdI) (T : Txt K mg w C)
    (c__are_equal : C8.Cal P w K mg base 3 "_are_equal" (spAre C) []) : FnOk P w K mg base C8.CX0 4 fI fdI ["self", "other"] (spEqG C) := by
  refine C8.fn0 F sc_Atom___eq__ (fun vs H Q E h => ?_) (fun cdv A outer s H vs Q E hr h => ?_)
  · obtain ⟨x, y, d, e, rfl, _⟩ := h; rfl
  obtain ⟨x, y, d, e, rfl, hx, hy, hd, wd, we, zd, ze, q⟩ := h
  obtain ⟨k, ds, rfl⟩ : ∃ k ds, d = .atom k ds := by cases d <;> first | exact ⟨_, _, rfl⟩ | (simp [isAt] at hd; done)
  refine ⟨_, (pss_cons (ps_if (pt_not (pt_val (pe_callB (call_isiA T.cl) rfl T.z_isinstance bt_isinstance (pa_cons (pv 1) (pa_cons (pe_glob (v := .ref C) rfl T.g_Atom rfl) pa_nil))))) (pss_one (ps_ret pe_bl)) pss_nil)
      (pss_one (ps_ret (pe_and (pe_cmpR op_eq (pe_fld (pv 0) rfl) (pe_fld (pv 1) rfl) (nomark _)) (pe_one (C8.pe_c c__are_equal hr (by first | decide | omega) rfl (pa_cons (pe_fld (pv 0) rfl) (pa_cons (pe_fld (pv 1) rfl) pa_nil)))))))), ?_⟩
  refine ⟨_, rfl, y, _, _, _, _, rfl, hy, .own C, kitA T e, _, rfl, ?_⟩
  cases hA : isAt e with
  | false =>
    have e0 : eqD (.atom k ds) e = false := by cases e <;> first | rfl | (simp [isAt] at hA; done)
    rw [e0] at q
    exact bT rfl (q H (Same.refl H))
  | true =>
    obtain ⟨k', es, rfl⟩ : ∃ k ds, e = .atom k ds := by cases e <;> first | exact ⟨_, _, rfl⟩ | (simp [isAt] at hA; done)
    refine bF rfl ?_
    have w1 : wrdL ds = true ∧ isTermK k ds = true := by simpa [wrd] using wd
    have w2 : wrdL es = true ∧ isTermK k' es = true := by simpa [wrd] using we
    cases hx with
    | @atom a1 dx1 t1 _ xs _ u1 v1 i1 =>
      cases hy with
      | @atom a2 dx2 t2 _ ys _ u2 v2 i2 =>
        refine ⟨_, rfl, a1, C, dx1, _, _, rfl, u1, T.cl.cl, T.cl.nK, rfl, _, rfl, a2, C, dx2, _, _, rfl, u2, T.cl.cl, T.cl.nK, rfl, rfl, _, rfl, ?_⟩
        by_cases ck : k = k'
        · subst ck
          refine bT (by simp) ?_
          refine ⟨_, rfl, a1, C, dx1, _, _, rfl, u1, T.cl.cl, T.cl.nT, rfl, _, rfl, a2, C, dx2, _, _, rfl, u2, T.cl.cl, T.cl.nT, rfl, ?_⟩
          simp only [sz] at zd ze
          refine ⟨_, _, ds, es, rfl, .tup v1 i1, .tup v2 i2, term_len w1.2 w2.2, w1.1, w2.1, by omega, by omega, fun H' s' => ?_⟩
          have e0 : eqD (.atom k ds) (.atom k es) = eqL ds es := by simp [eqD]
          rw [e0] at q
          exact q H' s'
        · refine bF (by simpa using ck) ?_
          have e0 : eqD (.atom k ds) (.atom k' es) = false := by simp [eqD, ck]
          rw [e0] at q
          exact q H (Same.refl H)
end
end Hc

namespace Hc
open PySem PySem.Spec PyProof.Rows L2 Hr PySem.SeqAt
mutual
/-- how deep tuples lie in one another -/
def dep : D → Nat
  | .tup ds => depL ds + 1
  | _ => 0
def depL : List D → Nat
  | [] => 0
  | d :: ds => max (dep d) (depL ds)
end
theorem depL_mem : ∀ {ds : List D} {d : D}, d ∈ ds → dep d ≤ depL ds
  | x :: ds, d, h => by
    simp only [depL]
    rcases List.mem_cons.mp h with rfl | h
    · omega
    · have := depL_mem h; omega
theorem szL_mem : ∀ {ds : List D} {d : D}, d ∈ ds → sz d ≤ szL ds
  | x :: ds, d, h => by
    simp only [szL]
    rcases List.mem_cons.mp h with rfl | h
    · omega
    · have := szL_mem h; omega
theorem wrdL_mem : ∀ {ds : List D} {d : D}, wrdL ds = true → d ∈ ds → wrd d = true
  | x :: ds, d, w, h => by
    simp only [wrdL, Bool.and_eq_true] at w
    rcases List.mem_cons.mp h with rfl | h
    · exact w.1
    · exact wrdL_mem w.2 h
section
variable {prog : Program} {w : World} {A : Around} {E : Value → Shared → Prop} {s : Shared}
def noFl : Value → Bool
  | .none => true | .int _ _ => true | .str _ _ => true | .ref _ => true | _ => false
theorem eqB_of_rc {u v : Value} {Q : Bool → Shared → Prop} (hne : (u == v) = true → False) (h : wpAny (model prog w) A (richCompare .Eq u v) (fun z s' => ∃ r, z = .bool r ∧ Q r s') E s) (hf : noFl u = true := by rfl) : wpAny (model prog w) A (eqBool u v) Q E s := by
  have go : wpAny (model prog w) A (do truthOfDropped (← richCompare .Eq u v)) Q E s := by
    refine wpAny_bind (wpAny_mono h (fun z s' hz => ?_) fun _ _ x => x)
    obtain ⟨r, rfl, q⟩ := hz
    exact wpAny_truthy_bool q
  cases u <;> first
    | (simp [noFl] at hf; done)
    | (unfold eqBool
       refine wpAny_holding ?_
       exact wpAny_ite_split (fun hab => (hne hab).elim) (fun _ => go))
end
section
variable {X : Cx} {n : Nat} {C : Addr}
/-- == of two words that are not both tuples -/
theorem eqMix (O : OwnS X.prog X.w X.K X.mg X.base n C (spEqG C)) (o : Oth X.K C) {A : Around} (sb : Sub X n A) {pins : List (Addr × Obj)} {s : Shared} {σ : L2.St} {H : Hp} {x y : V} {v u : Value} {d e : D} (I : Inv X pins σ H s) (rx : RelV x v) (ry : RelV y u)
    (hx : Is C H x d) (hy : Is C H y e) (wd : wrd d = true) (we : wrd e = true) (zd : sz d ≤ 1000000) (ze : sz e ≤ 1000000) (ht : (isTu d && isTu e) = false) : wpAny (model X.prog X.w) A (eqBool v u) (fun r s' => r = eqD d e ∧ LoopS X pins σ H s') X.xe s := by
  have hu := sb.room.units0
  have here : LoopS X pins σ H s := ⟨H, I, Same.refl H⟩
  have own : ∀ {a dx : Addr} {fs : List (Str × V)} {y : V} {v : Value} {d e : D}, H a = some (.ins C dx fs) → Is C H (.ref a) d → Is C H y e → RelV y v → isAt d = true → wrd d = true → wrd e = true → sz d ≤ 1000000 → sz e ≤ 1000000 → Own X.prog X.w A X.xe a v (eqD d e) (LoopS X pins σ H) s :=
    fun u1 h1 h2 rv d1 wd we zd ze => own_run O sb I u1 rv ⟨_, _, _, _, rfl, h1, h2, d1, wd, we, zd, ze, fun H' s' => ⟨rfl, s'⟩⟩
  have inst : ∀ {a dx : Addr} {fs : List (Str × V)}, H a = some (.ins C dx fs) → ∃ od, PySem.W.InstAt s.heap a (PySem.W.instObj C dx) C (some od) := fun u1 => by
    obtain ⟨mA, J, _⟩ := ins_get I.hok u1
    obtain ⟨od, J, _⟩ := J.look
    exact ⟨od, J⟩
  have tups : ∀ {a : Addr} {xs : List V}, H a = some (.tup xs) → ∃ its : Array Value, s.heap.IsTuple a its := fun h => by
    obtain ⟨its, r, e, z⟩ := I.tuple (SqT.of h)
    exact ⟨_, e⟩
  have comm : isAt d = false → isAt e = true → eqD e d = eqD d e := fun h1 h2 => by
    cases d <;> cases e <;> first | rfl | (simp [isAt] at h1; done) | (simp [isAt] at h2; done)
  have left : ∀ {a dx : Addr} {fs : List (Str × V)} {T : String}, H a = some (.ins C dx fs) → x = .ref a → s.TypeIs u T → (T = "NoneType" ∨ T = "int" ∨ T = "str" ∨ T = "tuple") → isAt d = true → wpAny (model X.prog X.w) A (richCompare .Eq v u) (fun z s' => ∃ r, z = .bool r ∧ r = eqD d e ∧ LoopS X pins σ H s') X.xe s := fun {a dx fs T} u1 hxa ht1 hT d1 => by
    subst hxa
    cases rx
    obtain ⟨od, J⟩ := inst u1
    exact rc_left (op := .Eq) hu I.kIn J ht1 hT (try_eq (own u1 hx hy ry d1 wd we zd ze)) (fun s' j => ⟨_, rfl, rfl, j⟩)
  have right : ∀ {c dy : Addr} {gs : List (Str × V)} {T id : String}, H c = some (.ins C dy gs) → y = .ref c → s.TypeIs v T → PySem.W.subIn X.K (.ref C) (.type T) = some false → oneThing? .Eq v (.ref c) = none → Slot T (cmpInfo .Eq).2.1 id →
      wpAny (model X.prog X.w) A (call (.builtin id) [v, .ref c]) (fun z s' => z = .notImplemented ∧ s' = s) X.xe s → isAt e = true → isAt d = false → wpAny (model X.prog X.w) A (richCompare .Eq v u) (fun z s' => ∃ r, z = .bool r ∧ r = eqD d e ∧ LoopS X pins σ H s') X.xe s := fun {c dy gs T id} u1 hyc ht1 hT hone sl dec e1 d1 => by
    subst hyc
    cases ry
    obtain ⟨od, J⟩ := inst u1
    exact rc_right (op := .Eq) hu I.kIn J ht1 hT hone sl dec (try_eq (own u1 hy hx rx e1 we wd ze zd)) (fun s' j => ⟨_, rfl, comm d1 e1, j⟩)
  have flat : flatV x = true → flatV y = true → eqV x y = eqD d e → wpAny (model X.prog X.w) A (eqBool v u) (fun r s' => r = eqD d e ∧ LoopS X pins σ H s') X.xe s := fun h1 h2 he => eqAt_V (A := A) (s := s) rx ry h1 h2 X.prog X.w X.xe _ ⟨he, here⟩
  cases hx with
  | bl b => cases wd
  | lst _ _ => cases wd
  | dct _ => cases wd
  | @atom a1 dx1 t1 k1 xs1 ds1 u1 v1 i1 =>
    cases hy with
    | bl b => cases we
    | lst _ _ => cases we
    | dct _ => cases we
    | non => cases rx; cases ry; exact eqB_of_rc (fun z => nomatch (eq_of_beq z)) (left u1 rfl rfl (.inl rfl) rfl)
    | int j => cases rx; obtain ⟨t, rfl⟩ := ry; exact eqB_of_rc (fun z => nomatch (eq_of_beq z)) (left u1 rfl rfl (.inr (.inl rfl)) rfl)
    | str z => cases rx; obtain ⟨t, rfl⟩ := ry; exact eqB_of_rc (fun z => nomatch (eq_of_beq z)) (left u1 rfl rfl (.inr (.inr (.inl rfl))) rfl)
    | @tup t2 _ _ h2 i2 =>
      cases rx
      cases ry
      obtain ⟨its, oo, ho, hc, _⟩ := tups h2
      refine eqB_of_rc (fun z => ?_) (left u1 rfl ⟨oo, ho, hc⟩ (.inr (.inr (.inr rfl))) rfl)
      have e1 := Value.ref.inj (eq_of_beq z)
      rw [e1, h2] at u1; cases u1
    | @atom a2 dx2 t2 k2 xs2 ds2 u2 v2 i2 =>
      cases rx
      cases ry
      by_cases hac : a1 = a2
      · subst hac
        have ed := Is.uniq (Is.atom u1 v1 i1) (Is.atom u2 v2 i2)
        rw [← ed, eqD_refl wd]
        exact SeqAt.EqAt.same (A := A) (s := s) (.ref a1) X.prog X.w X.xe _ ⟨rfl, here⟩
      · refine eqB_of_rc (fun z => hac (Value.ref.inj (eq_of_beq z))) ?_
        obtain ⟨od, J⟩ := inst u1
        obtain ⟨od2, J2⟩ := inst u2
        have ow := try_eq (own u1 (.atom u1 v1 i1) (.atom u2 v2 i2) (rfl : RelV (.ref a2) (.ref a2)) rfl wd we zd ze)
        unfold richCompare
        simp only [oneThing_ref]
        refine wpAny_holding (wpAny_bind (wpAny_cRoomFor hu ?_))
        refine wpAny_bind (J.type.here (wpAny_bind (J2.type.here ?_)))
        split
        · rename_i z
          exact absurd z (by simp)
        · refine wpAny_bind (wpAny_pure ?_)
          simp only [Bool.false_eq_true, if_false]
          refine wpAny_bind (wpAny_mono ow (fun r s' z => ?_) fun _ _ z => z)
          obtain ⟨rfl, j⟩ := z
          exact wpAny_pure ⟨_, rfl, rfl, j⟩
  | non =>
    cases hy with
    | bl b => cases we
    | lst _ _ => cases we
    | dct _ => cases we
    | non => exact flat rfl rfl rfl
    | int j => exact flat rfl rfl rfl
    | str z => exact flat rfl rfl rfl
    | tup h2 i2 =>
      cases rx
      cases ry
      obtain ⟨its, hi⟩ := tups h2
      exact EqAt.none_tuple hi hu _ _ _ _ ⟨rfl, here⟩
    | @atom c dy _ _ _ _ u2 _ _ =>
      cases rx
      have r := right u2 rfl (T := "NoneType") rfl o.sN rfl F.slot_NoneType_eq (call_gives F.slot_NoneType_eq rfl F.entry_NoneType_eq (F.args_NoneType_eq_2 _ _) (NoneType___eq___none_ref_0 c) ⟨rfl, rfl⟩) rfl rfl
      cases ry
      exact eqB_of_rc (fun z => nomatch (eq_of_beq z)) r
  | int i =>
    cases hy with
    | bl b => cases we
    | lst _ _ => cases we
    | dct _ => cases we
    | non => exact flat rfl rfl rfl
    | int j => exact flat rfl rfl (by simp only [eqV, eqD]; exact Bool.eq_iff_iff.mpr (by simp))
    | str z => exact flat rfl rfl rfl
    | tup h2 i2 =>
      obtain ⟨t, rfl⟩ := rx
      cases ry
      obtain ⟨its, hi⟩ := tups h2
      exact EqAt.int_tuple i t hi hu _ _ _ _ ⟨rfl, here⟩
    | @atom c dy _ _ _ _ u2 _ _ =>
      obtain ⟨t, rfl⟩ := rx
      obtain ⟨od, J⟩ := inst u2
      have r := right u2 rfl (T := "int") rfl o.sI rfl F.slot_int_eq (call_meets F.slot_int_eq rfl F.entry_int_eq (F.args_int_eq_2 _ _) (int_eq_inst i t c C dy) ⟨J.at_, rfl, rfl⟩) rfl rfl
      cases ry
      exact eqB_of_rc (fun z => nomatch (eq_of_beq z)) r
  | str z0 =>
    cases hy with
    | bl b => cases we
    | lst _ _ => cases we
    | dct _ => cases we
    | non => exact flat rfl rfl rfl
    | int j => exact flat rfl rfl rfl
    | str z => exact flat rfl rfl (by simp only [eqV, eqD]; exact Bool.eq_iff_iff.mpr (by simp))
    | tup h2 i2 =>
      obtain ⟨t, rfl⟩ := rx
      cases ry
      obtain ⟨its, hi⟩ := tups h2
      exact EqAt.str_tuple z0 t hi hu _ _ _ _ ⟨rfl, here⟩
    | @atom c dy _ _ _ _ u2 _ _ =>
      obtain ⟨t, rfl⟩ := rx
      obtain ⟨od, J⟩ := inst u2
      have r := right u2 rfl (T := "str") rfl o.sS rfl F.slot_str_eq (call_meets F.slot_str_eq rfl F.entry_str_eq (F.args_str_eq_2 _ _) (str_eq_inst z0 t c C dy) ⟨J.at_, rfl, rfl⟩) rfl rfl
      cases ry
      exact eqB_of_rc (fun z => nomatch (eq_of_beq z)) r
  | @tup a1 xs1 ds1 h1 i1 =>
    cases rx
    obtain ⟨its, hi⟩ := tups h1
    cases hy with
    | bl b => cases we
    | lst _ _ => cases we
    | dct _ => cases we
    | non => cases ry; exact EqAt.tuple_none hi hu _ _ _ _ ⟨rfl, here⟩
    | int j => obtain ⟨t, rfl⟩ := ry; exact EqAt.tuple_int j t hi hu _ _ _ _ ⟨rfl, here⟩
    | str z => obtain ⟨t, rfl⟩ := ry; exact EqAt.tuple_str z t hi hu _ _ _ _ ⟨rfl, here⟩
    | tup h2 i2 => cases ht
    | @atom c dy _ _ _ _ u2 _ _ =>
      obtain ⟨od, J⟩ := inst u2
      obtain ⟨⟨cls, dd, data, sl⟩, ho, hc, k, hd⟩ := id hi
      simp only at hc hd
      subst hc hd
      have r := right u2 rfl (T := "tuple") ⟨_, ho, rfl⟩ o.sT (oneThing_ref _ _ _) F.slot_tuple_eq (GQ.call_here F.slot_tuple_eq ⟨_, ho, rfl⟩ F.entry_tuple_eq (F.args_tuple_eq_2 _ _) (tup_eq_inst (PySem.W.looks_subIn I.kIn o.sT) J.at_ ho ⟨rfl, rfl⟩)) rfl rfl
      cases ry
      refine eqB_of_rc (fun z => ?_) r
      have e1 := Value.ref.inj (eq_of_beq z)
      rw [e1, u2] at h1; cases h1
end
end Hc

namespace Hc
open PySem PySem.Spec PyProof.Rows L2 Hr PySem.SeqAt
theorem eqL_all : ∀ {ds es : List D} (bs : Nat → Bool), (∀ i d e, ds[i]? = some d → es[i]? = some e → bs i = eqD d e) → allP bs ds.length es.length = eqL ds es
  | [], [], bs, _ => rfl
  | [], _ :: _, bs, _ => by simp [allP, eqL]
  | _ :: _, [], bs, _ => by simp [allP, eqL]
  | d :: ds, e :: es, bs, h => by
    have h0 := h 0 d e rfl rfl
    have ih := eqL_all (ds := ds) (es := es) (fun i => bs (i + 1)) fun i d' e' h1 h2 => h (i + 1) d' e' (by simpa using h1) (by simpa using h2)
    simp only [eqL]
    rw [← ih, ← h0]
    unfold allP
    simp only [List.length_cons]
    have hm : min (ds.length + 1) (es.length + 1) = min ds.length es.length + 1 := by omega
    rw [hm, List.range_succ_eq_map, List.all_cons, List.all_map]
    have : (ds.length + 1 == es.length + 1) = (ds.length == es.length) := by simp
    rw [this, Bool.and_assoc]
    rfl
section
variable {X : Cx} {n : Nat} {C : Addr}
/-- what is asked of two words that are compared -/
structure W2 (C : Addr) (H : Hp) (x y : V) (d e : D) : Prop where
  x : Is C H x d
  y : Is C H y e
  wd : wrd d = true
  we : wrd e = true
  zd : sz d ≤ 1000000
  ze : sz e ≤ 1000000
theorem W2.same {H H' : Hp} {x y : V} {d e : D} (w : W2 C H x y d e) (s : Same H H') : W2 C H' x y d e := ⟨w.x.same s, w.y.same s, w.wd, w.we, w.zd, w.ze⟩
/-- == of two words -/
theorem eqW (O : OwnS X.prog X.w X.K X.mg X.base n C (spEqG C)) (o : Oth X.K C) : ∀ (N : Nat) {A : Around} (sb : Sub X (N + n) A) {pins : List (Addr × Obj)} {s : Shared} {σ : L2.St} {H : Hp} {x y : V} {v u : Value} {d e : D}, dep d ≤ N → Inv X pins σ H s → RelV x v → RelV y u → W2 C H x y d e →
    wpAny (model X.prog X.w) A (eqBool v u) (fun r s' => r = eqD d e ∧ LoopS X pins σ H s') X.xe s := by
  intro N
  induction N with
  | zero =>
    intro A sb pins s σ H x y v u d e hd I rx ry w
    have ht : isTu d = false := by cases d <;> first | rfl | (simp [dep] at hd; done)
    exact eqMix O o (sb.mono (by omega)) I rx ry w.x w.y w.wd w.we w.zd w.ze (by rw [ht]; rfl)
  | succ N ih =>
    intro A sb pins s σ H x y v u d e hd I rx ry w
    by_cases ht : (isTu d && isTu e) = false
    · exact eqMix O o (sb.mono (by omega)) I rx ry w.x w.y w.wd w.we w.zd w.ze ht
    · have ht2 : isTu d = true ∧ isTu e = true := by simpa using ht
      obtain ⟨ds, rfl⟩ : ∃ ds, d = .tup ds := by cases d <;> first | exact ⟨_, rfl⟩ | (simp [isTu] at ht2; done)
      obtain ⟨es, rfl⟩ : ∃ es, e = .tup es := by cases e <;> first | exact ⟨_, rfl⟩ | (simp [isTu] at ht2; done)
      have hx := w.x
      have hy := w.y
      have wd := w.wd
      have we := w.we
      have zd := w.zd
      have ze := w.ze
      simp only [wrd] at wd we
      simp only [sz] at zd ze
      cases hx with
      | @tup a xs _ h1 i1 =>
      cases hy with
      | @tup b ys _ h2 i2 =>
      cases rx
      cases ry
      have here : LoopS X pins σ H s := ⟨H, I, Same.refl H⟩
      by_cases hab : a = b
      · subst hab
        have ed := Is.uniq w.x w.y
        rw [← ed, eqD_refl w.wd]
        exact SeqAt.EqAt.same (A := A) (s := s) (.ref a) X.prog X.w X.xe _ ⟨rfl, here⟩
      · refine eqB_of_rc (fun z => hab (Value.ref.inj (eq_of_beq z))) ?_
        obtain ⟨its, r, eT, z⟩ := I.tuple (SqT.of h1)
        obtain ⟨its2, r2, eT2, z2⟩ := I.tuple (SqT.of h2)
        have l1 := r.length
        have l2 := r2.length
        have l3 := i1.len
        have l4 := i2.len
        obtain ⟨⟨cls, dd, data, sl⟩, ho, hc, n1, hd1⟩ := id eT
        obtain ⟨⟨cls2, dd2, data2, sl2⟩, ho2, hc2, n2, hd2⟩ := id eT2
        simp only at hc hd1 hc2 hd2
        subst hc hd1 hc2 hd2
        have hdep : depL ds ≤ N := by simp only [dep] at hd; omega
        have sb1 : Sub X (N + n + 1) A := sb.mono (by omega)
        -- the pairs
        have pair : ∀ i (k1 : i < its.toArray.size) (k2 : i < its2.toArray.size) s1, LoopS X pins σ H s1 → wpAny (model X.prog X.w) A.in1 (eqBool its.toArray[i] its2.toArray[i]) (fun r s' => r = (match ds[i]?, es[i]? with | some d, some e => eqD d e | _, _ => false) ∧ LoopS X pins σ H s') X.xe s1 := fun i k1 k2 s1 j => by
          obtain ⟨H1, I1, e1⟩ := j
          have k1' : i < its.length := by simpa using k1
          have k2' : i < its2.length := by simpa using k2
          obtain ⟨p, hp, rp⟩ := r.get (List.getElem?_eq_getElem (show i < xs.length by omega))
          obtain ⟨q, hq, rq⟩ := r2.get (List.getElem?_eq_getElem (show i < ys.length by omega))
          rw [List.getElem?_eq_getElem k1'] at hp
          rw [List.getElem?_eq_getElem k2'] at hq
          have ep : its.toArray[i] = p := by simpa using Option.some.inj hp
          have eq : its2.toArray[i] = q := by simpa using Option.some.inj hq
          obtain ⟨d', hd', ix⟩ := i1.at (List.getElem?_eq_getElem (show i < xs.length by omega))
          obtain ⟨e', he', iy⟩ := i2.at (List.getElem?_eq_getElem (show i < ys.length by omega))
          have md := List.mem_of_getElem? hd'
          have me := List.mem_of_getElem? he'
          have s1' := szL_mem md
          have s2' := szL_mem me
          rw [ep, eq, hd', he']
          refine wpAny_mono (ih (A := A.in1) sb1.in1 (Nat.le_trans (depL_mem md) hdep) I1 rp rq ⟨ix.same e1, iy.same e1, wrdL_mem wd md, wrdL_mem we me, by omega, by omega⟩) (fun r s2 q2 => ?_) fun _ _ z => z
          obtain ⟨hr, H2, I2, e2⟩ := q2
          exact ⟨hr, H2, I2, e1.trans e2⟩
        have hall : allP (fun i => match ds[i]?, es[i]? with | some d, some e => eqD d e | _, _ => false) its.toArray.size its2.toArray.size = eqL ds es := by
          rw [List.size_toArray, List.size_toArray, ← l1, ← l2, l3, l4]
          exact eqL_all _ fun i d' e' h1 h2 => by simp only [h1, h2]
        refine wpAny_richCompare_same_room (op := .Eq) ⟨_, ho, rfl⟩ ⟨_, ho2, rfl⟩ F.slot_tuple_eq (GQ.call_here F.slot_tuple_eq ⟨_, ho, rfl⟩ F.entry_tuple_eq (F.args_tuple_eq_2 _ _) ?_) sb.room.units0
        exact tup_eqB (R := wants (fun z s' => z ≠ .notImplemented ∧ ∃ r, z = .bool r ∧ r = eqD (.tup ds) (.tup es) ∧ LoopS X pins σ H s') X.xe) pair (fun s' j => ⟨(fun z => nomatch z), _, rfl, by rw [hall]; rfl, j⟩) ho ho2 here
end
section
variable {X : Cx} {n N : Nat} {C : Addr}
/-- x in l, x not in l: words -/
def rInW (C : Addr) (N : Nat) (g : Bool → Bool) : R2 := fun x y H Q => ∃ l xs ds d, y = .ref l ∧ H l = some (.lst xs) ∧ IsA C H xs ds ∧ Is C H x d ∧ wrd d = true ∧ wrdL ds = true ∧ depL ds ≤ N ∧ sz d ≤ 1000000 ∧ szL ds ≤ 1000000 ∧ ∀ H', Same H H' → Q (.bl (g (ds.any fun e => eqD e d))) H'
theorem asksW (O : OwnS X.prog X.w X.K X.mg X.base n C (spEqG C)) (o : Oth X.K C) {A : Around} {pins : List (Addr × Obj)} {σ : L2.St} {H : Hp} (sb : Sub X (N + n + 1) A) {l : Addr} {xs : List V} {ds : List D} {x : V} {v : Value} {d : D}
    (hl : H l = some (.lst xs)) (hxs : IsA C H xs ds) (hx : Is C H x d) (rx : RelV x v) (wd : wrd d = true) (ws : wrdL ds = true) (hdp : depL ds ≤ N) (zd : sz d ≤ 1000000) (zs : szL ds ≤ 1000000) : Asks X.prog X.w A X.xe l v (LoopS X pins σ H) (ds.map fun e => eqD e d) := by
  refine ⟨fun s1 j => ?_⟩
  obtain ⟨H1, I1, e1⟩ := j
  obtain ⟨z, its, k, r, e⟩ := I1.hok l _ (e1 _ _ hl)
  have hlen := r.length
  have hxl := hxs.len
  refine ⟨its.toArray, k, e, by rw [List.size_toArray, List.length_map]; omega, fun i h h2 => ?_⟩
  have h' : i < its.length := by simpa using h
  have hi : i < xs.length := by omega
  obtain ⟨u, hu, ru⟩ := r.get (List.getElem?_eq_getElem hi)
  rw [List.getElem?_eq_getElem h'] at hu
  have hu2 : its.toArray[i] = u := by simpa using Option.some.inj hu
  obtain ⟨y, hy, hyi⟩ := hxs.at (List.getElem?_eq_getElem hi)
  have my := List.mem_of_getElem? hy
  have hb : (ds.map fun e => eqD e d)[i] = eqD y d := by
    have : (ds.map fun e => eqD e d)[i]? = some (eqD y d) := by rw [List.getElem?_map, hy]; rfl
    rw [List.getElem?_eq_getElem h2] at this
    exact Option.some.inj this
  rw [hu2, hb]
  have sy := szL_mem my
  refine wpAny_mono (eqW O o N sb.in1 (Nat.le_trans (depL_mem my) hdp) I1 ru rx ⟨hyi.same e1, hx.same e1, wrdL_mem ws my, wd, by omega, zd⟩) (fun r s2 q => ?_) fun _ _ x => x
  obtain ⟨hr, H2, I2, e2⟩ := q
  exact ⟨hr, H2, I2, e1.trans e2⟩
theorem op_inW (O : OwnS X.prog X.w X.K X.mg X.base n C (spEqG C)) (o : Oth X.K C) (hr : Room (N + n + 1) X.A) : OpR X (compareOp .In) (rInW C N id) := by
  intro pins s σ H x y v u Q I rx ry h
  obtain ⟨l, xs, ds, d, rfl, hl, hxs, hx, wd, ws, hdp, zd, zs, q⟩ := h
  cases ry
  refine op_in_ (asksW O o ⟨hr, rfl⟩ hl hxs hx rx wd ws hdp zd zs) (s := s) ⟨H, I, Same.refl H⟩ (fun s' j => ?_)
  obtain ⟨H', I', e⟩ := j
  have e9 : ((ds.map fun e => eqD e d).any id) = ds.any fun e => eqD e d := by rw [List.any_map]; rfl
  rw [e9]
  exact ⟨.bl _, H', I', rfl, q H' e⟩
theorem op_notInW (O : OwnS X.prog X.w X.K X.mg X.base n C (spEqG C)) (o : Oth X.K C) (hr : Room (N + n + 1) X.A) : OpR X (compareOp .NotIn) (rInW C N not) := by
  intro pins s σ H x y v u Q I rx ry h
  obtain ⟨l, xs, ds, d, rfl, hl, hxs, hx, wd, ws, hdp, zd, zs, q⟩ := h
  cases ry
  refine op_notIn_ (asksW O o ⟨hr, rfl⟩ hl hxs hx rx wd ws hdp zd zs) (s := s) ⟨H, I, Same.refl H⟩ (fun s' j => ?_)
  obtain ⟨H', I', e⟩ := j
  have e9 : ((ds.map fun e => eqD e d).any id) = ds.any fun e => eqD e d := by rw [List.any_map]; rfl
  rw [e9]
  exact ⟨.bl _, H', I', rfl, q H' e⟩
/-- x == y as an expression, from the == inside a list -/
def rEqW (C : Addr) (N : Nat) : R2 := fun x y H Q => ∃ d e, W2 C H x y d e ∧ dep d ≤ N ∧ ∀ H', Same H H' → Q (.bl (eqD d e)) H'
end
end Hc

namespace Hc
open PySem PySem.Spec PyProof.Rows L2 Hr
/-- tuples and atoms stay -/
structure Keep (C : Addr) (H H' : Hp) : Prop where
  tup : ∀ b xs, H b = some (.tup xs) → H' b = some (.tup xs)
  ins : ∀ b dx fs, H b = some (.ins C dx fs) → H' b = some (.ins C dx fs)
theorem Keep.of {C : Addr} {H H' : Hp} (s : Same H H') : Keep C H H' := ⟨fun b _ e => s b _ e, fun b _ _ e => s b _ e⟩
theorem Keep.trans {C : Addr} {H H1 H2 : Hp} (a : Keep C H H1) (b : Keep C H1 H2) : Keep C H H2 := ⟨fun c xs e => b.tup c xs (a.tup c xs e), fun c dx fs e => b.ins c dx fs (a.ins c dx fs e)⟩
theorem Keep.lst {C : Addr} {H : Hp} {l : Addr} {xs ys : List V} (h : H l = some (.lst xs)) : Keep C H (upd H l (.lst ys)) :=
  ⟨fun b _ e => by rw [upd_ne (fun z => by rw [z, h] at e; cases e)]; exact e, fun b _ _ e => by rw [upd_ne (fun z => by rw [z, h] at e; cases e)]; exact e⟩
/-- all but the list at l stays -/
def But (l : Addr) (H H' : Hp) : Prop := ∀ b o, H b = some o → b ≠ l → H' b = some o
theorem But.keep {C l : Addr} {H H' : Hp} {xs : List V} (h : H l = some (.lst xs)) (b : But l H H') : Keep C H H' :=
  ⟨fun c _ e => b c _ e (fun z => by rw [z, h] at e; cases e), fun c _ _ e => b c _ e (fun z => by rw [z, h] at e; cases e)⟩
mutual
/-- no lists and no dicts within -/
def cln : D → Bool
  | .tup ds => clnL ds
  | .atom _ ds => clnL ds
  | .lst _ => false
  | .dct => false
  | _ => true
def clnL : List D → Bool
  | [] => true
  | d :: ds => cln d && clnL ds
end
mutual
theorem Is.keep {C : Addr} {H H' : Hp} (k : Keep C H H') : ∀ {x : V} {d : D}, cln d = true → Is C H x d → Is C H' x d
  | _, _, _, .non => .non
  | _, _, _, .bl b => .bl b
  | _, _, _, .int i => .int i
  | _, _, _, .str s => .str s
  | _, _, c, .tup h t => .tup (k.tup _ _ h) (IsA.keep k (by simpa [cln] using c) t)
  | _, _, c, .lst h t => by simp [cln] at c
  | _, _, c, .dct h => by simp [cln] at c
  | _, _, c, .atom h h2 t => .atom (k.ins _ _ _ h) (k.tup _ _ h2) (IsA.keep k (by simpa [cln] using c) t)
theorem IsA.keep {C : Addr} {H H' : Hp} (k : Keep C H H') : ∀ {xs : List V} {ds : List D}, clnL ds = true → IsA C H xs ds → IsA C H' xs ds
  | _, _, _, .nil => .nil
  | _, _, c, .cons h t => by
    simp only [clnL, Bool.and_eq_true] at c
    exact .cons (Is.keep k c.1 h) (IsA.keep k c.2 t)
end
theorem clnL_iff : ∀ {ds : List D}, clnL ds = true ↔ ∀ d ∈ ds, cln d = true
  | [] => by simp [clnL]
  | d :: ds => by simp [clnL, clnL_iff (ds := ds)]
theorem clnL_app (a b : List D) : clnL (a ++ b) = (clnL a && clnL b) := by
  induction a with
  | nil => simp [clnL]
  | cons x a ih => rw [List.cons_append]; simp only [clnL]; rw [ih, Bool.and_assoc]
/-- what is there already is passed over -/
def add1 (ds : List D) (a : D) : List D := if ds.any (fun e => eqD e a) then ds else ds ++ [a]
def addAll (ds ps : List D) : List D := ps.foldl add1 ds
theorem add1_mem {ds : List D} {a e : D} (h : e ∈ add1 ds a) : e ∈ ds ∨ e = a := by
  unfold add1 at h
  split at h
  · exact .inl h
  · simpa using h
theorem addAll_mem : ∀ {ps ds : List D} {e : D}, e ∈ addAll ds ps → e ∈ ds ∨ e ∈ ps
  | [], ds, e, h => .inl h
  | p :: ps, ds, e, h => by
    rcases addAll_mem (ps := ps) (ds := add1 ds p) h with h | h
    · rcases add1_mem h with h | h
      · exact .inl h
      · exact .inr (by rw [h]; exact List.mem_cons_self)
    · exact .inr (List.mem_cons_of_mem _ h)
theorem addAll_app (ds ps qs : List D) : addAll ds (ps ++ qs) = addAll (addAll ds ps) qs := List.foldl_append
theorem add1_len (ds : List D) (a : D) : (add1 ds a).length ≤ ds.length + 1 := by
  unfold add1
  split
  · omega
  · simp
theorem addAll_len : ∀ (ps ds : List D), (addAll ds ps).length ≤ ds.length + ps.length
  | [], ds => Nat.le_refl _
  | p :: ps, ds => by
    have := addAll_len ps (add1 ds p)
    have := add1_len ds p
    show (addAll (add1 ds p) ps).length ≤ _
    simp only [List.length_cons]; omega
mutual
theorem wrd_cln : ∀ {d : D}, wrd d = true → cln d = true
  | .tup ds, h => by simp only [wrd] at h; simp only [cln]; exact wrdL_cln h
  | .atom k ds, h => by simp only [wrd, Bool.and_eq_true] at h; simp only [cln]; exact wrdL_cln h.1
  | .non, _ => rfl
  | .int _, _ => rfl
  | .str _, _ => rfl
  | .bl _, h => by simp [wrd] at h
  | .lst _, h => by simp [wrd] at h
  | .dct, h => by simp [wrd] at h
theorem wrdL_cln : ∀ {ds : List D}, wrdL ds = true → clnL ds = true
  | [], _ => rfl
  | d :: ds, h => by
    simp only [wrdL, Bool.and_eq_true] at h
    simp only [clnL]; rw [wrd_cln h.1, wrdL_cln h.2]; rfl
end
theorem wrdL_iff : ∀ {ds : List D}, wrdL ds = true ↔ ∀ d ∈ ds, wrd d = true
  | [] => by simp [wrdL]
  | d :: ds => by simp [wrdL, wrdL_iff (ds := ds)]
mutual
theorem places_sz : ∀ d : D, szL (places d) ≤ sz d
  | .tup ds => by simp only [places, sz]; have := placesL_sz ds; omega
  | .atom k ds => by simp [places, sz, szL]
  | .non | .bl _ | .int _ | .str _ | .lst _ | .dct => by simp [places, szL]
theorem placesL_sz : ∀ ds : List D, szL (placesL ds) ≤ szL ds
  | [] => Nat.le_refl _
  | d :: ds => by simp only [placesL, szL]; rw [szL_app]; have := places_sz d; have := placesL_sz ds; omega
end
theorem add1_sz (ds : List D) (a : D) : szL (add1 ds a) ≤ szL ds + sz a := by
  unfold add1
  split
  · omega
  · rw [szL_app]; simp [szL]
theorem addAll_sz : ∀ (ps ds : List D), szL (addAll ds ps) ≤ szL ds + szL ps
  | [], ds => Nat.le_refl _
  | p :: ps, ds => by
    have h1 := addAll_sz ps (add1 ds p)
    have h2 := add1_sz ds p
    show szL (addAll (add1 ds p) ps) ≤ _
    simp only [szL]; omega
theorem szL_take (ds : List D) (i : Nat) : szL (ds.take i) ≤ szL ds := by
  have : szL ds = szL (ds.take i) + szL (ds.drop i) := by rw [← szL_app, List.take_append_drop]
  omega
theorem depL_atoms : ∀ {ds : List D}, (∀ d ∈ ds, ∃ k gs, d = .atom k gs) → depL ds = 0
  | [], _ => rfl
  | d :: ds, h => by
    obtain ⟨k, gs, rfl⟩ := h d List.mem_cons_self
    simp only [depL]
    rw [depL_atoms fun e he => h e (List.mem_cons_of_mem _ he)]; rfl
end Hc

namespace Hc
open PySem PySem.Spec PyProof.Rows L2 Hr
theorem ru {k : Nat} {A : Around} (r : Room k A) : A.units + 1 < cLine := by have := r.units; omega
def kD (c : Addr) (r m : Int) : List (Key × V) := [(.inr "cells", .ref c), (.inr "rest", .int r), (.inr "mixed", .int m)]
theorem n_rc : ¬ (("cells" : Str) = "rest") := by decide +kernel
theorem n_mc : ¬ (("cells" : Str) = "mixed") := by decide +kernel
theorem n_mr : ¬ (("rest" : Str) = "mixed") := by decide +kernel
theorem n_cr : ¬ (("rest" : Str) = "cells") := by decide +kernel
theorem n_cm : ¬ (("mixed" : Str) = "cells") := by decide +kernel
theorem n_rm : ¬ (("mixed" : Str) = "rest") := by decide +kernel
section
variable {H : Hp} {d c : Addr} {r m : Int}
theorem dg_cells (h : H d = some (.dK (kD c r m))) : DGet H d (.str "cells") (some (.ref c)) := by
  have := DGet.k (k := .inr "cells") h
  rwa [show valV (kD c r m) (.inr "cells") = some (.ref c) by simp [kD, valV]] at this
theorem dg_rest (h : H d = some (.dK (kD c r m))) : DGet H d (.str "rest") (some (.int r)) := by
  have := DGet.k (k := .inr "rest") h
  rwa [show valV (kD c r m) (.inr "rest") = some (.int r) by simp [kD, valV, n_rc]] at this
theorem dg_mixed (h : H d = some (.dK (kD c r m))) : DGet H d (.str "mixed") (some (.int m)) := by
  have := DGet.k (k := .inr "mixed") h
  rwa [show valV (kD c r m) (.inr "mixed") = some (.int m) by simp [kD, valV, n_mc, n_mr]] at this
theorem dp_rest {v : Int} (h : H d = some (.dK (kD c r m))) : DPut H d (.str "rest") (.int v) (upd H d (.dK (kD c v m))) := by
  have := DPut.k (k := .inr "rest") (v := .int v) h (Nat.lt_of_lt_of_le (show 3 < 1000001 by decide) (by decide))
  rwa [show putK (kD c r m) (.inr "rest") (.int v) = kD c v m by simp [kD, putK, n_rc, n_mr, n_rm]] at this
theorem dp_mixed {v : Int} (h : H d = some (.dK (kD c r m))) : DPut H d (.str "mixed") (.int v) (upd H d (.dK (kD c r v))) := by
  have := DPut.k (k := .inr "mixed") (v := .int v) h (Nat.lt_of_lt_of_le (show 3 < 1000001 by decide) (by decide))
  rwa [show putK (kD c r m) (.inr "mixed") (.int v) = kD c r v by simp [kD, putK, n_mc, n_mr]] at this
end
/-- the drawing dict, its cells -/
def Dr (H : Hp) (d c : Addr) : Prop := (∃ r m, H d = some (.dK (kD c r m))) ∧ ∃ ns : List Int, ns.length ≤ 1000 ∧ H c = some (.lst (ns.map V.int))
/-- all but those two stay -/
def Bu2 (d c : Addr) (H H' : Hp) : Prop := ∀ b o, H b = some o → b ≠ d → b ≠ c → H' b = some o
theorem Bu2.refl {d c : Addr} {H : Hp} : Bu2 d c H H := fun _ _ e _ _ => e
theorem Bu2.of {d c : Addr} {H H' : Hp} (s : Same H H') : Bu2 d c H H' := fun b o e _ _ => s b o e
theorem Bu2.trans {d c : Addr} {H H1 H2 : Hp} (a : Bu2 d c H H1) (b : Bu2 d c H1 H2) : Bu2 d c H H2 := fun x o e n1 n2 => b x o (a x o e n1 n2) n1 n2
theorem Bu2.d {d c : Addr} {H : Hp} {o : HO} : Bu2 d c H (upd H d o) := fun x _ e n _ => by rw [upd_ne n]; exact e
theorem Bu2.c {d c : Addr} {H : Hp} {o : HO} : Bu2 d c H (upd H c o) := fun x _ e _ n => by rw [upd_ne n]; exact e
theorem Dr.ne {H : Hp} {d c : Addr} (h : Dr H d c) : d ≠ c := fun z => by
  obtain ⟨⟨r, m, h1⟩, ns, _, h2⟩ := h
  rw [z, h2] at h1; cases h1
theorem Dr.keep {C : Addr} {H H' : Hp} {d c : Addr} (h : Dr H d c) (b : Bu2 d c H H') : Keep C H H' := by
  obtain ⟨⟨r, m, h1⟩, ns, _, h2⟩ := h
  exact ⟨fun x _ e => b x _ e (fun z => by rw [z, h1] at e; cases e) (fun z => by rw [z, h2] at e; cases e), fun x _ _ e => b x _ e (fun z => by rw [z, h1] at e; cases e) (fun z => by rw [z, h2] at e; cases e)⟩
theorem Dr.same {H H' : Hp} {d c : Addr} (s : Same H H') (h : Dr H d c) : Dr H' d c := by
  obtain ⟨⟨r, m, h1⟩, ns, hn, h2⟩ := h
  exact ⟨⟨r, m, s _ _ h1⟩, ns, hn, s _ _ h2⟩
/-- what is none of the two stays none -/
theorem Dr.off {H : Hp} {d c : Addr} (h : Dr H d c) {p : Addr} (hp : H p = none) : p ≠ d ∧ p ≠ c := by
  obtain ⟨⟨r, m, h1⟩, ns, hn, h2⟩ := h
  exact ⟨fun z => (by rw [z, h1] at hp; cases hp), fun z => (by rw [z, h2] at hp; cases hp)⟩
def spDraw : Sp := fun vs H Q _ => ∃ d c many, vs = [.ref d, .int many] ∧ Dr H d c ∧ 0 < many ∧ many < 1073741824 ∧ ∀ H' r, Dr H' d c → Bu2 d c H H' → 0 ≤ r → r < many → Q (.int r) H'
def spPick : Sp := fun vs H Q _ => ∃ (d c l : Addr) (xs : List V), vs = [.ref d, .ref l] ∧ Dr H d c ∧ H l = some (.lst xs) ∧ l ≠ c ∧ 0 < xs.length ∧ xs.length < 1000000 ∧ ∀ (H' : Hp) (i : Nat) (x : V), Dr H' d c → Bu2 d c H H' → xs[i]? = some x → Q x H'
section
variable {P : Program} {w : World} {K : PySem.W.Frag} {mg : Str → Option Value} {base : Heap} {f : Addr} {fd : FuncData} {C : Addr}
abbrev s__law_begin : Stmt := top 51
theorem sc__law_begin : FnScope ["script"] ["script"] (C8.fnScope s__law_begin) := C8.fnScope_by (by decide +kernel)
theorem ok__law_begin (F : C8.Def K mg "_law_begin" s__law_begin f fd) (b : Binds K fd ["script"] []) (T : Txt K mg w C) : C8.Cal P w K mg base 1 "_law_begin" (fun vs H Q _ => ∃ (a : Addr) (ns : List Int), vs = [.ref a] ∧ SqL K H a (ns.map V.int) ∧ ns.length ≤ 1000 ∧ ∀ H' d c, Same H H' → H d = none → H c = none → Dr H' d c → Q (.ref d) H') [] := by
  refine C8.cal0 F b .nil sc__law_begin (fun vs H Q E h => ?_) (fun cdv A outer s H vs Q E hr h => ?_)
  · obtain ⟨a, ns, rfl, _⟩ := h; rfl
  obtain ⟨a, ns, rfl, hl, hn, q⟩ := h
  refine ⟨_, (pss_one (ps_ret (pe_disp (pps_cons pe_str (pe_callTy call_list_of rfl T.z_list bt_list (pa_cons (pv 0) pa_nil)) (pps_cons pe_str pe_int (pps_cons pe_str pe_int pps_nil))) rfl rfl (List.cons_ne_nil _ _) (by decide)))), ?_⟩
  intro d hd
  have s1 := same_new (o := .dK []) hd
  refine ⟨_, rfl, a, ns.map V.int, rfl, .inl (hl.ext s1), fun c hc => ?_⟩
  have ndc : d ≠ c := fun z => by rw [← z, upd_same] at hc; cases hc
  refine ⟨by rw [upd_ne ndc]; exact upd_same, kD c 0 1, rfl, by show 3 ≤ 15; decide, ?_⟩
  refine q _ d c (same_put (same_put s1 (s1.free hc)) hd) hd (s1.free hc) ⟨⟨0, 1, ?_⟩, ns, hn, by rw [upd_ne ndc.symm]; exact upd_same⟩
  rw [upd_same]
  refine congrArg (fun l => some (HO.dK l)) ?_
  simp [kD, mergeK, putK, n_rc, n_mc, n_mr]
abbrev s__law_draw : Stmt := top 52
theorem sc__law_draw : FnScope ["draws", "many", "cells", "cell", "value"] ["draws", "many"] (C8.fnScope s__law_draw) := C8.fnScope_by (by decide +kernel)
theorem ok__law_draw (F : C8.Def K mg "_law_draw" s__law_draw f fd) (b : Binds K fd ["draws", "many"] []) (T : Txt K mg w C) : C8.Cal P w K mg base 1 "_law_draw" spDraw [] := by
  refine C8.cal0 F b .nil sc__law_draw (fun vs H Q E h => ?_) (fun cdv A outer s H vs Q E hr h => ?_)
  · obtain ⟨d, c, many, rfl, _⟩ := h; rfl
  obtain ⟨d, c, many, rfl, hD, hm0, hm1, q⟩ := h
  refine ⟨_, (C8.pss_cut (ps_if (PW.pt (pw_and (pt_cmpR op_eq (pe_dget (ru hr) (pv 0) pe_str (fun _ _ => rfl)) pe_int (nomark _)) (pw_and1 (pt_cmpR op_gt (pe_callB call_lenS rfl T.z_len bt_len (pa_cons (pe_dget (ru hr) (pv 0) pe_str (fun _ _ => rfl)) pa_nil)) pe_int (nomark _))))) (pss_cons (ps_set (i := 2) sc__law_draw.nd rfl (Or.inl rfl) (pe_dget (ru hr) (pv 0) pe_str (fun _ _ => rfl)))
      (pss_cons (ps_set (i := 3) sc__law_draw.nd rfl (Or.inl rfl) (pe_callB call_abs rfl T.z_abs bt_abs (pa_cons (pe_bm PySem.F.plainAttrs_list PySem.F.slot_list_pop PySem.F.type_list_pop mt_popAt (pv 2) (pa_cons pe_int pa_nil)) pa_nil)))
      (pss_cons (ps_if (pt_cmpR op_ge (pv 3) (pe_op op_pow pe_int pe_int) (nomark _)) (pss_one (ps_dput (ru hr) (pv 0) pe_str (pv 3) rfl)) pss_nil)
      (pss_one (ps_dput (ru hr) (pv 0) pe_str (pe_op op_mod (pe_callTy call_int1 rfl T.z_int bt_int (pa_cons (pe_op op_add (pe_op op_add (pe_op op_mul (pe_dget (ru hr) (pv 0) pe_str (fun _ _ => rfl)) pe_int) (pv 3)) pe_int) pa_nil)) pe_int) rfl))))) pss_nil)
      (pss_cons (ps_if (pt_cmpR op_gt (pe_dget (ru hr) (pv 0) pe_str (fun _ _ => rfl)) pe_int (nomark _)) (pss_cons (ps_set (i := 4) sc__law_draw.nd rfl (Or.inl rfl) (pe_op op_mod (pe_callTy call_int1 rfl T.z_int bt_int (pa_cons (pe_dget (ru hr) (pv 0) pe_str (fun _ _ => rfl)) pa_nil)) (pv 1)))
      (pss_cons (ps_dput (ru hr) (pv 0) pe_str (pe_op op_fdiv (pe_dget (ru hr) (pv 0) pe_str (fun _ _ => rfl)) (pv 1)) rfl)
      (pss_one (ps_ret (pv 4))))) pss_nil)
      (pss_cons (ps_dput (ru hr) (pv 0) pe_str (pe_op op_mod (pe_callTy call_int1 rfl T.z_int bt_int (pa_cons (pe_op op_add (pe_op op_mul (pe_dget (ru hr) (pv 0) pe_str (fun _ _ => rfl)) pe_int) pe_int) pa_nil)) pe_int) rfl)
      (pss_one (ps_ret (pe_op op_mod (pe_callTy call_int1 rfl T.z_int bt_int (pa_cons (pe_op op_fdiv (pe_dget (ru hr) (pv 0) pe_str (fun _ _ => rfl)) pe_int) pa_nil)) (pv 1))))))), ?_⟩
  obtain ⟨⟨r0, m0, hd⟩, ns, hn, hc⟩ := id hD
  have ndc := hD.ne
  refine ⟨fun σ H1 => ∃ v2 v3, σ = [some (.ref d), some (.int many), v2, v3, none] ∧ Dr H1 d c ∧ Bu2 d c H H1, ?_, ?_⟩
  · have fin : ∃ v2 v3, (L2.start ["draws", "many", "cells", "cell", "value"] [.ref d, .int many] : L2.St) = [some (.ref d), some (.int many), v2, v3, none] ∧ Dr H d c ∧ Bu2 d c H H := ⟨none, none, rfl, hD, Bu2.refl⟩
    refine ⟨_, rfl, d, _, rfl, dg_rest hd, rfl, _, rfl, ?_⟩
    by_cases c1 : r0 = 0
    · refine ifT (by rw [c1]) ⟨_, rfl, d, _, rfl, dg_cells hd, c, _, rfl, .inl (SqL.of hc), _, _, rfl, rfl, _, rfl, ?_⟩
      cases ns with
      | nil => exact ifF (by simp) fin
      | cons n ns =>
        refine ifT (by simp) ?_
        refine ⟨_, rfl, d, _, rfl, dg_cells hd, ?_⟩
        refine ⟨_, rfl, .inl ⟨rfl, _, SqL.of hc⟩, c, _, 0, 0, .int n, rfl, rfl, hc, by decide, by decide, PySem.StrLaws.seqIndex_nonneg (by omega) (by simp), rfl, n, rfl, ?_⟩
        have hd1 : (upd H c (.lst (ns.map V.int))) d = some (.dK (kD c r0 m0)) := by rw [upd_ne ndc]; exact hd
        have hc1 : (upd H c (.lst (ns.map V.int))) c = some (.lst (ns.map V.int)) := upd_same
        have b1 : Bu2 d c H (upd H c (.lst (ns.map V.int))) := Bu2.c
        have hn1 : ns.length ≤ 1000 := by simp at hn; omega
        show _
        have hEr : (List.map V.int (n :: ns)).eraseIdx 0 = ns.map V.int := rfl
        rw [hEr]
        generalize (upd H c (.lst (ns.map V.int))) = H1 at hd1 hc1 b1
        -- behind the test of the cell
        have go : ∀ (H2 : Hp) (r m : Int) (v2 : Option V) (cell : Int), H2 d = some (.dK (kD c r m)) → H2 c = some (.lst (ns.map V.int)) → Bu2 d c H H2 → ∀ x, ∃ (v2 v3 : Option V), ([some (.ref d), some (.int many), some (.ref c), some (.int cell), none] : L2.St) = [some (.ref d), some (.int many), v2, v3, none] ∧ Dr (upd H2 d (.dK (kD c r x))) d c ∧ Bu2 d c H (upd H2 d (.dK (kD c r x))) := fun H2 r m v2 cell e1 e2 b2 x =>
          ⟨_, _, rfl, ⟨⟨r, x, upd_same⟩, ns, hn1, by rw [upd_ne ndc.symm]; exact e2⟩, b2.trans Bu2.d⟩
        refine ⟨_, rfl, _, _, rfl, rfl, ⟨by decide, by decide, by decide⟩, _, _, rfl, rfl, _, rfl, ite2 (fun _ => ?_) (fun _ => ?_)⟩
        · refine ⟨_, rfl, _, rfl, d, _, rfl, dp_rest hd1, ?_⟩
          exact ⟨_, rfl, d, _, rfl, dg_mixed upd_same, _, _, rfl, rfl, .inr ⟨by decide, by decide⟩, _, rfl, _, _, rfl, rfl, _, _, rfl, rfl, .inl ⟨_, rfl, _, _, rfl, rfl, (show (0 : Int) < 2147483647 by decide), _, rfl, d, _, rfl, dp_mixed upd_same, go _ _ _ none _ upd_same (by rw [upd_ne ndc.symm]; exact hc1) (b1.trans Bu2.d) _⟩⟩
        · exact ⟨_, rfl, d, _, rfl, dg_mixed hd1, _, _, rfl, rfl, .inr ⟨by decide, by decide⟩, _, rfl, _, _, rfl, rfl, _, _, rfl, rfl, .inl ⟨_, rfl, _, _, rfl, rfl, (show (0 : Int) < 2147483647 by decide), _, rfl, d, _, rfl, dp_mixed hd1, go _ _ _ none _ hd1 hc1 b1 _⟩⟩
    · exact ifF (by simpa using c1) fin
  · rintro σ H1 ⟨v2, v3, rfl, hD1, b1⟩
    obtain ⟨⟨r, m, e1⟩, ns1, hn1, e2⟩ := id hD1
    refine ⟨_, rfl, d, _, rfl, dg_rest e1, _, _, rfl, rfl, _, rfl, ite2 (fun _ => ?_) (fun _ => ?_)⟩
    · refine ⟨_, rfl, d, _, rfl, dg_rest e1, .inl ⟨_, rfl, _, rfl, _, _, rfl, rfl, hm0, ?_⟩⟩
      refine ⟨_, rfl, d, _, rfl, dg_rest e1, _, rfl, _, _, rfl, rfl, ⟨hm0, hm1⟩, _, rfl, d, _, rfl, dp_rest e1, _, rfl, ?_⟩
      exact q _ _ ⟨⟨_, m, upd_same⟩, ns1, hn1, by rw [upd_ne ndc.symm]; exact e2⟩ (b1.trans Bu2.d) (Int.emod_nonneg _ (by omega)) (Int.emod_lt_of_pos _ hm0)
    · refine ⟨_, rfl, d, _, rfl, dg_mixed e1, _, _, rfl, rfl, .inr ⟨by decide, by decide⟩, _, _, rfl, rfl, .inl ⟨_, rfl, _, _, rfl, rfl, (show (0 : Int) < 2147483629 by decide), ?_⟩⟩
      refine ⟨_, rfl, d, _, rfl, dp_mixed e1, ?_⟩
      refine ⟨_, rfl, d, _, rfl, dg_mixed upd_same, _, _, rfl, rfl, ⟨by decide, by decide⟩, .inl ⟨_, rfl, _, rfl, _, _, rfl, rfl, hm0, ?_⟩⟩
      exact q _ _ ⟨⟨r, _, upd_same⟩, ns1, hn1, by rw [upd_ne ndc.symm]; exact e2⟩ (b1.trans Bu2.d) (Int.emod_nonneg _ (by omega)) (Int.emod_lt_of_pos _ hm0)
abbrev s__law_pick : Stmt := top 53
theorem sc__law_pick : FnScope ["draws", "row"] ["draws", "row"] (C8.fnScope s__law_pick) := C8.fnScope_by (by decide +kernel)
theorem ok__law_pick (F : C8.Def K mg "_law_pick" s__law_pick f fd) (b : Binds K fd ["draws", "row"] []) (T : Txt K mg w C) (c__law_draw : C8.Cal P w K mg base 1 "_law_draw" spDraw []) : C8.Cal P w K mg base 2 "_law_pick" spPick [] := by
  refine C8.cal0 F b .nil sc__law_pick (fun vs H Q E h => ?_) (fun cdv A outer s H vs Q E hr h => ?_)
  · obtain ⟨d, c, l, xs, rfl, _⟩ := h; rfl
  obtain ⟨d, c, l, xs, rfl, hD, hl, hlc, h0, h1, q⟩ := h
  have hld : l ≠ d := fun z => by
    obtain ⟨⟨r, m, hd⟩, _⟩ := hD
    rw [z, hd] at hl; cases hl
  refine ⟨_, (pss_one (ps_ret (pe_ix ix_list (pv 1) (C8.pe_c c__law_draw hr (by first | decide | omega) rfl (pa_cons (pv 0) (pa_cons (pe_callB call_lenS rfl T.z_len bt_len (pa_cons (pv 1) pa_nil)) pa_nil))) (fun _ _ => rfl)))), ?_⟩
  refine ⟨_, rfl, _, rfl, _, rfl, l, xs, rfl, .inl (SqL.of hl), d, c, _, rfl, hD, by omega, by omega, fun H1 r hD1 b1 g0 g1 => ?_⟩
  have hlt : r.toNat < xs.length := by omega
  have hx : xs[r.toNat]? = some xs[r.toNat] := List.getElem?_eq_getElem hlt
  have hr2 : ((r.toNat : Nat) : Int) = r := by omega
  refine ⟨l, xs, r, _, rfl, rfl, SqL.of (b1 _ _ hl hld hlc), (show atI xs r = some xs[r.toNat] by have := atI_nat hx; rwa [hr2] at this), q H1 _ _ hD1 b1 hx⟩
end
end Hc

namespace Hc
open PySem PySem.Spec PyProof.Rows L2 Hr
theorem pmk_own0 {X : Cx} {C : Addr} {bmB : List Value} {B newId initId : String} {x : Str} {p pos : Pos} (F : ExcBaseFacts B newId initId bmB) (q : PySem.W.excIn X.K C bmB newId = true) (gC : X.mg x = some (.ref C))
    (kC : PySem.W.keepIn X.K (.ref C) = true) (r : Raises X (.ref C)) (hg : Gl X x) (hdb : (x == ("__debug__" : Str)) = false := by decide) :
    PMk X (.Call (.Name x p) [] [] pos) (fun _ H Q => Q (.ref C) none H) := by
  intro pins s σ H Q I h
  refine wpAny_Call_Name_kw (ld_glob I hg gC ?_ hdb)
  refine PySem.W.callWith_K0 I.kIn kC ?_
  obtain ⟨bm, N, nm, qn, bs, hdct, sn, sub, ab, col, dd, k0, k1, k2, k3, k5, mN, hC, hN, hni, T⟩ := exc_obj I.kIn q
  refine wpAny_call_exc_subT F T hC hN hni (fun h' e hm => ?_) (by decide)
  exact mk_of I hm r h (I.hok.gone hm.new)
/-- the class NotValid at V -/
structure NvOk (K : PySem.W.Frag) (mg : Str → Option Value) (V : Addr) (bmB : List Value) (newId : String) : Prop where
  q : PySem.W.excIn K V bmB newId = true
  g : mg "NotValid" = some (.ref V)
  k : PySem.W.keepIn K (.ref V) = true
  e : PySem.W.subIn K (.ref V) (.type "BaseException") = some true
  t : PySem.W.typeIn K (.ref V) = some (.type "type")
/-- a def that may raise -/
theorem fnX {P : Program} {w : World} {K : PySem.W.Frag} {mg : Str → Option Value} {base : Heap} {x qual : Str} {st : Stmt} {f : Addr} {fd : FuncData} {N ps : List Str} {k : Nat} {sp : Sp} (F : C8.Fun K x qual st f fd) (S : FnScope N ps (C8.fnScope st)) (len : ∀ vs H Q E, sp vs H Q E → vs.length = ps.length)
    (hbody : ∀ (cdv : Value) (A : Around) (outer : List Env) (s : Shared) (H : Hp) (vs : List V) (Q : VK) (E : XK), Room k (A.deeper (envOfC qual (C8.fnScope st) s.heap.objs.size f cdv)) → sp vs H Q E →
      ∃ t, PSs (cxOf (L2.CX P w) P w K mg base N qual (C8.fnScope st) f cdv A outer s H E) (C8.fnBody st) t ∧ t { nx := fun _ H' => Q .non H', rt := Q } (L2.start N vs) H) : FnOk P w K mg base (L2.CX P w) (k + 1) f fd ps sp := by
  obtain ⟨oc, od, dV, kV, doc, pm, an, cdv, ct, osl, rfl, lk, hcd⟩ := F.ex
  exact fn_of lk hcd S len fun A outer s H vs Q E hr hsp => hbody cdv A outer s H vs Q E hr hsp
def spInitR (C N : Addr) : Sp := fun vs H _ E => ∃ p dx xk xt dk dt, vs = [.ref p, xk, xt] ∧ H p = some (.ins C dx []) ∧ Is C H xk dk ∧ Is C H xt dt ∧ KindOk dk ∧ Fit dt ∧ (isTermD dk dt = false ∨ ∃ k ds, dk = .str k ∧ dt = .tup ds ∧ isTermK k ds = true ∧ mostR k < rank (.atom k ds)) ∧ ∀ H', Same H H' → E (.ref N) none H'
section
variable {P : Program} {w : World} {K : PySem.W.Frag} {mg : Str → Option Value} {base : Heap} {f : Addr} {fd : FuncData} {C N : Addr} {bmB : List Value} {newId : String}
theorem ok_initX {fI : Addr} {fdI : FuncData} {initId : String} (FB : ExcBaseFacts "ValueError" newId initId bmB) (nv : NvOk K mg N bmB newId) (F : C8.Fun K "__init__" "Atom.__init__" s_Atom___init__ fI fdI) (T : Txt K mg w C)
    (c__is_term : C8.Cal P w K mg base 4 "_is_term" (spTerm C) []) (c__rank_of_atom : C8.Cal P w K mg base 3 "_rank_of_atom" (spRk C) []) (c__most_rank : C8.Cal P w K mg base 1 "_most_rank" spMost []) : FnOk P w K mg base (L2.CX P w) 5 fI fdI ["self", "kind", "term"] (spInitR C N) := by
  refine fnX F sc_Atom___init__ (fun vs H Q E h => ?_) (fun cdv A outer s H vs Q E hr h => ?_)
  · obtain ⟨p, dx, xk, xt, dk, dt, rfl, _⟩ := h; rfl
  obtain ⟨p, dx, xk, xt, dk, dt, rfl, hp, hk, ht, hok, hz, hbad, q⟩ := h
  refine ⟨_, (pss_cons (ps_if (pt_not (pt_val (C8.pe_c c__is_term hr (by first | decide | omega) rfl (pa_cons (pv 1) (pa_cons (pv 2) pa_nil))))) (pss_one (ps_raise rfl (takes_of rfl rfl rfl rfl) (pmk_own0 FB nv.q nv.g nv.k (raises_own nv.e nv.t) rfl))) pss_nil)
      (pss_cons (ps_set (i := 3) sc_Atom___init__.nd rfl (Or.inl rfl) (C8.pe_c c__rank_of_atom hr (by first | decide | omega) rfl (pa_cons (pv 1) (pa_cons (pv 2) pa_nil))))
      (pss_cons (ps_if (pt_cmpR op_gt (pv 3) (C8.pe_c c__most_rank hr (by first | decide | omega) rfl (pa_cons (pv 1) pa_nil)) (nomark _)) (pss_one (ps_raise rfl (takes_of rfl rfl rfl rfl) (pmk_own0 FB nv.q nv.g nv.k (raises_own nv.e nv.t) rfl))) pss_nil)
      (pss_cons (ps_fld (pv 0) (pv 1) rfl)
      (pss_cons (ps_fld (pv 0) (pv 2) rfl)
      (pss_cons (ps_fld (pv 0) (pv 3) rfl)
      (pss_one (ps_fld (pv 0) pe_non rfl)))))))), ?_⟩
  refine ⟨_, rfl, _, rfl, _, _, dk, dt, rfl, hk, ht, hok, hz, fun H1 s1 => ⟨_, rfl, ?_⟩⟩
  rcases hbad with hb | ⟨k, ds, rfl, rfl, hterm, hrk⟩
  · refine bT (by rw [hb]; rfl) ?_
    exact q H1 s1
  · cases hk
    refine bF (by simp only [isTermD, hterm]; rfl) ?_
    have htx := ht.same s1
    obtain ⟨t, rfl⟩ : ∃ t, xt = .ref t := by cases ht; exact ⟨_, rfl⟩
    refine ⟨_, rfl, _, rfl, k, t, ds, rfl, htx, hz, fun H2 s2 => ?_⟩
    refine ⟨_, rfl, _, rfl, k, rfl, _, _, rfl, rfl, _, rfl, ?_⟩
    refine ifT (by omega) ?_
    exact q H2 (s1.trans s2)
end
end Hc

namespace Hc
open PySem PySem.Spec PyProof.Rows L2 Hr
/-! ### slices and sums of tuples, whatever they are -/
theorem cut_to (xs : List V) (k : Nat) : cutV xs none (some (k : Int)) = xs.take k := by
  unfold cutV
  rw [HT.sIx_none, HT.sIx_nat, List.drop_zero, Nat.sub_zero]
  by_cases h : k ≤ xs.length
  · rw [Nat.min_eq_left h]
  · rw [Nat.min_eq_right (by omega), List.take_of_length_le (Nat.le_refl _), List.take_of_length_le (by omega)]
theorem cut_from (xs : List V) (k : Nat) : cutV xs (some (k : Int)) none = xs.drop k := by
  unfold cutV
  rw [HT.sIx_none, HT.sIx_nat]
  by_cases h : k ≤ xs.length
  · rw [Nat.min_eq_left h]
    exact List.take_of_length_le (by rw [List.length_drop]; exact Nat.le_refl _)
  · rw [Nat.min_eq_right (by omega), List.drop_of_length_le (Nat.le_refl _), List.drop_of_length_le (by omega), List.take_nil]
theorem sl_go {K : PySem.W.Frag} {H : Hp} {a : Addr} {xs : List V} {lo hi : Option Int} {Q : VK} (h : H a = some (.tup xs)) (q : ∀ H' p, Same H H' → H' p = some (.tup (cutV xs lo hi)) → Q (.ref p) H') : rSlA K (.ref a) lo hi H Q := by
  refine ⟨a, xs, rfl, SqT.of h, fun z => q H a (Same.refl H) ?_, fun _ p hp => q _ p (same_new hp) upd_same⟩
  have e : cutV xs lo hi = xs := by
    unfold cutV
    rw [z.1, z.2, List.drop_zero, Nat.sub_zero]
    exact List.take_of_length_le (Nat.le_refl _)
  rw [e]; exact h
theorem sl_goL {K : PySem.W.Frag} {σ : L2.St} {H : Hp} {a : Addr} {xs : List V} {lo : Int} {Q : VK} (h : H a = some (.tup xs)) (q : ∀ H' p, Same H H' → H' p = some (.tup (cutV xs (some lo) none)) → Q (.ref p) H') : tNoPart σ H (fun u H3 => rSlA K (.ref a) (some lo) u H3 Q) := sl_go h q
theorem cat_go {K : PySem.W.Frag} {H : Hp} {a b : Addr} {xs ys : List V} {Q : VK} (ha : H a = some (.tup xs)) (hb : H b = some (.tup ys)) (hl : xs.length + ys.length ≤ sizeLine) (q : ∀ H' p, Same H H' → H' p = some (.tup (xs ++ ys)) → Q (.ref p) H') : rCatA K (.ref a) (.ref b) H Q := by
  refine ⟨a, b, xs, ys, rfl, rfl, SqT.of ha, SqT.of hb, hl, fun z => q H b (Same.refl H) (by rw [z]; exact hb), fun _ z => q H a (Same.refl H) (by rw [z, List.append_nil]; exact ha), fun _ _ p hp => q _ p (same_new hp) upd_same⟩
theorem isA_take {C : Addr} {H : Hp} : ∀ {xs : List V} {ds : List D} (n : Nat), IsA C H xs ds → IsA C H (xs.take n) (ds.take n)
  | _, _, 0, _ => by simp only [List.take_zero]; exact .nil
  | _, _, n + 1, .nil => by simp only [List.take_nil]; exact .nil
  | _, _, n + 1, .cons h t => by simp only [List.take_succ_cons]; exact .cons h (isA_take n t)
theorem isA_drop {C : Addr} {H : Hp} : ∀ {xs : List V} {ds : List D} (n : Nat), IsA C H xs ds → IsA C H (xs.drop n) (ds.drop n)
  | _, _, 0, h => by simp only [List.drop_zero]; exact h
  | _, _, n + 1, .nil => by simp only [List.drop_nil]; exact .nil
  | _, _, n + 1, .cons h t => by simp only [List.drop_succ_cons]; exact isA_drop n t
theorem szLtk : ∀ (ds : List D) (n : Nat), szL (ds.take n) ≤ szL ds
  | _, 0 => by simp only [List.take_zero, szL]; omega
  | [], n + 1 => by simp only [List.take_nil, szL]; omega
  | d :: ds, n + 1 => by simp only [List.take_succ_cons, szL]; have := szLtk ds n; omega
theorem szLdr : ∀ (ds : List D) (n : Nat), szL (ds.drop n) ≤ szL ds
  | _, 0 => by simp only [List.drop_zero]; omega
  | [], n + 1 => by simp only [List.drop_nil, szL]; omega
  | d :: ds, n + 1 => by simp only [List.drop_succ_cons, szL]; have := szLdr ds n; omega
theorem txlL_app : ∀ (a b : List D), txlL (a ++ b) ↔ txlL a ∧ txlL b
  | [], b => by simp [txlL]
  | x :: a, b => by rw [List.cons_append]; simp only [txlL]; rw [txlL_app a b, and_assoc]
theorem txlLtk : ∀ (ds : List D) (n : Nat), txlL ds → txlL (ds.take n)
  | _, 0, _ => by simp only [List.take_zero, txlL]
  | [], n + 1, _ => by simp only [List.take_nil, txlL]
  | d :: ds, n + 1, h => by simp only [txlL] at h; simp only [List.take_succ_cons, txlL]; exact ⟨h.1, txlLtk ds n h.2⟩
theorem txlLdr : ∀ (ds : List D) (n : Nat), txlL ds → txlL (ds.drop n)
  | _, 0, h => by simp only [List.drop_zero]; exact h
  | [], n + 1, _ => by simp only [List.drop_nil, txlL]
  | d :: ds, n + 1, h => by simp only [txlL] at h; simp only [List.drop_succ_cons]; exact txlLdr ds n h.2
/-! ### terms that are none -/
theorem bad_len {k : Str} {fs : List Str} {ds : List D} (h : formsOf k = some fs) (hl : ds.length ≠ fs.length) : isTermK k ds = false := by
  unfold isTermK; rw [h]; simp [hl]
theorem bad_at {k : Str} {fs : List Str} {ds : List D} (h : formsOf k = some fs) {i : Nat} {d : D} {z : Str} (h1 : ds[i]? = some d) (h2 : fs[i]? = some z) (hb : partOk d z = false) : isTermK k ds = false := by
  unfold isTermK; rw [h]
  have h3 : (ds.zip fs)[i]? = some (d, z) := List.getElem?_zip_eq_some.mpr ⟨h1, h2⟩
  have h4 : ((ds.zip fs).all fun p => partOk p.1 p.2) = false := by
    rw [List.all_eq_false]
    exact ⟨(d, z), List.mem_of_getElem? h3, by simp [hb]⟩
  simp only [h4, Bool.and_false]
theorem set_at {ds : List D} {i : Nat} {e : D} {r : List D} (h : i ≤ ds.length) : (ds.take i ++ [e] ++ r)[i]? = some e := by
  have h1 : (ds.take i).length = i := by rw [List.length_take]; omega
  rw [List.append_assoc, List.getElem?_append_right (by omega), h1, Nat.sub_self]; rfl
/-- a pair of a kind and a term that is none -/
def BadP (dk dt : D) : Prop := KindOk dk ∧ Fit dt ∧ isTermD dk dt = false
def RowB (C : Addr) (H : Hp) (x : V) : Prop := ∃ a xk xt dk dt, x = .ref a ∧ H a = some (.tup [xk, xt]) ∧ Is C H xk dk ∧ Is C H xt dt ∧ BadP dk dt
theorem RowB.same {C : Addr} {H H' : Hp} {x : V} (s : Same H H') (h : RowB C H x) : RowB C H' x := by
  obtain ⟨a, xk, xt, dk, dt, rfl, h1, h2, h3, h4⟩ := h
  exact ⟨a, xk, xt, dk, dt, rfl, s _ _ h1, h2.same s, h3.same s, h4⟩
/-! ### a heap without some cells -/
def nx (ps : List Addr) (H : Hp) : Hp := fun b => if b ∈ ps then none else H b
theorem nx_le {ps : List Addr} {H : Hp} : Same (nx ps H) H := fun b o e => by
  unfold nx at e
  by_cases h : b ∈ ps
  · rw [if_pos h] at e; cases e
  · rwa [if_neg h] at e
theorem nx_off {ps : List Addr} {H : Hp} {b : Addr} (h : b ∉ ps) : nx ps H b = H b := if_neg h
theorem nx_in {ps : List Addr} {H : Hp} {b : Addr} {o : HO} (e : nx ps H b = some o) : b ∉ ps := fun h => by
  unfold nx at e; rw [if_pos h] at e; cases e
theorem nx_bu {d c : Addr} {ps : List Addr} {H H' : Hp} (b : Bu2 d c H H') (hd : d ∈ ps) (hc : c ∈ ps) : Same (nx ps H) (nx ps H') := fun x o e => by
  have h := nx_in e
  rw [nx_off h] at e ⊢
  exact b _ _ e (fun z => h (z ▸ hd)) (fun z => h (z ▸ hc))
theorem nx_same {ps : List Addr} {H H' : Hp} (s : Same H H') : Same (nx ps H) (nx ps H') := fun x o e => by
  have h := nx_in e
  rw [nx_off h] at e ⊢
  exact s _ _ e
theorem nx_upd {ps : List Addr} {H : Hp} {l : Addr} {o : HO} (h : l ∈ ps) : Same (nx ps H) (nx ps (upd H l o)) := fun x u e => by
  have n := nx_in e
  rw [nx_off n] at e ⊢
  rw [upd_ne (fun z => n (by rw [z]; exact h))]; exact e
/-- a fresh cell is left out, too -/
theorem nx_add {ps : List Addr} {H : Hp} {l : Addr} {o : HO} (h : H l = none) : Same (nx ps H) (nx (ps ++ [l]) (upd H l o)) := fun x u e => by
  have n := nx_in e
  rw [nx_off n] at e
  have nl : x ≠ l := fun z => by rw [z, h] at e; cases e
  rw [nx_off (by simp [n, nl]), upd_ne nl]; exact e
end Hc

set_option maxHeartbeats 8000000
namespace Hr
open PySem PySem.Spec PyProof.Rows PySem.SeqAt
open AutoSeq1 (wpAny_loadPart')
open MeetsSeq MeetsSeq2 MeetsSeq3 SeqRoads2
section
variable {prog : Program} {w : World} {A : Around} {R : Result → Shared → Prop}
theorem tup_neB {l b : Addr} {items items2 : Array Value} {n n2 : Nat} {dd dd2 : Option Addr} {sl sl2 : Array (Option Value)} {bs : Nat → Bool} {J : Shared → Prop}
    (turn : ∀ i (h1 : i < items.size) (h2 : i < items2.size) s, J s → wpAny (model prog w) A.in1 (eqBool items[i] items2[i]) (fun r s' => r = bs i ∧ J s') (fun e s' => R (.error e) s') s)
    (fin : ∀ s, J s → R (.ok (.ret (.bool (!allP bs items.size items2.size)))) s) {s : Shared} (hl1 : s.heap.get? l = some { cls := .type "tuple", dict := dd, data := .seq items n, slots := sl }) (hb1 : s.heap.get? b = some { cls := .type "tuple", dict := dd2, data := .seq items2 n2, slots := sl2 }) (h : J s) :
    wpAny (model prog w) A.in1 (Builtin.«tuple.__ne__» ⟨[.ref l, .ref b], []⟩) (GQ.FinOf prog w A R) (fun e s' => R (.error e) s') s := by
  have f2 := AutoSeq1.sub_tuple_tuple
  have hZ : (items.toList.zip items2.toList).length = min items.size items2.size := by simp
  have h0 := h
  obtain ⟨hp, g, d, tk, os⟩ := s
  wp_walk using wpAny_loadPart' hl1, wpAny_loadPart' hb1, wpAny_forIn_list _ (fun rest b s' => b.1 = none ∧ ∃ i, rest = (items.toList.zip items2.toList).drop i ∧ i ≤ min items.size items2.size ∧ (∀ j, j < i → bs j = true) ∧ J s') _
  case turn =>
    rintro ⟨y, x⟩ rest b s' ⟨hb', i, hz, hi, hbs, hI⟩
    have hlt : i < (items.toList.zip items2.toList).length := by
      rcases Nat.lt_or_ge i (items.toList.zip items2.toList).length with h' | h'
      · exact h'
      · rw [List.drop_of_length_le h'] at hz; cases hz
    have hm : i < min items.size items2.size := hZ ▸ hlt
    have h1 : i < items.size := Nat.lt_of_lt_of_le hm (Nat.min_le_left _ _)
    have h2 : i < items2.size := Nat.lt_of_lt_of_le hm (Nat.min_le_right _ _)
    rw [List.drop_eq_getElem_cons hlt] at hz
    injection hz with hyx hrest
    have hy : y = items[i] := by have := congrArg Prod.fst hyx; simpa using this
    have hx : x = items2[i] := by have := congrArg Prod.snd hyx; simpa using this
    subst hy hx
    refine wpAny_bind (wpAny_mono (turn i h1 h2 s' hI) (fun r s2 q2 => ?_) fun _ _ x => x)
    obtain ⟨hr, q2⟩ := q2
    subst hr
    cases hbi : bs i with
    | true =>
      wp_walk
      exact ⟨rfl, i + 1, hrest, hm, fun j hj => by
        rcases Nat.lt_succ_iff_lt_or_eq.mp hj with h | rfl
        · exact hbs j h
        · exact hbi, q2⟩
    | false =>
      have hR := fin s2 q2
      rw [allP_no hm hbi] at hR
      wp_walk
      exact hR
  case fin =>
    rintro ⟨b1, b2⟩ s' ⟨hb', i, hz, hi, hbs, hI⟩
    simp only at hb'
    subst hb'
    have hge : min items.size items2.size ≤ i := by
      rcases Nat.lt_or_ge i (items.toList.zip items2.toList).length with h' | h'
      · rw [List.drop_eq_getElem_cons h'] at hz; cases hz
      · exact hZ ▸ h'
    have hR := fin s' hI
    rw [allP_yes fun j hj => hbs j (by omega)] at hR
    wp_walk
    simpa [Builtin.Tuple.tupleCompareSizes, bne] using hR
  case h =>
    exact ⟨rfl, 0, rfl, Nat.zero_le _, fun j hj => absurd hj (Nat.not_lt_zero _), h0⟩
end
end Hr
namespace Hc
open PySem PySem.Spec PyProof.Rows L2 Hr PySem.SeqAt
section
variable {X : Cx} {n N : Nat} {C : Addr}
def rNeW (C : Addr) (N : Nat) : R2 := fun x y H Q => ∃ d e, W2 C H x y d e ∧ dep d ≤ N ∧ ∀ H', Same H H' → Q (.bl (!eqD d e)) H'

theorem op_eqW (O : OwnS X.prog X.w X.K X.mg X.base n C (spEqG C)) (o : Oth X.K C) (hr : Room (N + n + 1) X.A) : OpR X (compareOp .Eq) (rEqW C N) := by
  intro pins s σ H x y v u Q I rx ry h
  obtain ⟨d, e, w2, hdp, q⟩ := h
  have hx := w2.x
  have hy := w2.y
  have wd := w2.wd
  have we := w2.we
  have zd := w2.zd
  have ze := w2.ze
  have sb0 : Sub X (N + n + 1) X.A := ⟨hr, rfl⟩
  have sb1 : Sub X n X.A.in1 := (sb0.mono (by omega : n + 1 ≤ N + n + 1)).in1
  have sb : Sub X n X.A := sb0.mono (by omega)
  have hu := hr.units0
  have hu1 := sb1.room.units0
  show wpAny (model X.prog X.w) X.A (richCompare .Eq v u) (EP X pins σ Q) X.xe s
  have fin : ∀ (b : Bool), b = (eqD d e) → ∀ s', LoopS X pins σ H s' → EP X pins σ Q (.bool b) s' := fun b hb s' j => by
    obtain ⟨H', I', e'⟩ := j
    rw [hb]
    exact ⟨.bl _, H', I', rfl, q H' e'⟩
  have here : LoopS X pins σ H s := ⟨H, I, Same.refl H⟩
  have own : ∀ {a dx : Addr} {fs : List (Str × V)} {y : V} {v : Value} {d e : D}, H a = some (.ins C dx fs) → Is C H (.ref a) d → Is C H y e → RelV y v → isAt d = true → wrd d = true → wrd e = true → sz d ≤ 1000000 → sz e ≤ 1000000 → Own X.prog X.w X.A X.xe a v (eqD d e) (LoopS X pins σ H) s :=
    fun u1 h1 h2 rv d1 wd we zd ze => own_run O sb I u1 rv ⟨_, _, _, _, rfl, h1, h2, d1, wd, we, zd, ze, fun H' s' => ⟨rfl, s'⟩⟩
  have inst : ∀ {a dx : Addr} {fs : List (Str × V)}, H a = some (.ins C dx fs) → ∃ od, PySem.W.InstAt s.heap a (PySem.W.instObj C dx) C (some od) := fun u1 => by
    obtain ⟨mA, J, _⟩ := ins_get I.hok u1
    obtain ⟨od, J, _⟩ := J.look
    exact ⟨od, J⟩
  have tups : ∀ {a : Addr} {xs : List V}, H a = some (.tup xs) → ∃ its : Array Value, s.heap.IsTuple a its := fun h => by
    obtain ⟨its, r, e, z⟩ := I.tuple (SqT.of h)
    exact ⟨_, e⟩
  have comm : isAt d = false → isAt e = true → eqD e d = eqD d e := fun h1 h2 => by
    cases d <;> cases e <;> first | rfl | (simp [isAt] at h1; done) | (simp [isAt] at h2; done)
  have left : ∀ {a dx : Addr} {fs : List (Str × V)} {T : String}, H a = some (.ins C dx fs) → x = .ref a → s.TypeIs u T → (T = "NoneType" ∨ T = "int" ∨ T = "str" ∨ T = "tuple") → isAt d = true → wpAny (model X.prog X.w) X.A (richCompare .Eq v u) (EP X pins σ Q) X.xe s := fun {a dx fs T} u1 hxa ht1 hT d1 => by
    subst hxa
    cases rx
    obtain ⟨od, J⟩ := inst u1
    exact rc_left (op := .Eq) hu I.kIn J ht1 hT (try_eq (own u1 hx hy ry d1 wd we zd ze)) (fun s' j => fin _ rfl s' j)
  have right : ∀ {c dy : Addr} {gs : List (Str × V)} {T id : String}, H c = some (.ins C dy gs) → y = .ref c → s.TypeIs v T → PySem.W.subIn X.K (.ref C) (.type T) = some false → oneThing? .Eq v (.ref c) = none → Slot T (cmpInfo .Eq).2.1 id →
      wpAny (model X.prog X.w) X.A (call (.builtin id) [v, .ref c]) (fun z s' => z = .notImplemented ∧ s' = s) X.xe s → isAt e = true → isAt d = false → wpAny (model X.prog X.w) X.A (richCompare .Eq v u) (EP X pins σ Q) X.xe s := fun {c dy gs T id} u1 hyc ht1 hT hone sl dec e1 d1 => by
    subst hyc
    cases ry
    obtain ⟨od, J⟩ := inst u1
    exact rc_right (op := .Eq) hu I.kIn J ht1 hT hone sl dec (try_eq (own u1 hy hx rx e1 we wd ze zd)) (fun s' j => fin _ (by rw [comm d1 e1]) s' j)
  have flat : scal x y = true → (decide (x = y)) = ((eqD d e)) → wpAny (model X.prog X.w) X.A (richCompare .Eq v u) (EP X pins σ Q) X.xe s := fun hs he => op_eq pins s σ H x y v u Q I rx ry ⟨hs, by rw [he]; exact q H (Same.refl H)⟩
  cases hx with
  | bl b => cases wd
  | lst _ _ => cases wd
  | dct _ => cases wd
  | @atom a1 dx1 t1 k1 xs1 ds1 u1 v1 i1 =>
    cases hy with
    | bl b => cases we
    | lst _ _ => cases we
    | dct _ => cases we
    | @atom a2 dx2 t2 k2 xs2 ds2 u2 v2 i2 =>
      cases rx
      cases ry
      obtain ⟨od, J⟩ := inst u1
      obtain ⟨od2, J2⟩ := inst u2
      have ow := try_eq (own u1 (.atom u1 v1 i1) (.atom u2 v2 i2) (rfl : RelV (.ref a2) (.ref a2)) rfl wd we zd ze)
      unfold richCompare
      simp only [oneThing_ref]
      refine wpAny_holding (wpAny_bind (wpAny_cRoomFor hu ?_))
      refine wpAny_bind (J.type.here (wpAny_bind (J2.type.here ?_)))
      split
      · rename_i z
        exact absurd z (by simp)
      · refine wpAny_bind (wpAny_pure ?_)
        simp only [Bool.false_eq_true, if_false]
        refine wpAny_bind (wpAny_mono ow (fun r s' z => ?_) fun _ _ z => z)
        obtain ⟨rfl, j⟩ := z
        exact wpAny_pure (fin _ rfl s' j)
    | non => cases ry; exact left u1 rfl rfl (.inl rfl) rfl
    | int j => obtain ⟨t, rfl⟩ := ry; exact left u1 rfl rfl (.inr (.inl rfl)) rfl
    | str z => obtain ⟨t, rfl⟩ := ry; exact left u1 rfl rfl (.inr (.inr (.inl rfl))) rfl
    | tup h2 i2 =>
      cases ry
      obtain ⟨its, oo, ho, hc, _⟩ := tups h2
      exact left u1 rfl ⟨oo, ho, hc⟩ (.inr (.inr (.inr rfl))) rfl
  | non =>
    cases rx
    cases hy with
    | bl b => cases we
    | lst _ _ => cases we
    | dct _ => cases we
    | non => exact flat rfl (by simp [eqD])
    | int j => exact flat rfl (by simp [eqD])
    | str z => exact flat rfl (by simp [eqD])
    | tup h2 i2 =>
      cases ry
      obtain ⟨its, hi⟩ := tups h2
      exact RcAt.none_tuple hi hu _ _ _ _ (fin _ rfl s here)
    | @atom c dy _ _ _ _ u2 _ _ => exact right u2 rfl rfl o.sN rfl F.slot_NoneType_eq (call_gives F.slot_NoneType_eq rfl F.entry_NoneType_eq (F.args_NoneType_eq_2 _ _) (NoneType___eq___none_ref_0 c) ⟨rfl, rfl⟩) rfl rfl
  | int i =>
    obtain ⟨t, rfl⟩ := rx
    cases hy with
    | bl b => cases we
    | lst _ _ => cases we
    | dct _ => cases we
    | non => exact flat rfl (by simp [eqD])
    | int j => exact flat rfl (by simp [eqD])
    | str z => exact flat rfl (by simp [eqD])
    | tup h2 i2 =>
      cases ry
      obtain ⟨its, hi⟩ := tups h2
      exact RcAt.int_tuple i t hi hu _ _ _ _ (fin _ rfl s here)
    | @atom c dy _ _ _ _ u2 _ _ =>
      obtain ⟨od, J⟩ := inst u2
      exact right u2 rfl rfl o.sI rfl F.slot_int_eq (call_meets F.slot_int_eq rfl F.entry_int_eq (F.args_int_eq_2 _ _) (int_eq_inst i t c C dy) ⟨J.at_, rfl, rfl⟩) rfl rfl
  | str z0 =>
    obtain ⟨t, rfl⟩ := rx
    cases hy with
    | bl b => cases we
    | lst _ _ => cases we
    | dct _ => cases we
    | non => exact flat rfl (by simp [eqD])
    | int j => exact flat rfl (by simp [eqD])
    | str z => exact flat rfl (by simp [eqD])
    | tup h2 i2 =>
      cases ry
      obtain ⟨its, hi⟩ := tups h2
      exact RcAt.str_tuple z0 t hi hu _ _ _ _ (fin _ rfl s here)
    | @atom c dy _ _ _ _ u2 _ _ =>
      obtain ⟨od, J⟩ := inst u2
      exact right u2 rfl rfl o.sS rfl F.slot_str_eq (call_meets F.slot_str_eq rfl F.entry_str_eq (F.args_str_eq_2 _ _) (str_eq_inst z0 t c C dy) ⟨J.at_, rfl, rfl⟩) rfl rfl
  | @tup a1 xs1 ds1 h1 i1 =>
    cases rx
    obtain ⟨its, hi⟩ := tups h1
    cases hy with
    | bl b => cases we
    | lst _ _ => cases we
    | dct _ => cases we
    | non => cases ry; exact RcAt.tuple_none hi hu _ _ _ _ (fin _ rfl s here)
    | int j => obtain ⟨t, rfl⟩ := ry; exact RcAt.tuple_int j t hi hu _ _ _ _ (fin _ rfl s here)
    | str z => obtain ⟨t, rfl⟩ := ry; exact RcAt.tuple_str z t hi hu _ _ _ _ (fin _ rfl s here)
    | @atom c dy _ _ _ _ u2 _ _ =>
      obtain ⟨od, J⟩ := inst u2
      obtain ⟨⟨cls, dd, data, sl⟩, ho, hc, k, hd⟩ := id hi
      simp only at hc hd
      subst hc hd
      exact right u2 rfl ⟨_, ho, rfl⟩ o.sT (oneThing_ref _ _ _) F.slot_tuple_eq (GQ.call_here F.slot_tuple_eq ⟨_, ho, rfl⟩ F.entry_tuple_eq (F.args_tuple_eq_2 _ _) (tup_eq_inst (PySem.W.looks_subIn I.kIn o.sT) J.at_ ho ⟨rfl, rfl⟩)) rfl rfl
    | @tup a2 ys1 es1 h2 i2 =>
      cases ry
      obtain ⟨its, r, eT, z⟩ := I.tuple (SqT.of h1)
      obtain ⟨its2, r2, eT2, z2⟩ := I.tuple (SqT.of h2)
      simp only [wrd] at wd we
      simp only [sz] at zd ze
      have l1 := r.length
      have l2 := r2.length
      have l3 := i1.len
      have l4 := i2.len
      obtain ⟨⟨cls, dd, data, sl⟩, ho, hc, n1, hd1⟩ := id eT
      obtain ⟨⟨cls2, dd2, data2, sl2⟩, ho2, hc2, n2, hd2⟩ := id eT2
      simp only at hc hd1 hc2 hd2
      subst hc hd1 hc2 hd2
      have hdep : depL ds1 ≤ N := by simp only [dep] at hdp; omega
      have pair : ∀ i (k1 : i < its.toArray.size) (k2 : i < its2.toArray.size) s1, LoopS X pins σ H s1 → wpAny (model X.prog X.w) X.A.in1 (eqBool its.toArray[i] its2.toArray[i]) (fun r s' => r = (match ds1[i]?, es1[i]? with | some d, some e => eqD d e | _, _ => false) ∧ LoopS X pins σ H s') X.xe s1 := fun i k1 k2 s1 j => by
        obtain ⟨H1, I1, e1⟩ := j
        have k1' : i < its.length := by simpa using k1
        have k2' : i < its2.length := by simpa using k2
        obtain ⟨p, hp, rp⟩ := r.get (List.getElem?_eq_getElem (show i < xs1.length by omega))
        obtain ⟨q, hq, rq⟩ := r2.get (List.getElem?_eq_getElem (show i < ys1.length by omega))
        rw [List.getElem?_eq_getElem k1'] at hp
        rw [List.getElem?_eq_getElem k2'] at hq
        have ep : its.toArray[i] = p := by simpa using Option.some.inj hp
        have eq : its2.toArray[i] = q := by simpa using Option.some.inj hq
        obtain ⟨d', hd', ix⟩ := i1.at (List.getElem?_eq_getElem (show i < xs1.length by omega))
        obtain ⟨e', he', iy⟩ := i2.at (List.getElem?_eq_getElem (show i < ys1.length by omega))
        have md := List.mem_of_getElem? hd'
        have me := List.mem_of_getElem? he'
        have s1' := szL_mem md
        have s2' := szL_mem me
        rw [ep, eq, hd', he']
        refine wpAny_mono (eqW O o N (A := X.A.in1) sb0.in1 (Nat.le_trans (depL_mem md) hdep) I1 rp rq ⟨ix.same e1, iy.same e1, wrdL_mem wd md, wrdL_mem we me, by omega, by omega⟩) (fun r s2 q2 => ?_) fun _ _ z => z
        obtain ⟨hr, H2, I2, e2⟩ := q2
        exact ⟨hr, H2, I2, e1.trans e2⟩
      have hall : allP (fun i => match ds1[i]?, es1[i]? with | some d, some e => eqD d e | _, _ => false) its.toArray.size its2.toArray.size = eqL ds1 es1 := by
        rw [List.size_toArray, List.size_toArray, ← l1, ← l2, l3, l4]
        exact eqL_all _ fun i d' e' h1 h2 => by simp only [h1, h2]
      refine wpAny_richCompare_same_room (op := .Eq) ⟨_, ho, rfl⟩ ⟨_, ho2, rfl⟩ F.slot_tuple_eq (GQ.call_here F.slot_tuple_eq ⟨_, ho, rfl⟩ F.entry_tuple_eq (F.args_tuple_eq_2 _ _) ?_) hu
      exact tup_eqB (R := wants (fun z s' => z ≠ .notImplemented ∧ EP X pins σ Q z s') X.xe) pair (fun s' j => ⟨(fun z => nomatch z), fin _ (by rw [hall]; rfl) s' j⟩) ho ho2 here

theorem op_neW (O : OwnS X.prog X.w X.K X.mg X.base n C (spEqG C)) (o : Oth X.K C) (hr : Room (N + n + 1) X.A) : OpR X (compareOp .NotEq) (rNeW C N) := by
  intro pins s σ H x y v u Q I rx ry h
  obtain ⟨d, e, w2, hdp, q⟩ := h
  have hx := w2.x
  have hy := w2.y
  have wd := w2.wd
  have we := w2.we
  have zd := w2.zd
  have ze := w2.ze
  have sb0 : Sub X (N + n + 1) X.A := ⟨hr, rfl⟩
  have sb1 : Sub X n X.A.in1 := (sb0.mono (by omega : n + 1 ≤ N + n + 1)).in1
  have sb : Sub X n X.A := sb0.mono (by omega)
  have hu := hr.units0
  have hu1 := sb1.room.units0
  show wpAny (model X.prog X.w) X.A (richCompare .NotEq v u) (EP X pins σ Q) X.xe s
  have fin : ∀ (b : Bool), b = !(eqD d e) → ∀ s', LoopS X pins σ H s' → EP X pins σ Q (.bool b) s' := fun b hb s' j => by
    obtain ⟨H', I', e'⟩ := j
    rw [hb]
    exact ⟨.bl _, H', I', rfl, q H' e'⟩
  have here : LoopS X pins σ H s := ⟨H, I, Same.refl H⟩
  have own : ∀ {a dx : Addr} {fs : List (Str × V)} {y : V} {v : Value} {d e : D}, H a = some (.ins C dx fs) → Is C H (.ref a) d → Is C H y e → RelV y v → isAt d = true → wrd d = true → wrd e = true → sz d ≤ 1000000 → sz e ≤ 1000000 → Own X.prog X.w X.A.in1 X.xe a v (eqD d e) (LoopS X pins σ H) s :=
    fun u1 h1 h2 rv d1 wd we zd ze => own_run O sb1 I u1 rv ⟨_, _, _, _, rfl, h1, h2, d1, wd, we, zd, ze, fun H' s' => ⟨rfl, s'⟩⟩
  have inst : ∀ {a dx : Addr} {fs : List (Str × V)}, H a = some (.ins C dx fs) → ∃ od, PySem.W.InstAt s.heap a (PySem.W.instObj C dx) C (some od) := fun u1 => by
    obtain ⟨mA, J, _⟩ := ins_get I.hok u1
    obtain ⟨od, J, _⟩ := J.look
    exact ⟨od, J⟩
  have tups : ∀ {a : Addr} {xs : List V}, H a = some (.tup xs) → ∃ its : Array Value, s.heap.IsTuple a its := fun h => by
    obtain ⟨its, r, e, z⟩ := I.tuple (SqT.of h)
    exact ⟨_, e⟩
  have comm : isAt d = false → isAt e = true → eqD e d = eqD d e := fun h1 h2 => by
    cases d <;> cases e <;> first | rfl | (simp [isAt] at h1; done) | (simp [isAt] at h2; done)
  have left : ∀ {a dx : Addr} {fs : List (Str × V)} {T : String}, H a = some (.ins C dx fs) → x = .ref a → s.TypeIs u T → (T = "NoneType" ∨ T = "int" ∨ T = "str" ∨ T = "tuple") → isAt d = true → wpAny (model X.prog X.w) X.A (richCompare .NotEq v u) (EP X pins σ Q) X.xe s := fun {a dx fs T} u1 hxa ht1 hT d1 => by
    subst hxa
    cases rx
    obtain ⟨od, J⟩ := inst u1
    exact rc_left (op := .NotEq) hu I.kIn J ht1 hT (try_ne hu hu1 I.kIn J o (own u1 hx hy ry d1 wd we zd ze)) (fun s' j => fin _ rfl s' j)
  have right : ∀ {c dy : Addr} {gs : List (Str × V)} {T id : String}, H c = some (.ins C dy gs) → y = .ref c → s.TypeIs v T → PySem.W.subIn X.K (.ref C) (.type T) = some false → oneThing? .NotEq v (.ref c) = none → Slot T (cmpInfo .NotEq).2.1 id →
      wpAny (model X.prog X.w) X.A (call (.builtin id) [v, .ref c]) (fun z s' => z = .notImplemented ∧ s' = s) X.xe s → isAt e = true → isAt d = false → wpAny (model X.prog X.w) X.A (richCompare .NotEq v u) (EP X pins σ Q) X.xe s := fun {c dy gs T id} u1 hyc ht1 hT hone sl dec e1 d1 => by
    subst hyc
    cases ry
    obtain ⟨od, J⟩ := inst u1
    exact rc_right (op := .NotEq) hu I.kIn J ht1 hT hone sl dec (try_ne hu hu1 I.kIn J o (own u1 hy hx rx e1 we wd ze zd)) (fun s' j => fin _ (by rw [comm d1 e1]) s' j)
  have flat : scal x y = true → (!decide (x = y)) = (!(eqD d e)) → wpAny (model X.prog X.w) X.A (richCompare .NotEq v u) (EP X pins σ Q) X.xe s := fun hs he => op_ne pins s σ H x y v u Q I rx ry ⟨hs, by rw [he]; exact q H (Same.refl H)⟩
  cases hx with
  | bl b => cases wd
  | lst _ _ => cases wd
  | dct _ => cases wd
  | @atom a1 dx1 t1 k1 xs1 ds1 u1 v1 i1 =>
    cases hy with
    | bl b => cases we
    | lst _ _ => cases we
    | dct _ => cases we
    | @atom a2 dx2 t2 k2 xs2 ds2 u2 v2 i2 =>
      cases rx
      cases ry
      obtain ⟨od, J⟩ := inst u1
      obtain ⟨od2, J2⟩ := inst u2
      have ow := try_ne hu hu1 I.kIn J o (own u1 (.atom u1 v1 i1) (.atom u2 v2 i2) (rfl : RelV (.ref a2) (.ref a2)) rfl wd we zd ze)
      unfold richCompare
      simp only [oneThing_ref]
      refine wpAny_holding (wpAny_bind (wpAny_cRoomFor hu ?_))
      refine wpAny_bind (J.type.here (wpAny_bind (J2.type.here ?_)))
      split
      · rename_i z
        exact absurd z (by simp)
      · refine wpAny_bind (wpAny_pure ?_)
        simp only [Bool.false_eq_true, if_false]
        refine wpAny_bind (wpAny_mono ow (fun r s' z => ?_) fun _ _ z => z)
        obtain ⟨rfl, j⟩ := z
        exact wpAny_pure (fin _ rfl s' j)
    | non => cases ry; exact left u1 rfl rfl (.inl rfl) rfl
    | int j => obtain ⟨t, rfl⟩ := ry; exact left u1 rfl rfl (.inr (.inl rfl)) rfl
    | str z => obtain ⟨t, rfl⟩ := ry; exact left u1 rfl rfl (.inr (.inr (.inl rfl))) rfl
    | tup h2 i2 =>
      cases ry
      obtain ⟨its, oo, ho, hc, _⟩ := tups h2
      exact left u1 rfl ⟨oo, ho, hc⟩ (.inr (.inr (.inr rfl))) rfl
  | non =>
    cases rx
    cases hy with
    | bl b => cases we
    | lst _ _ => cases we
    | dct _ => cases we
    | non => exact flat rfl (by simp [eqD])
    | int j => exact flat rfl (by simp [eqD])
    | str z => exact flat rfl (by simp [eqD])
    | tup h2 i2 =>
      cases ry
      obtain ⟨its, hi⟩ := tups h2
      exact RcNeAt.none_tuple hi hu _ _ _ _ (fin _ rfl s here)
    | @atom c dy _ _ _ _ u2 _ _ => exact right u2 rfl rfl o.sN rfl F.slot_NoneType_ne (call_gives F.slot_NoneType_ne rfl F.entry_NoneType_ne (F.args_NoneType_ne_2 _ _) (NoneType___ne___none_ref_0 c) ⟨rfl, rfl⟩) rfl rfl
  | int i =>
    obtain ⟨t, rfl⟩ := rx
    cases hy with
    | bl b => cases we
    | lst _ _ => cases we
    | dct _ => cases we
    | non => exact flat rfl (by simp [eqD])
    | int j => exact flat rfl (by simp [eqD])
    | str z => exact flat rfl (by simp [eqD])
    | tup h2 i2 =>
      cases ry
      obtain ⟨its, hi⟩ := tups h2
      exact RcNeAt.int_tuple i t hi hu _ _ _ _ (fin _ rfl s here)
    | @atom c dy _ _ _ _ u2 _ _ =>
      obtain ⟨od, J⟩ := inst u2
      exact right u2 rfl rfl o.sI rfl F.slot_int_ne (call_meets F.slot_int_ne rfl F.entry_int_ne (F.args_int_ne_2 _ _) (int_ne_inst i t c C dy) ⟨J.at_, rfl, rfl⟩) rfl rfl
  | str z0 =>
    obtain ⟨t, rfl⟩ := rx
    cases hy with
    | bl b => cases we
    | lst _ _ => cases we
    | dct _ => cases we
    | non => exact flat rfl (by simp [eqD])
    | int j => exact flat rfl (by simp [eqD])
    | str z => exact flat rfl (by simp [eqD])
    | tup h2 i2 =>
      cases ry
      obtain ⟨its, hi⟩ := tups h2
      exact RcNeAt.str_tuple z0 t hi hu _ _ _ _ (fin _ rfl s here)
    | @atom c dy _ _ _ _ u2 _ _ =>
      obtain ⟨od, J⟩ := inst u2
      exact right u2 rfl rfl o.sS rfl F.slot_str_ne (call_meets F.slot_str_ne rfl F.entry_str_ne (F.args_str_ne_2 _ _) (str_ne_inst z0 t c C dy) ⟨J.at_, rfl, rfl⟩) rfl rfl
  | @tup a1 xs1 ds1 h1 i1 =>
    cases rx
    obtain ⟨its, hi⟩ := tups h1
    cases hy with
    | bl b => cases we
    | lst _ _ => cases we
    | dct _ => cases we
    | non => cases ry; exact RcNeAt.tuple_none hi hu _ _ _ _ (fin _ rfl s here)
    | int j => obtain ⟨t, rfl⟩ := ry; exact RcNeAt.tuple_int j t hi hu _ _ _ _ (fin _ rfl s here)
    | str z => obtain ⟨t, rfl⟩ := ry; exact RcNeAt.tuple_str z t hi hu _ _ _ _ (fin _ rfl s here)
    | @atom c dy _ _ _ _ u2 _ _ =>
      obtain ⟨od, J⟩ := inst u2
      obtain ⟨⟨cls, dd, data, sl⟩, ho, hc, k, hd⟩ := id hi
      simp only at hc hd
      subst hc hd
      exact right u2 rfl ⟨_, ho, rfl⟩ o.sT (oneThing_ref _ _ _) F.slot_tuple_ne (GQ.call_here F.slot_tuple_ne ⟨_, ho, rfl⟩ F.entry_tuple_ne (F.args_tuple_ne_2 _ _) (tup_ne_inst (PySem.W.looks_subIn I.kIn o.sT) J.at_ ho ⟨rfl, rfl⟩)) rfl rfl
    | @tup a2 ys1 es1 h2 i2 =>
      cases ry
      obtain ⟨its, r, eT, z⟩ := I.tuple (SqT.of h1)
      obtain ⟨its2, r2, eT2, z2⟩ := I.tuple (SqT.of h2)
      simp only [wrd] at wd we
      simp only [sz] at zd ze
      have l1 := r.length
      have l2 := r2.length
      have l3 := i1.len
      have l4 := i2.len
      obtain ⟨⟨cls, dd, data, sl⟩, ho, hc, n1, hd1⟩ := id eT
      obtain ⟨⟨cls2, dd2, data2, sl2⟩, ho2, hc2, n2, hd2⟩ := id eT2
      simp only at hc hd1 hc2 hd2
      subst hc hd1 hc2 hd2
      have hdep : depL ds1 ≤ N := by simp only [dep] at hdp; omega
      have pair : ∀ i (k1 : i < its.toArray.size) (k2 : i < its2.toArray.size) s1, LoopS X pins σ H s1 → wpAny (model X.prog X.w) X.A.in1 (eqBool its.toArray[i] its2.toArray[i]) (fun r s' => r = (match ds1[i]?, es1[i]? with | some d, some e => eqD d e | _, _ => false) ∧ LoopS X pins σ H s') X.xe s1 := fun i k1 k2 s1 j => by
        obtain ⟨H1, I1, e1⟩ := j
        have k1' : i < its.length := by simpa using k1
        have k2' : i < its2.length := by simpa using k2
        obtain ⟨p, hp, rp⟩ := r.get (List.getElem?_eq_getElem (show i < xs1.length by omega))
        obtain ⟨q, hq, rq⟩ := r2.get (List.getElem?_eq_getElem (show i < ys1.length by omega))
        rw [List.getElem?_eq_getElem k1'] at hp
        rw [List.getElem?_eq_getElem k2'] at hq
        have ep : its.toArray[i] = p := by simpa using Option.some.inj hp
        have eq : its2.toArray[i] = q := by simpa using Option.some.inj hq
        obtain ⟨d', hd', ix⟩ := i1.at (List.getElem?_eq_getElem (show i < xs1.length by omega))
        obtain ⟨e', he', iy⟩ := i2.at (List.getElem?_eq_getElem (show i < ys1.length by omega))
        have md := List.mem_of_getElem? hd'
        have me := List.mem_of_getElem? he'
        have s1' := szL_mem md
        have s2' := szL_mem me
        rw [ep, eq, hd', he']
        refine wpAny_mono (eqW O o N (A := X.A.in1) sb0.in1 (Nat.le_trans (depL_mem md) hdep) I1 rp rq ⟨ix.same e1, iy.same e1, wrdL_mem wd md, wrdL_mem we me, by omega, by omega⟩) (fun r s2 q2 => ?_) fun _ _ z => z
        obtain ⟨hr, H2, I2, e2⟩ := q2
        exact ⟨hr, H2, I2, e1.trans e2⟩
      have hall : allP (fun i => match ds1[i]?, es1[i]? with | some d, some e => eqD d e | _, _ => false) its.toArray.size its2.toArray.size = eqL ds1 es1 := by
        rw [List.size_toArray, List.size_toArray, ← l1, ← l2, l3, l4]
        exact eqL_all _ fun i d' e' h1 h2 => by simp only [h1, h2]
      refine wpAny_richCompare_same_room (op := .NotEq) ⟨_, ho, rfl⟩ ⟨_, ho2, rfl⟩ F.slot_tuple_ne (GQ.call_here F.slot_tuple_ne ⟨_, ho, rfl⟩ F.entry_tuple_ne (F.args_tuple_ne_2 _ _) ?_) hu
      exact tup_neB (R := wants (fun z s' => z ≠ .notImplemented ∧ EP X pins σ Q z s') X.xe) pair (fun s' j => ⟨(fun z => nomatch z), fin _ (by rw [hall]; rfl) s' j⟩) ho ho2 here
end
end Hc

namespace Hc
open PySem PySem.Spec PyProof.Rows L2 Hr
open PyProof in
/-- s * n -/
def rSMul : R2 := fun x y H Q => ∃ s n, x = .str s ∧ y = .int n ∧ MulOk s n ∧ Q (.str (Txt.mul s n)) H
open PyProof in
theorem op_smul {X : Cx} : OpR X (binaryOp .Mult) rSMul := by
  intro pins s σ H x y v u Q I rx ry h
  obtain ⟨i, j, rfl, rfl, hz, q⟩ := h
  obtain ⟨t, rfl⟩ := rx
  obtain ⟨t', rfl⟩ := ry
  exact SB.mul hz (fun t' tk => ⟨.str (Txt.mul i j), H, I.tok _, ⟨_, rfl⟩, q⟩)
open PyProof in
theorem smul24 : MulOk "x" 24 := by unfold MulOk; decide +kernel
open PyProof in
theorem smul25 : MulOk "x" 25 := by unfold MulOk; decide +kernel
open PyProof in
theorem smul24v : Txt.mul "x" 24 = "xxxxxxxxxxxxxxxxxxxxxxxx" := by decide +kernel
open PyProof in
theorem smul25v : Txt.mul "x" 25 = "xxxxxxxxxxxxxxxxxxxxxxxxx" := by decide +kernel
end Hc

namespace Hc
open PySem PySem.Spec PyProof.Rows L2 Hr
def isLD : HO → Bool | .lst _ => true | .dK _ => true | _ => false
/-- H' without what was a list or a dict in H -/
def nw (H H' : Hp) : Hp := fun b => match H b with | some o => if isLD o = true then none else H' b | none => H' b
theorem nw_le {H H' : Hp} : Same (nw H H') H' := fun x o e => by
  unfold nw at e
  cases h : H x with
  | none => rw [h] at e; exact e
  | some u =>
    rw [h] at e
    by_cases z : isLD u = true
    · simp [z] at e
    · simpa [z] using e
theorem nw_at {H H' : Hp} {b : Addr} {o : HO} (h : H b = none) (e : H' b = some o) : nw H H' b = some o := by
  unfold nw; rw [h]; exact e
theorem nw_ld {H H' : Hp} {b : Addr} {o : HO} (h : H b = some o) (l : isLD o = true) : nw H H' b = none := by
  unfold nw; rw [h]; simp [l]
theorem nw_eq {H H' : Hp} {b : Addr} (h : ∀ o, H b = some o → isLD o = false) : nw H H' b = H' b := by
  unfold nw
  cases e : H b with
  | none => rfl
  | some o => simp [h o e]
theorem nw_bu {d c : Addr} {H H1 H2 : Hp} (hD : Dr H d c) (b : Bu2 d c H1 H2) : Same (nw H H1) (nw H H2) := fun x o e => by
  obtain ⟨⟨r, m, h1⟩, ns, _, h2⟩ := hD
  have nd : x ≠ d := fun z => by rw [z, nw_ld h1 rfl] at e; cases e
  have nc : x ≠ c := fun z => by rw [z, nw_ld h2 rfl] at e; cases e
  have e1 := nw_le _ _ e
  rw [← b _ _ e1 nd nc]
  unfold nw at e ⊢
  rw [e1] at e
  rw [b _ _ e1 nd nc]; exact e
theorem newF {H0 H : Hp} {p d c : Addr} {o : HO} (hD : Dr H0 d c) (s : Same H0 H) (h : H p = none) : Same H0 (upd H p o) ∧ nw H0 (upd H p o) p = some o ∧ Same (nw H0 H) (nw H0 (upd H p o)) :=
  ⟨s.trans (same_new h), nw_at (s.free h) upd_same, nw_bu hD (Bu2.of (same_new h))⟩
/-- one of a fresh row is picked -/
theorem pick_new {H : Hp} {d c l : Addr} {xs : List V} {Q : VK} (hD : Dr H d c) (hl : H l = none) (h0 : 0 < xs.length) (h1 : xs.length < 1000000) (q : ∀ H' x, Dr H' d c → Bu2 d c H H' → x ∈ xs → Q x H') : spPick [.ref d, .ref l] (upd H l (.lst xs)) Q C8.E0 := by
  have s1 := same_new (o := .lst xs) hl
  exact ⟨d, c, l, xs, rfl, hD.same s1, upd_same, (hD.off hl).2, h0, h1, fun H' i x hD' b' hx => q H' x hD' ((Bu2.of s1).trans b') (List.mem_of_getElem? hx)⟩
/-- lists and dicts stay lists and dicts -/
def LDk (H H1 : Hp) : Prop := ∀ b o, H b = some o → isLD o = true → ∃ o', H1 b = some o' ∧ isLD o' = true
theorem LDk.of {H H1 : Hp} (s : Same H H1) : LDk H H1 := fun b o e l => ⟨o, s _ _ e, l⟩
theorem LDk.trans {H H1 H2 : Hp} (a : LDk H H1) (b : LDk H1 H2) : LDk H H2 := fun x o e l => by
  obtain ⟨o1, e1, l1⟩ := a x o e l
  exact b x o1 e1 l1
theorem LDk.bu {d c : Addr} {H H1 : Hp} (hD : Dr H1 d c) (b : Bu2 d c H H1) : LDk H H1 := fun x o e l => by
  obtain ⟨⟨r, m, h1⟩, ns, _, h2⟩ := hD
  by_cases z : x = d
  · rw [z]; exact ⟨_, h1, rfl⟩
  by_cases y : x = c
  · rw [y]; exact ⟨_, h2, rfl⟩
  exact ⟨o, b x o e z y, l⟩
theorem nw_sub {H H1 H2 : Hp} (k : LDk H H1) : Same (nw H1 H2) (nw H H2) := fun x o e => by
  rw [nw_eq (H := H) fun u hu => ?_]
  · exact nw_le _ _ e
  · cases l : isLD u with
    | false => rfl
    | true =>
      obtain ⟨u1, e1, l1⟩ := k x u hu l
      rw [nw_ld e1 l1] at e; cases e
theorem nw_keep {C : Addr} {H H' : Hp} (k : LDk H H') : Keep C H' (nw H H') := by
  have h : ∀ b o, H' b = some o → isLD o = false → nw H H' b = some o := fun b o e l => by
    rw [nw_eq fun u hu => ?_]
    · exact e
    · cases l2 : isLD u with
      | false => rfl
      | true =>
        obtain ⟨u1, e1, l1⟩ := k b u hu l2
        rw [e] at e1; cases e1
        rw [l] at l1; cases l1
  exact ⟨fun b xs e => h b _ e rfl, fun b dx fs e => h b _ e rfl⟩
theorem nw_upd {H X : Hp} {l : Addr} {o u : HO} (h : H l = some o) (hl : isLD o = true) : Same (nw H X) (nw H (upd X l u)) := fun x v e => by
  have n : x ≠ l := fun z => by rw [z, nw_ld h hl] at e; cases e
  have : nw H (upd X l u) x = nw H X x := by
    unfold nw; rw [upd_ne n]
  rw [this]; exact e
/-- a row of drawn data, lists among them -/
theorem drawn_lcV {J : It} {n : Nat} {G : Hp → Prop} {Y : Nat → Hp → V → Hp → Prop} (w : Walk J n G Y) {g : TG} {tt : TT} {te : TE} {vs : List Nat} {σ : L2.St} {H0 H2 : Hp} {Dl d c C : Addr} {Qd : Hp → Prop} {good : D → Prop} (hD : Dr H2 d c) (hDl : H2 Dl = none) (hn : n ≤ 1000) (hG : ∀ H, G H)
    (hL : LDk H0 H2) (hY : ∀ i H x H', Y i H x H' → H' = H)
    (ht : ∀ i x H H3 (R : VK) (N : Hp → Prop), i < n → Y i H x H3 → Dr H3 d c → Bu2 d c H2 H3 → (∀ H5 v w, Dr H5 d c → Bu2 d c H3 H5 → Is C (nw H3 H5) v w → good w → R v H5) → g x (wipe σ vs) H3 fun σ2 H4 => wipe σ2 vs = wipe σ vs ∧ tt σ2 H4 fun b H5 => if b = true then te σ2 H5 R else N H5)
    (hq : ∀ H3 acc ws, Dr H3 d c → Bu2 d c H2 H3 → H3 Dl = some (.lst acc) → IsA C (nw H0 H3) acc ws → ws.length = n → (∀ e ∈ ws, good e) → Qd H3) :
    ∃ W : Nat → Nat → Hp → Prop, (∃ m, W 0 m (upd H2 Dl (.lst []))) ∧ ∀ i m H, W i m H →
      (J.stop i H ∧ Qd H) ∨ (J.go i H ∧ ∃ Nx : Hp → Prop, (∀ H', Nx H' → ∃ m', m' < m ∧ W (i + 1) m' H') ∧ ∀ x H', J.yld i H x H' → g x (wipe σ vs) H' fun σ2 H2 => wipe σ2 vs = wipe σ vs ∧ tt σ2 H2 fun b H3 =>
        if b = true then te σ2 H3 fun y H4 => ∃ acc, H4 Dl = some (.lst acc) ∧ acc.length < sizeLine ∧ Nx (upd H4 Dl (.lst (acc ++ [y]))) else Nx H3) := by
  have hoff := hD.off hDl
  have sA := same_new (o := .lst []) hDl
  have hDA := hD.same sA
  have eA : upd H2 Dl (.lst []) Dl = some (.lst []) := upd_same
  have hL0 : LDk H0 (upd H2 Dl (.lst [])) := hL.trans (LDk.of sA)
  have frA : ∀ b o, upd H2 Dl (.lst []) b = some o → b ≠ Dl → H2 b = some o := fun b o e n => by rwa [upd_ne n] at e
  refine lc_it w (fun i H3 => Dr H3 d c ∧ Bu2 d c H2 H3 ∧ ∃ acc ws, H3 Dl = some (.lst acc) ∧ IsA C (nw (upd H2 Dl (.lst [])) H3) acc ws ∧ ws.length = i ∧ ∀ e ∈ ws, good e) ⟨hDA, Bu2.of sA, [], [], upd_same, .nil, rfl, fun e he => by cases he⟩ (fun _ _ _ _ => hG _) ?_ ?_
  · rintro i x H3 H4 hi ⟨hD3, b3, acc, ws, hz, ia, hl, hw⟩ y
    have e := hY _ _ _ _ y
    subst e
    refine ht i x _ _ _ _ hi y hD3 b3 fun H5 v w' hD5 b5 iv hwd => ?_
    have hz5 := b5 _ _ hz hoff.1 hoff.2
    have hal := ia.len
    have kA : LDk (upd H2 Dl (.lst [])) H4 := fun b o e l => by
      by_cases z : b = Dl
      · rw [z]; exact ⟨_, hz, rfl⟩
      · exact LDk.bu hD3 b3 b o (frA b o e z) l
    have ia5 := ia.same (nw_bu hDA b5)
    have iv5 := iv.same (nw_sub kA)
    have su : Same (nw (upd H2 Dl (.lst [])) H5) (nw (upd H2 Dl (.lst [])) (upd H5 Dl (.lst (acc ++ [v])))) := nw_upd eA rfl
    refine ⟨acc, hz5, by have : (1000 : Nat) < sizeLine := by decide
                         omega, ?_, fun b o e n1 n2 => ?_, acc ++ [v], ws ++ [w'], upd_same, ?_, by simp [hl], fun e he => ?_⟩
    · obtain ⟨⟨r0, m0, f1⟩, ns, hn, f2⟩ := hD5
      exact ⟨⟨r0, m0, by rw [upd_ne hoff.1.symm]; exact f1⟩, ns, hn, by rw [upd_ne hoff.2.symm]; exact f2⟩
    · rw [upd_ne (ne_of_none e hDl)]
      exact b5 _ _ (b3 _ _ e n1 n2) n1 n2
    · exact (ia5.same su).app (.cons (iv5.same su) .nil)
    · rcases List.mem_append.mp he with he | he
      · exact hw e he
      · rw [List.mem_singleton.mp he]; exact hwd
  · rintro H3 ⟨hD3, b3, acc, ws, hz, ia, hl, hw⟩
    exact hq H3 acc ws hD3 b3 hz (ia.same (nw_sub hL0)) hl hw
/-- data without lists and dicts is there without the old ones, too -/
theorem Is.nw {C : Addr} {H H' : Hp} (k : LDk H H') {x : V} {d : D} (c : cln d = true) (i : Is C H' x d) : Is C (nw H H') x d := Is.keep (nw_keep k) c i
theorem IsA.nw {C : Addr} {H H' : Hp} (k : LDk H H') {xs : List V} {ds : List D} (c : clnL ds = true) (i : IsA C H' xs ds) : IsA C (nw H H') xs ds := IsA.keep (nw_keep k) c i
end Hc

namespace Hc
open PySem PySem.Spec PyProof.Rows L2 Hr
def rLn (K : PySem.W.Frag) : List V → Hp → VK → Prop := fun xs H Q => ∃ p ys, xs = [.ref p] ∧ (SqL K H p ys ∨ SqT K H p ys) ∧ Q (.int ys.length) H
theorem inVab (k p q : Str) : inV (.str k) [.str p, .str q] = (decide (k = p) || decide (k = q)) := by
  have e : ∀ a b : Str, eqV (.str a) (.str b) = decide (b = a) := fun a b => by
    simp only [eqV]
    by_cases h : b = a
    · subst h; simp
    · rw [decide_eq_false h]; exact beq_eq_false_iff_ne.mpr fun z => h z.symm
  show ([V.str p, .str q].any fun y => eqV y (.str k)) = _
  simp only [List.any_cons, List.any_nil, e, Bool.or_false]
def nameD : D → Bool | .tup (.str _ :: _) => true | _ => false
def numD (d : D) (lo hi : Int) : Bool := match d with | .int i => decide (lo ≤ i) && decide (i < hi) | _ => false
def formD (d : D) (z : Str) (m : Int) : Bool := isNum d && (if z = "register" then numD d 0 4 else if z = "place" then numD d 0 m else true)
def instrF (fs : List Str) (ds : List D) (m : Int) : Bool := decide (ds.length = fs.length) && (ds.zip fs).all fun p => formD p.1 p.2 m
def instrD (d : D) (m : Int) : Bool := match d with
  | .tup (.str k :: ds) => (match formsM k with | some fs => instrF fs ds m | none => false)
  | _ => false
/-- the name, if there is one, is known to be one or to be none -/
def NmOk (more : List Str) (d : D) : Prop := match d with | .tup (.str k :: ds) => ((∃ p ∈ progF, p.1 = k) ∨ k ∈ more) ∧ ds.length ≤ 1000 | _ => True
theorem kf_at {K : PySem.W.Frag} {mg : Str → Option Value} {w : World} {more : List Str} (F : KForms K mg w "FORMS_machine" progF more) (hm : ∀ k ∈ more, formsM k = none) : ∃ g es n, (∃ u, mg "FORMS_machine" = some u ∧ RelV (.ref g) u) ∧ KDict K w g es n ∧
    ∀ k : Str, ((∃ p ∈ progF, p.1 = k) ∨ k ∈ more) → (∃ t fs, formsM k = some fs ∧ PySem.W.nsIn K g k = some (some (.ref t)) ∧ KTup K t fs) ∨ (formsM k = none ∧ PySem.W.nsIn K g k = some none) := by
  obtain ⟨g, es, n, hg, kd, h1, h2⟩ := F.ex
  refine ⟨g, es, n, hg, kd, fun k hk => ?_⟩
  rcases hk with ⟨p, hp, rfl⟩ | hk
  · obtain ⟨t, e1, e2⟩ := h1 p hp
    refine .inl ⟨t, p.2, ?_, e1, e2⟩
    have : ∀ p ∈ progF, formsM p.1 = some p.2 := by decide +kernel
    exact this p hp
  · exact .inr ⟨hm k hk, h2 k hk⟩
def spHN (C : Addr) : Sp := fun vs H Q _ => ∃ x d, vs = [x] ∧ Is C H x d ∧ Q (.bl (nameD d)) H
def spFm (C : Addr) : Sp := fun vs H Q _ => ∃ x d z m, vs = [x, .str z, .int m] ∧ Is C H x d ∧ ∀ H', Same H H' → Q (.bl (formD d z m)) H'
def spIn (C : Addr) (more : List Str) : Sp := fun vs H Q _ => ∃ x d m, vs = [x, .int m] ∧ Is C H x d ∧ NmOk more d ∧ ∀ H', Same H H' → Q (.bl (instrD d m)) H'
def belD (d : D) (m : Int) : Bool := match d with | .int i => decide (0 ≤ i) && decide (i < m) | _ => false
def formB (d : D) (nm : Str) (m : Int) : Bool := match d with | .tup (.str k :: ds) => decide (((ds.length + 1 : Nat) : Int) = m) && decide (k = nm) | _ => false
def spBel (C : Addr) : Sp := fun vs H Q _ => ∃ x d m, vs = [x, .int m] ∧ Is C H x d ∧ Q (.bl (belD d m)) H
def spBel1 (C : Addr) (m : Int) : Sp := fun vs H Q _ => ∃ x d, vs = [x] ∧ Is C H x d ∧ Q (.bl (belD d m)) H
def spForm (C : Addr) : Sp := fun vs H Q _ => ∃ x d nm m, vs = [x, .str nm, .int m] ∧ Is C H x d ∧ 0 < m ∧ Q (.bl (formB d nm m)) H
def lastD (ds : List D) : Bool := match ds.getLast? with | some (.tup (.str k :: _)) => decide (k = "jump" ∨ k = "end") | _ => false
def progD (d : D) : Bool := match d with | .tup ds => decide (1 ≤ ds.length) && decide (ds.length ≤ 24) && ds.all (fun e => instrD e ds.length) && lastD ds | _ => false
def PgOk (more : List Str) (d : D) : Prop := match d with | .tup ds => ds.length ≤ 1000 ∧ ∀ e ∈ ds, NmOk more e | _ => True
def regD (d : D) : Bool := match d with | .tup ds => decide (ds.length = 4) && ds.all (okW 10 36 0) | _ => false
theorem instr_name {d : D} {m : Int} (h : instrD d m = true) : ∃ k ds, d = .tup (.str k :: ds) := by
  unfold instrD at h
  split at h
  · exact ⟨_, _, rfl⟩
  · cases h
def spPr (C : Addr) (more : List Str) : Sp := fun vs H Q _ => ∃ x d, vs = [x] ∧ Is C H x d ∧ PgOk more d ∧ ∀ H', Same H H' → Q (.bl (progD d)) H'
section
variable {P : Program} {w : World} {K : PySem.W.Frag} {mg : Str → Option Value} {base : Heap} {f : Addr} {fd : FuncData} {C : Addr}
abbrev s_is_host_word : Stmt := top 16
theorem sc_is_host_word : FnScope ["value"] ["value"] (C8.fnScope s_is_host_word) := C8.fnScope_by (by decide +kernel)
theorem ok_is_host_word (F : C8.Def K mg "is_host_word" s_is_host_word f fd) (b : Binds K fd ["value"] []) (T : Txt K mg w C) (c__is_within : C8.Cal P w K mg base 2 "_is_within" (spWithin C) []) : C8.Cal P w K mg base 3 "is_host_word" (spB C Fit (okW 10 36 0)) [] := by
  refine C8.cal0 F b .nil sc_is_host_word (fun vs H Q E h => ?_) (fun cdv A outer s H vs Q E hr h => ?_)
  · obtain ⟨x, d, rfl, _⟩ := h; rfl
  obtain ⟨x, d, rfl, hx, hz, q⟩ := h
  refine ⟨_, (pss_one (ps_ret (C8.pe_c c__is_within hr (by first | decide | omega) rfl (pa_cons (pv 0) (pa_cons (C8.pe_gc rfl T.c_MOST_DEEP_HOST) (pa_cons (C8.pe_gc rfl T.c_MOST_RANK_HOST) pa_nil)))))), ?_⟩
  exact ⟨x, rfl, x, d, 10, 36, rfl, hx, hz, q⟩
abbrev s_has_name : Stmt := top 32
theorem sc_has_name : FnScope ["value"] ["value"] (C8.fnScope s_has_name) := C8.fnScope_by (by decide +kernel)
theorem ok_has_name (F : C8.Def K mg "has_name" s_has_name f fd) (b : Binds K fd ["value"] []) (T : Txt K mg w C) : C8.Cal P w K mg base 1 "has_name" (spHN C) [] := by
  refine C8.cal0 F b .nil sc_has_name (fun vs H Q E h => ?_) (fun cdv A outer s H vs Q E hr h => ?_)
  · obtain ⟨x, d, rfl, _⟩ := h; rfl
  obtain ⟨x, d, rfl, hx, q⟩ := h
  refine ⟨_, (pss_one (ps_ret (pe_and (pe_cmpR (op_isTyA (C := C)) (pe_callTy (call_typeA (C := C)) rfl T.z_type bt_type (pa_cons (pv 0) pa_nil)) (pe_bltn (v := .ty "tuple") rfl T.z_tuple bt_tuple rfl) (nomark _)) (pe_and (pe_cmpR op_gt (pe_callB call_lenS rfl T.z_len bt_len (pa_cons (pv 0) pa_nil)) pe_int (nomark _)) (pe_one (pe_cmpR (op_isTyA (C := C)) (pe_callTy (call_typeA (C := C)) rfl T.z_type bt_type (pa_cons (pe_ix ix_tup (pv 0) pe_int (fun _ _ => rfl)) pa_nil)) (pe_bltn (v := .ty "str") rfl T.z_str bt_str rfl) (nomark _))))))), ?_⟩
  refine ⟨_, rfl, x, d, rfl, hx, kyV_ok d, .inl ⟨_, rfl⟩, _, rfl, ?_⟩
  by_cases ct : kyV C d = .ty "tuple"
  · refine ifT ct ?_
    obtain ⟨ds, rfl⟩ := kyV_tup.mp ct
    cases hx with
    | @tup a xs _ ha hxs =>
    refine ⟨_, rfl, a, xs, rfl, .inr (SqT.of ha), _, _, rfl, rfl, _, rfl, ?_⟩
    cases hxs with
    | nil => exact ifF (by simp) q
    | @cons y ys e es hy hys =>
      refine ifT (by simp) ⟨_, rfl, a, _, 0, y, rfl, rfl, SqT.of ha, atI_nat (j := 0) rfl, y, e, rfl, hy, kyV_ok e, .inl ⟨_, rfl⟩, ?_⟩
      have h : nameD (.tup (e :: es)) = decide (kyV C e = .ty "str") := by cases e <;> simp [nameD, kyV]
      rw [h] at q; exact q
  · have h : nameD d = false := by cases d <;> first | rfl | exact absurd rfl ct
    rw [h] at q
    exact ifF ct q
abbrev s_has_form_machine : Stmt := top 42
theorem sc_has_form_machine : FnScope ["part", "form", "many"] ["part", "form", "many"] (C8.fnScope s_has_form_machine) := C8.fnScope_by (by decide +kernel)
theorem ok_hfm (F : C8.Fun K "_has_form" "_has_form" s_has_form_machine f fd) (hm : mg "has_form_machine" = some (.ref f)) (kp : PySem.W.keepIn K (.ref f) = true) (b : Binds K fd ["part", "form", "many"] []) (T : Txt K mg w C) (c_is_number : C8.Cal P w K mg base 1 "is_number" (spB C (fun _ => True) isNum) []) : C8.Cal P w K mg base 2 "has_form_machine" (spFm C) [] := by
  refine calA F hm kp b .nil sc_has_form_machine (fun vs H Q E h => ?_) (fun cdv A outer s H vs Q E hr h => ?_)
  · obtain ⟨x, d, z, m, rfl, _⟩ := h; rfl
  obtain ⟨x, d, z, m, rfl, hx, q⟩ := h
  refine ⟨_, (pss_cons (ps_if (pt_cmpR op_eq (pv 1) pe_str (nomark _)) (pss_one (ps_ret (pe_and (C8.pe_c c_is_number hr (by first | decide | omega) rfl (pa_cons (pv 0) pa_nil)) (pe_one (pe_chain op_le op_lt pe_int (pv 0) (C8.pe_gc rfl T.c_REGISTERS)))))) pss_nil)
      (pss_cons (ps_if (pt_cmpR op_eq (pv 1) pe_str (nomark _)) (pss_one (ps_ret (pe_and (C8.pe_c c_is_number hr (by first | decide | omega) rfl (pa_cons (pv 0) pa_nil)) (pe_one (pe_chain op_le op_lt pe_int (pv 0) (pv 2)))))) pss_nil)
      (pss_one (ps_ret (C8.pe_c c_is_number hr (by first | decide | omega) rfl (pa_cons (pv 0) pa_nil)))))), ?_⟩
  have rng : ∀ (hi : Int) (c1 : isNum d = true) (c2 : formD d z m = numD d 0 hi), ∃ j, d = .int j ∧ formD d z m = (decide (0 ≤ j) && decide (j < hi)) := fun hi c1 c2 => by
    cases d <;> first | (exact ⟨_, rfl, c2⟩) | (simp [isNum] at c1; done)
  refine ⟨_, rfl, rfl, _, rfl, ?_⟩
  by_cases z1 : z = "register"
  · refine ifT (by rw [z1]) ⟨_, rfl, x, d, rfl, hx, trivial, fun H1 s1 => ⟨_, rfl, ?_⟩⟩
    have q := q H1 s1
    cases c1 : isNum d with
    | false =>
      have e : formD d z m = false := by unfold formD; rw [c1]; rfl
      rw [e] at q; exact iteF q
    | true =>
      obtain ⟨j, rfl, e⟩ := rng 4 c1 (by unfold formD; rw [c1, if_pos z1]; rfl)
      rw [e] at q
      cases hx
      refine iteT ⟨_, rfl, _, _, rfl, rfl, _, rfl, ite2 (fun c => ?_) (fun c => ?_)⟩
      · refine ⟨_, _, rfl, rfl, ?_⟩
        rw [show decide (0 ≤ j) = true from c, Bool.true_and] at q; exact q
      · rw [show decide (0 ≤ j) = false by simpa using c, Bool.false_and] at q; exact q
  refine ifF (fun q => z1 (V.str.inj q)) ⟨_, rfl, rfl, _, rfl, ?_⟩
  by_cases z2 : z = "place"
  · refine ifT (by rw [z2]) ⟨_, rfl, x, d, rfl, hx, trivial, fun H1 s1 => ⟨_, rfl, ?_⟩⟩
    have q := q H1 s1
    cases c1 : isNum d with
    | false =>
      have e : formD d z m = false := by unfold formD; rw [c1]; rfl
      rw [e] at q; exact iteF q
    | true =>
      obtain ⟨j, rfl, e⟩ := rng m c1 (by unfold formD; rw [c1, if_neg z1, if_pos z2]; rfl)
      rw [e] at q
      cases hx
      refine iteT ⟨_, rfl, _, _, rfl, rfl, _, rfl, ite2 (fun c => ?_) (fun c => ?_)⟩
      · refine ⟨_, rfl, _, _, rfl, rfl, ?_⟩
        rw [show decide (0 ≤ j) = true from c, Bool.true_and] at q; exact q
      · rw [show decide (0 ≤ j) = false by simpa using c, Bool.false_and] at q; exact q
  refine ifF (fun q => z2 (V.str.inj q)) ⟨_, rfl, x, d, rfl, hx, trivial, fun H1 s1 => ?_⟩
  have q := q H1 s1
  have e : formD d z m = isNum d := by unfold formD; rw [if_neg z1, if_neg z2, Bool.and_true]
  rw [e] at q; exact q
abbrev s__is_instruction : Stmt := top 41
theorem sc__is_instruction : FnScope ["value", "many", "forms", "part", "form"] ["value", "many"] (C8.fnScope s__is_instruction) := C8.fnScope_by (by decide +kernel)
theorem ok__is_instruction {more : List Str} (F : C8.Def K mg "_is_instruction" s__is_instruction f fd) (b : Binds K fd ["value", "many"] []) (T : Txt K mg w C) (KF : KForms K mg w "FORMS_machine" progF more) (hmore : ∀ k ∈ more, formsM k = none) (c_has_name : C8.Cal P w K mg base 1 "has_name" (spHN C) [])
    (c_hfm : C8.Cal P w K mg base 2 "has_form_machine" (spFm C) []) : C8.Cal P w K mg base 3 "_is_instruction" (spIn C more) [] := by
  refine C8.cal0 F b .nil sc__is_instruction (fun vs H Q E h => ?_) (fun cdv A outer s H vs Q E hr h => ?_)
  · obtain ⟨x, d, m, rfl, _⟩ := h; rfl
  obtain ⟨x, d, m, rfl, hx, hn, q⟩ := h
  obtain ⟨g, es, n, gF, KD, hf⟩ := kf_at KF hmore
  refine ⟨_, (pss_cons (ps_if (pt_not (pt_val (C8.pe_c c_has_name hr (by first | decide | omega) rfl (pa_cons (pv 0) pa_nil)))) (pss_one (ps_ret pe_bl)) pss_nil)
      (pss_cons (ps_set (i := 2) sc__is_instruction.nd rfl (Or.inl rfl) (pe_getW KD (C8.pe_gc rfl gF) (pe_ix ix_tup (pv 0) pe_int (fun _ _ => rfl))))
      (pss_cons (ps_if (PW.pt (pw_or (pt_cmpR op_isN (pv 2) pe_non (nomark _)) (pw_or1 (pt_cmpR op_ne (pe_callB call_lenS rfl T.z_len bt_len (pa_cons (pv 0) pa_nil)) (pe_op op_add (pe_callB call_lenS rfl T.z_len bt_len (pa_cons (pv 2) pa_nil)) pe_int) (nomark _))))) (pss_one (ps_ret pe_bl)) pss_nil)
      (pss_one (ps_ret (pe_callB (cr_all rfl) rfl T.z_all bt_all (pa_cons (pe_lc (own := [("part", 3), ("form", 4)]) (g := gTup K 2 (gCons (gName 3) (gCons (gName 4) gNil))) rfl sc__is_instruction.nd (RZ.pi_zipA rfl T.z_zip (pa_cons (pe_slice sl_tupA (pv 0) (po_some pe_int) po_none) (pa_cons (pv 2) pa_nil))) (blkOk_by (own := [("part", 3), ("form", 4)]) (N := ["value", "many", "forms", "part", "form"]) (sc := C8.fnScope s__is_instruction) (by decide +kernel)) (fun _ _ _ _ _ => (pg_tup rfl (pgs_cons (pg_name (i := 3) sc__is_instruction.nd rfl (Or.inl rfl)) (pgs_cons (pg_name (i := 4) sc__is_instruction.nd rfl (Or.inl rfl)) pgs_nil)))) (fun _ _ _ _ _ => pts_nil) (fun _ _ _ _ _ => (C8.pe_c c_hfm hr (by first | decide | omega) rfl (pa_cons (pv 3) (pa_cons (pv 4) (pa_cons (pv 1) pa_nil)))))) pa_nil))))))), ?_⟩
  refine ⟨_, rfl, x, d, rfl, hx, _, rfl, ?_⟩
  cases hnm : nameD d with
  | false =>
    have e : instrD d m = false := by
      unfold instrD
      split
      · simp [nameD] at hnm
      · rfl
    have q := q H (Same.refl H)
    rw [e] at q
    exact bT rfl q
  | true =>
    refine bF rfl ?_
    obtain ⟨k, ds, rfl⟩ : ∃ k ds, d = .tup (.str k :: ds) := by
      unfold nameD at hnm
      split at hnm
      · exact ⟨_, _, rfl⟩
      · cases hnm
    cases hx with
    | @tup a xs _ ha hxs =>
    cases hxs with
    | @cons y ys _ _ hy hys =>
    cases hy
    have hl := hys.len
    obtain ⟨hk, hlen⟩ := hn
    have fin : ∀ (r : Bool), r = instrD (.tup (.str k :: ds)) m → ∀ H', Same H H' → Q (.bl r) H' := fun r e H' s' => by rw [e]; exact q H' s'
    rcases hf k hk with ⟨t, fs, e1, hns, kt⟩ | ⟨e1, hns⟩
    · have eI : instrD (.tup (.str k :: ds)) m = instrF fs ds m := by simp only [instrD, e1]
      refine ⟨rfl, _, rfl, a, _, 0, _, rfl, rfl, SqT.of ha, atI_nat (j := 0) rfl, k, _, rfl, hns, (fun z => nomatch z), fun u hu => ⟨.ref t, (by cases hu; rfl), ?_⟩⟩
      refine ⟨_, rfl, rfl, _, rfl, ifF (fun z => nomatch z) ⟨_, rfl, a, _, rfl, .inr (SqT.of ha), _, rfl, t, _, rfl, .inr (kt H), _, _, rfl, rfl, rfl, _, rfl, ?_⟩⟩
      by_cases c3 : ds.length = fs.length
      · refine bF (by simp; omega) ?_
        refine ⟨_, rfl, 1, rfl, ?_⟩
        refine sl_goL ha fun H1 p s1 ep => ?_
        rw [show (1 : Int) = ((1 : Nat) : Int) from rfl, cut_from] at ep
        have ep : H1 p = some (.tup ys) := ep
        refine ⟨_, rfl, p, t, ys, fs.map V.str, rfl, .inr ⟨SqT.of ep, kt H1, fun Dl hD => ?_⟩⟩
        have hmin : ds.length = min ys.length (fs.map V.str).length := by rw [hl, List.length_map]; omega
        have sD := same_new (o := .lst []) hD
        refine lc_it (walk_zipT (K := K) (a := p) (b := t) (xs := ys) (ys := fs.map V.str) hmin) (fun i H3 => Same H1 H3 ∧ H3 Dl = some (.lst (((ds.zip fs).take i).map fun q => V.bl (formD q.1 q.2 m)))) ⟨sD, upd_same⟩ (fun i H3 _ h => ⟨SqT.of (h.1 _ _ ep), kt H3⟩) ?_ ?_
        · rintro i v H3 H4 hi ⟨s3, hz3⟩ ⟨tt, x, y, rfl, nt, rfl, ex, ey⟩
          have ex : ys[i]? = some x := ex
          obtain ⟨d, hd, hx⟩ := hys.at ex
          obtain ⟨z, hz2, rfl⟩ : ∃ z, fs[i]? = some z ∧ y = V.str z := by
            have ey : (fs.map V.str)[i]? = some y := ey
            rw [List.getElem?_map] at ey
            cases h : fs[i]? with
            | none => rw [h] at ey; cases ey
            | some z => rw [h] at ey; exact ⟨z, rfl, (Option.some.inj ey).symm⟩
          have s4 := same_new (o := .tup [x, .str z]) nt
          refine ⟨tt, [x, .str z], rfl, SqT.of upd_same, rfl, x, [.str z], rfl, .str z, [], rfl, rfl, rfl, yes ?_⟩
          refine ⟨_, rfl, _, rfl, _, rfl, x, d, z, m, rfl, hx.same ((s1.trans s3).trans s4), fun H5 s5 => ?_⟩
          have hpz : (ds.zip fs)[i]? = some (d, z) := by rw [List.getElem?_zip_eq_some]; exact ⟨hd, hz2⟩
          have hz5 := s5 _ _ (s4 _ _ hz3)
          refine ⟨_, hz5, small1000 (by rw [List.length_map, List.length_take, List.length_zip]; omega), same_put ((s3.trans s4).trans s5) hD, ?_⟩
          rw [upd_same, List.take_add_one, hpz, List.map_append]; rfl
        · rintro H3 ⟨s3, hz3⟩
          have hzl : (ds.zip fs).length = ds.length := by rw [List.length_zip]; omega
          rw [List.take_of_length_le (by omega)] at hz3
          refine ⟨Dl, (ds.zip fs).map fun q => formD q.1 q.2 m, rfl, SqL.of (by rw [List.map_map]; exact hz3), ?_⟩
          refine fin _ ?_ H3 (s1.trans s3)
          rw [eI, List.all_map]
          unfold instrF
          rw [decide_eq_true c3]; rfl
      · refine bT (by simp; omega) ?_
        refine fin _ ?_ H (Same.refl H)
        rw [eI]; unfold instrF; rw [decide_eq_false c3]; rfl
    · refine ⟨rfl, _, rfl, a, _, 0, _, rfl, rfl, SqT.of ha, atI_nat (j := 0) rfl, k, _, rfl, hns, (fun _ => ?_), fun u hu => nomatch hu⟩
      refine ⟨_, rfl, rfl, _, rfl, ifT rfl ?_⟩
      refine fin _ ?_ H (Same.refl H)
      simp only [instrD, e1]
abbrev s_is_registers : Stmt := top 40
theorem sc_is_registers : FnScope ["value", "word"] ["value"] (C8.fnScope s_is_registers) := C8.fnScope_by (by decide +kernel)
theorem ok_is_registers (F : C8.Def K mg "is_registers" s_is_registers f fd) (b : Binds K fd ["value"] []) (T : Txt K mg w C) (c_is_host_word : C8.Cal P w K mg base 3 "is_host_word" (spB C Fit (okW 10 36 0)) []) : C8.Cal P w K mg base 4 "is_registers" (spB C Fit regD) [] := by
  refine C8.cal0 F b .nil sc_is_registers (fun vs H Q E h => ?_) (fun cdv A outer s H vs Q E hr h => ?_)
  · obtain ⟨x, d, rfl, _⟩ := h; rfl
  obtain ⟨x, d, rfl, hx, hz, q⟩ := h
  refine ⟨_, (pss_one (ps_ret (pe_and (pe_cmpR (op_isTyA (C := C)) (pe_callTy (call_typeA (C := C)) rfl T.z_type bt_type (pa_cons (pv 0) pa_nil)) (pe_bltn (v := .ty "tuple") rfl T.z_tuple bt_tuple rfl) (nomark _)) (pe_and (pe_cmpR op_eq (pe_callB call_lenS rfl T.z_len bt_len (pa_cons (pv 0) pa_nil)) (C8.pe_gc rfl T.c_REGISTERS) (nomark _)) (pe_one (pe_callB (cr_all rfl) rfl T.z_all bt_all (pa_cons (pe_lc (own := [("word", 1)]) (g := gName 1) rfl sc_is_registers.nd (pi_tup (pv 0)) (blkOk_by (own := [("word", 1)]) (N := ["value", "word"]) (sc := C8.fnScope s_is_registers) (by decide +kernel)) (fun _ _ _ _ _ => (pg_name (i := 1) sc_is_registers.nd rfl (Or.inl rfl))) (fun _ _ _ _ _ => pts_nil) (fun _ _ _ _ _ => (C8.pe_c c_is_host_word hr (by first | decide | omega) rfl (pa_cons (pv 1) pa_nil)))) pa_nil))))))), ?_⟩
  refine ⟨_, rfl, x, d, rfl, hx, kyV_ok d, .inl ⟨_, rfl⟩, _, rfl, ?_⟩
  by_cases ct : kyV C d = .ty "tuple"
  · refine ifT ct ?_
    obtain ⟨ds, rfl⟩ := kyV_tup.mp ct
    cases hx with
    | @tup a xs _ ha hxs =>
    have hl := hxs.len
    refine ⟨_, rfl, a, xs, rfl, .inr (SqT.of ha), rfl, _, rfl, ?_⟩
    by_cases c4 : ds.length = 4
    · refine ifT (by rw [hl, c4]; rfl) ⟨_, rfl, a, rfl, ⟨_, SqT.of ha⟩, fun Dl hD => ?_⟩
      refine lc_tup (K := K) (a := a) (xs := xs) (fun i H3 => Same H H3 ∧ H3 Dl = some (.lst ((ds.take i).map fun e => V.bl (okW 10 36 0 e)))) ⟨same_new hD, upd_same⟩ (fun i H3 _ h => SqT.of (h.1 _ _ ha)) ?_ ?_
      · rintro i z H3 hi ⟨s3, hz3⟩
        obtain ⟨e, he, hze⟩ := hxs.at hi
        refine ⟨rfl, yes ⟨_, rfl, z, e, rfl, hze.same s3, Fit.part hz (List.mem_of_getElem? he), fun H5 s5 => ?_⟩⟩
        refine ⟨_, s5 _ _ hz3, small1000 (by rw [List.length_map, List.length_take]; omega), same_put (s3.trans s5) hD, ?_⟩
        rw [upd_same, List.take_add_one, he, List.map_append]; rfl
      · rintro H3 ⟨s3, hz3⟩
        rw [List.take_of_length_le (by omega)] at hz3
        refine ⟨Dl, ds.map (okW 10 36 0), rfl, SqL.of (by rw [List.map_map]; exact hz3), ?_⟩
        have q := q H3 s3
        have e : regD (.tup ds) = (ds.map (okW 10 36 0)).all id := by
          simp only [regD]
          rw [decide_eq_true c4, List.all_map]; rfl
        rw [e] at q; exact q
    · have q := q H (Same.refl H)
      have e : regD (.tup ds) = false := by simp only [regD]; rw [decide_eq_false c4]; rfl
      rw [e] at q
      exact ifF (fun z => c4 (by have := V.int.inj z; omega)) q
  · have e : regD d = false := by cases d <;> first | rfl | exact absurd rfl ct
    have q := q H (Same.refl H)
    rw [e] at q
    exact ifF ct q
abbrev s_is_program : Stmt := top 39
theorem sc_is_program : FnScope ["value", "each"] ["value"] (C8.fnScope s_is_program) := C8.fnScope_by (by decide +kernel)
theorem ok_is_program {more : List Str} (F : C8.Def K mg "is_program" s_is_program f fd) (b : Binds K fd ["value"] []) (T : Txt K mg w C) (c__is_instruction : C8.Cal P w K mg base 3 "_is_instruction" (spIn C more) []) : C8.Cal P w K mg base 4 "is_program" (spPr C more) [] := by
  refine C8.cal0 F b .nil sc_is_program (fun vs H Q E h => ?_) (fun cdv A outer s H vs Q E hr h => ?_)
  · obtain ⟨x, d, rfl, _⟩ := h; rfl
  obtain ⟨x, d, rfl, hx, hok, q⟩ := h
  refine ⟨_, (pss_cons (ps_if (PW.pt (pw_or (pt_cmpR (op_isNotTyA (C := C)) (pe_callTy (call_typeA (C := C)) rfl T.z_type bt_type (pa_cons (pv 0) pa_nil)) (pe_bltn (v := .ty "tuple") rfl T.z_tuple bt_tuple rfl) (nomark _)) (pw_or1 (pt_not (pt_chain op_le op_le pe_int (pe_callB call_lenS rfl T.z_len bt_len (pa_cons (pv 0) pa_nil)) (C8.pe_gc rfl T.c_MOST_INSTRUCTIONS)))))) (pss_one (ps_ret pe_bl)) pss_nil)
      (pss_cons (ps_if (pt_not (pt_val (pe_callB (cr_all rfl) rfl T.z_all bt_all (pa_cons (pe_lc (own := [("each", 1)]) (te := tCall (spIn C more) [] C8.E0 (tCons (tVar 1) (tCons (tCB (rLn K) (tCons (tVar 0) tNil)) tNil))) (g := gName 1) rfl sc_is_program.nd (pi_tup (pv 0)) (blkOk_by (own := [("each", 1)]) (N := ["value", "each"]) (sc := C8.fnScope s_is_program) (by decide +kernel)) (fun _ _ _ _ _ => (pg_name (i := 1) sc_is_program.nd rfl (Or.inl rfl))) (fun _ _ _ _ _ => pts_nil) (fun _ _ _ _ _ => (C8.pe_c c__is_instruction hr (by first | decide | omega) rfl (pa_cons (pv 1) (pa_cons (pe_callB call_lenS rfl T.z_len bt_len (pa_cons (pv 0) pa_nil)) pa_nil))))) pa_nil)))) (pss_one (ps_ret pe_bl)) pss_nil)
      (pss_one (ps_ret (pe_cmpR op_in_seq (pe_ix ix_tup (pe_ix ix_tup (pv 0) (pe_un un_neg pe_int) (fun _ _ => rfl)) pe_int (fun _ _ => rfl)) (pe_tup (pa_cons pe_str (pa_cons pe_str pa_nil))) (by with_unfolding_all rfl)))))), ?_⟩
  refine ⟨_, rfl, x, d, rfl, hx, kyV_ok d, .inl ⟨_, rfl⟩, _, rfl, ?_⟩
  by_cases ct : kyV C d = .ty "tuple"
  · rw [decide_eq_true ct]
    obtain ⟨ds, rfl⟩ := kyV_tup.mp ct
    obtain ⟨hlen, hnm⟩ := hok
    cases hx with
    | @tup a xs _ ha hxs =>
    have hl := hxs.len
    have bad : (∀ H', Same H H' → progD (.tup ds) = false → Q (.bl false) H') := fun H' s' e => by have q := q H' s'; rw [e] at q; exact q
    refine iteF ⟨_, rfl, a, xs, rfl, .inr (SqT.of ha), _, _, rfl, rfl, _, rfl, ?_⟩
    by_cases c1 : 1 ≤ ds.length
    · refine ifT (by omega) ⟨_, _, rfl, rfl, _, rfl, ?_⟩
      by_cases c2 : ds.length ≤ 24
      · refine bF (by simp; omega) ⟨_, rfl, a, rfl, ⟨_, SqT.of ha⟩, fun Dl hD => ?_⟩
        refine lc_tup (K := K) (a := a) (xs := xs) (fun i H3 => Same H H3 ∧ H3 Dl = some (.lst ((ds.take i).map fun e => V.bl (instrD e ds.length)))) ⟨same_new hD, upd_same⟩ (fun i H3 _ h => SqT.of (h.1 _ _ ha)) ?_ ?_
        · rintro i z H3 hi ⟨s3, hz3⟩
          obtain ⟨e, he, hze⟩ := hxs.at hi
          refine ⟨rfl, yes ⟨_, rfl, _, rfl, a, xs, rfl, .inr (SqT.of (s3 _ _ ha)), z, e, xs.length, rfl, hze.same s3, hnm e (List.mem_of_getElem? he), fun H5 s5 => ?_⟩⟩
          rw [hl]
          refine ⟨_, s5 _ _ hz3, small1000 (by rw [List.length_map, List.length_take]; omega), same_put (s3.trans s5) hD, ?_⟩
          rw [upd_same, List.take_add_one, he, List.map_append]; rfl
        · rintro H3 ⟨s3, hz3⟩
          rw [List.take_of_length_le (by omega)] at hz3
          refine ⟨Dl, ds.map fun e => instrD e ds.length, rfl, SqL.of (by rw [List.map_map]; exact hz3), _, rfl, ?_⟩
          rw [List.all_map]
          have e0 : progD (.tup ds) = (ds.all (id ∘ fun e => instrD e ds.length) && lastD ds) := by
            simp only [progD]
            rw [decide_eq_true c1, decide_eq_true c2]; rfl
          cases hall : ds.all (id ∘ fun e => instrD e ds.length) with
          | false => exact bT rfl (bad H3 s3 (by rw [e0, hall]; rfl))
          | true =>
            refine bF rfl ?_
            obtain ⟨es, e, rfl⟩ : ∃ es e, ds = es ++ [e] := by
              rcases List.eq_nil_or_concat ds with h | ⟨es, e, h⟩
              · rw [h] at c1; simp at c1
              · exact ⟨es, e, by rw [h, List.concat_eq_append]⟩
            obtain ⟨ys, y, rfl, hys, hy⟩ := IsA.concat (ds := es) (e := e) (by rw [List.concat_eq_append]; exact hxs)
            have hie : instrD e (es ++ [e]).length = true := by
              have := List.all_eq_true.mp hall e (by simp)
              exact this
            obtain ⟨k, r, rfl⟩ := instr_name hie
            cases hy with
            | @tup b2 zs _ hb hzs =>
            cases hzs with
            | @cons zk zs2 _ _ hk hzs2 =>
            cases hk
            refine ⟨_, rfl, 1, rfl, a, _, -1, .ref b2, rfl, rfl, SqT.of (s3 _ _ ha), atI_last _ _, b2, _, 0, _, rfl, rfl, SqT.of (s3 _ _ hb), atI_nat (j := 0) rfl, (by show 2 ≤ sizeLine; decide), fun m hm => ?_⟩
            refine ⟨m, _, rfl, .inr (SqT.of upd_same), rfl, rfl, ?_⟩
            show Q (.bl (inV (.str k) [.str "jump", .str "end"])) _
            rw [inVab]
            have q := q _ (s3.trans (same_new (o := .tup [.str "jump", .str "end"]) hm))
            have e1 : progD (.tup (es ++ [.tup (.str k :: r)])) = (decide (k = "jump") || decide (k = "end")) := by
              rw [e0, hall]
              simp only [lastD, List.getLast?_append, List.getLast?_singleton, Option.some_or, Bool.true_and]
              by_cases h1 : k = "jump" <;> by_cases h2 : k = "end" <;> simp [h1, h2]
            rw [e1] at q
            exact q
      · refine bT (by simp; omega) (bad H (Same.refl H) (by simp only [progD]; rw [decide_eq_false c2]; simp))
    · refine ifF (by omega) ⟨_, rfl, bT rfl (bad H (Same.refl H) (by simp only [progD]; rw [decide_eq_false c1]; rfl))⟩
  · have e : progD d = false := by cases d <;> first | rfl | exact absurd rfl ct
    have q := q H (Same.refl H)
    rw [e] at q
    rw [decide_eq_false ct]
    exact iteT q
abbrev s_is_form : Stmt := top 17
theorem sc_is_form : FnScope ["value", "name", "many"] ["value", "name", "many"] (C8.fnScope s_is_form) := C8.fnScope_by (by decide +kernel)
theorem ok_is_form (F : C8.Def K mg "is_form" s_is_form f fd) (b : Binds K fd ["value", "name", "many"] []) (T : Txt K mg w C) : C8.Cal P w K mg base 1 "is_form" (spForm C) [] := by
  refine C8.cal0 F b .nil sc_is_form (fun vs H Q E h => ?_) (fun cdv A outer s H vs Q E hr h => ?_)
  · obtain ⟨x, d, nm, m, rfl, _⟩ := h; rfl
  obtain ⟨x, d, nm, m, rfl, hx, hm, q⟩ := h
  refine ⟨_, (pss_one (ps_ret (pe_and (pe_cmpR (op_isTyA (C := C)) (pe_callTy (call_typeA (C := C)) rfl T.z_type bt_type (pa_cons (pv 0) pa_nil)) (pe_bltn (v := .ty "tuple") rfl T.z_tuple bt_tuple rfl) (nomark _)) (pe_and (pe_cmpR op_eq (pe_callB call_lenS rfl T.z_len bt_len (pa_cons (pv 0) pa_nil)) (pv 2) (nomark _)) (pe_and (pe_cmpR (op_isTyA (C := C)) (pe_callTy (call_typeA (C := C)) rfl T.z_type bt_type (pa_cons (pe_ix ix_tup (pv 0) pe_int (fun _ _ => rfl)) pa_nil)) (pe_bltn (v := .ty "str") rfl T.z_str bt_str rfl) (nomark _)) (pe_one (pe_cmpR op_eq (pe_ix ix_tup (pv 0) pe_int (fun _ _ => rfl)) (pv 1) (nomark _)))))))), ?_⟩
  refine ⟨_, rfl, x, d, rfl, hx, kyV_ok d, .inl ⟨_, rfl⟩, _, rfl, ?_⟩
  by_cases ct : kyV C d = .ty "tuple"
  · refine ifT ct ?_
    obtain ⟨ds, rfl⟩ := kyV_tup.mp ct
    cases hx with
    | @tup a xs _ ha hxs =>
    have hl := hxs.len
    refine ⟨_, rfl, a, xs, rfl, .inr (SqT.of ha), _, rfl, rfl, _, rfl, ?_⟩
    by_cases cm : (xs.length : Int) = m
    · refine ifT (by rw [cm]) ?_
      cases hxs with
      | nil => simp at cm; omega
      | @cons y ys e es hy hys =>
        refine ⟨_, rfl, a, _, 0, y, rfl, rfl, SqT.of ha, atI_nat (j := 0) rfl, y, e, rfl, hy, kyV_ok e, .inl ⟨_, rfl⟩, _, rfl, ?_⟩
        by_cases cs : kyV C e = .ty "str"
        · obtain ⟨k, rfl⟩ := kyV_str.mp cs
          cases hy
          refine ifT cs ⟨_, rfl, a, _, 0, _, rfl, rfl, SqT.of ha, atI_nat (j := 0) rfl, _, rfl, rfl, ?_⟩
          have e1 : formB (.tup (.str k :: es)) nm m = decide (V.str k = V.str nm) := by
            have e2 : (((es.length + 1 : Nat) : Int) = m) := by rw [← cm]; simp at hl; simp [hl]
            simp only [formB]
            rw [decide_eq_true e2, Bool.true_and]
            by_cases h : k = nm
            · subst h; simp
            · rw [decide_eq_false h, decide_eq_false (fun z => h (V.str.inj z))]
          rw [e1] at q; exact q
        · have e1 : formB (.tup (e :: es)) nm m = false := by cases e <;> first | rfl | exact absurd rfl cs
          rw [e1] at q
          exact ifF cs q
    · have e1 : formB (.tup ds) nm m = false := by
        unfold formB
        split
        · rename_i k ds' q'
          cases q'
          rw [decide_eq_false (fun z => cm (by rw [hl]; exact z))]; rfl
        · rfl
      rw [e1] at q
      exact ifF (fun z => cm (V.int.inj z)) q
  · have h : formB d nm m = false := by cases d <;> first | rfl | exact absurd rfl ct
    rw [h] at q
    exact ifF ct q
abbrev s__is_below : Stmt := top 33
theorem sc__is_below : FnScope ["value", "many"] ["value", "many"] (C8.fnScope s__is_below) := C8.fnScope_by (by decide +kernel)
theorem ok__is_below (F : C8.Def K mg "_is_below" s__is_below f fd) (b : Binds K fd ["value", "many"] []) (T : Txt K mg w C) : C8.Cal P w K mg base 1 "_is_below" (spBel C) [] := by
  refine C8.cal0 F b .nil sc__is_below (fun vs H Q E h => ?_) (fun cdv A outer s H vs Q E hr h => ?_)
  · obtain ⟨x, d, m, rfl, _⟩ := h; rfl
  obtain ⟨x, d, m, rfl, hx, q⟩ := h
  refine ⟨_, (pss_one (ps_ret (pe_and (pe_cmpR (op_isTyA (C := C)) (pe_callTy (call_typeA (C := C)) rfl T.z_type bt_type (pa_cons (pv 0) pa_nil)) (pe_bltn (v := .ty "int") rfl T.z_int bt_int rfl) (nomark _)) (pe_one (pe_chain op_le op_lt pe_int (pv 0) (pv 1)))))), ?_⟩
  refine ⟨_, rfl, x, d, rfl, hx, kyV_ok d, .inl ⟨_, rfl⟩, _, rfl, ?_⟩
  by_cases c : kyV C d = .ty "int"
  · refine ifT c ?_
    obtain ⟨i, rfl⟩ := kyV_int.mp c
    cases hx
    refine ⟨_, rfl, _, _, rfl, rfl, _, rfl, ite2 (fun c => ?_) (fun c => ?_)⟩
    · refine ⟨_, rfl, _, _, rfl, rfl, ?_⟩
      have e : belD (.int i) m = decide (i < m) := by simp [belD, of_decide_eq_true c]
      rw [e] at q; exact q
    · have e : belD (.int i) m = false := by simp [belD] at c ⊢; omega
      rw [e] at q; exact q
  · have e : belD d m = false := by cases d <;> first | rfl | exact absurd rfl c
    rw [e] at q
    exact ifF c q
abbrev s_is_page : Stmt := top 31
theorem sc_is_page : FnScope ["value"] ["value"] (C8.fnScope s_is_page) := C8.fnScope_by (by decide +kernel)
theorem ok_is_page (F : C8.Def K mg "is_page" s_is_page f fd) (b : Binds K fd ["value"] []) (T : Txt K mg w C) (c__is_below : C8.Cal P w K mg base 1 "_is_below" (spBel C) []) : C8.Cal P w K mg base 2 "is_page" (spBel1 C 16) [] := by
  refine C8.cal0 F b .nil sc_is_page (fun vs H Q E h => ?_) (fun cdv A outer s H vs Q E hr h => ?_)
  · obtain ⟨x, d, rfl, _⟩ := h; rfl
  obtain ⟨x, d, rfl, hx, q⟩ := h
  refine ⟨_, (pss_one (ps_ret (C8.pe_c c__is_below hr (by first | decide | omega) rfl (pa_cons (pv 0) (pa_cons (C8.pe_gc rfl T.c_PAGES) pa_nil))))), ?_⟩
  exact ⟨_, rfl, x, d, 16, rfl, hx, q⟩
end
end Hc

namespace Hc
open PySem PySem.Spec PyProof.Rows L2 Hr
def wdsB (d : D) : Bool := match d with | .tup ws => decide (ws.length = 4) && ws.all (okW 40 40 0) | _ => false
def pgP (d : D) : Bool := match d with | .tup [.str k, p, ws] => decide (k = "page") && (belD p 8 && wdsB ws) | _ => false
def cpP (d : D) : Bool := match d with | .tup [.str k, pr, rg] => decide (k = "cpu") && (progD pr && regD rg) | _ => false
def moreM : List Str := ["nope"]
def PtOk (d : D) : Prop := match d with | .tup [_, pr, _] => PgOk moreM pr | _ => True
def MeOk (d : D) : Prop := match d with | .tup ds => ds.length ≤ 1000 ∧ ∀ e ∈ ds, PtOk e | _ => True
def pgO (d : D) : Option Int := match d with | .tup (.str k :: .int p :: _) => if k = ("page" : Str) then some p else none | _ => none
def pgs (ds : List D) : List Int := ds.filterMap pgO
def measB (d : D) : Bool := match d with | .tup ds => ds.all (fun d => pgP d || cpP d) && decide (nDist (pgs ds) = (pgs ds).length) | _ => false
def spPgP (C : Addr) : Sp := fun vs H Q _ => ∃ x d, vs = [x] ∧ Is C H x d ∧ Fit d ∧ ∀ H', Same H H' → Q (.bl (pgP d)) H'
def spCpP (C : Addr) : Sp := fun vs H Q _ => ∃ x d, vs = [x] ∧ Is C H x d ∧ Fit d ∧ PtOk d ∧ ∀ H', Same H H' → Q (.bl (cpP d)) H'
def spMe (C : Addr) : Sp := fun vs H Q _ => ∃ x d, vs = [x] ∧ Is C H x d ∧ Fit d ∧ MeOk d ∧ ∀ H', Same H H' → Q (.bl (measB d)) H'
theorem formB_tup {d : D} {nm : Str} {m : Int} (h : formB d nm m = true) : ∃ es, d = .tup (.str nm :: es) ∧ ((es.length + 1 : Nat) : Int) = m := by
  unfold formB at h
  split at h
  · rename_i k es
    simp only [Bool.and_eq_true, decide_eq_true_eq] at h
    exact ⟨es, by rw [h.2], h.1⟩
  · cases h
theorem form3 {d : D} {nm : Str} (h : formB d nm 3 = true) : ∃ e1 e2, d = .tup [.str nm, e1, e2] := by
  obtain ⟨es, rfl, hl⟩ := formB_tup h
  match es, hl with
  | [e1, e2], _ => exact ⟨e1, e2, rfl⟩
theorem pgP_form {d : D} (h : pgP d = true) : formB d "page" 3 = true := by
  unfold pgP at h
  split at h
  · rename_i k p ws
    simp only [Bool.and_eq_true, decide_eq_true_eq] at h
    rw [h.1]; simp [formB]
  · cases h
theorem cpP_form {d : D} (h : cpP d = true) : formB d "cpu" 3 = true := by
  unfold cpP at h
  split at h
  · rename_i k p ws
    simp only [Bool.and_eq_true, decide_eq_true_eq] at h
    rw [h.1]; simp [formB]
  · cases h
theorem bel8 (d : D) : belD d 8 = (belD d 16 && (match d with | .int i => !decide (8 ≤ i) | _ => true)) := by
  cases d <;> first | rfl | skip
  rename_i i
  simp only [belD]
  by_cases h0 : 0 ≤ i <;> by_cases h1 : i < 8 <;> simp [h0, h1] <;> omega
section
variable {P : Program} {w : World} {K : PySem.W.Frag} {mg : Str → Option Value} {base : Heap} {f : Addr} {fd : FuncData} {C : Addr}
abbrev s__is_page_part : Stmt := top 48
theorem sc__is_page_part : FnScope ["part", "words", "word"] ["part"] (C8.fnScope s__is_page_part) := C8.fnScope_by (by decide +kernel)
theorem ok__is_page_part (F : C8.Def K mg "_is_page_part" s__is_page_part f fd) (b : Binds K fd ["part"] []) (T : Txt K mg w C) (c_is_form : C8.Cal P w K mg base 1 "is_form" (spForm C) []) (c_is_page : C8.Cal P w K mg base 2 "is_page" (spBel1 C 16) []) (c_is_word : C8.Cal P w K mg base 3 "is_word" (spB C Fit (okW 40 40 0)) []) : C8.Cal P w K mg base 4 "_is_page_part" (spPgP C) [] := by
  refine C8.cal0 F b .nil sc__is_page_part (fun vs H Q E h => ?_) (fun cdv A outer s H vs Q E hr h => ?_)
  · obtain ⟨x, d, rfl, _⟩ := h; rfl
  obtain ⟨x, d, rfl, hx, hft, q⟩ := h
  have q0 : ∀ b, pgP d = b → ∀ H', Same H H' → Q (.bl b) H' := fun b e H' s' => by rw [← e]; exact q H' s'
  refine ⟨_, (pss_cons (ps_if (PW.pt (pw_or (pt_not (pt_val (C8.pe_c c_is_form hr (by first | decide | omega) rfl (pa_cons (pv 0) (pa_cons pe_str (pa_cons pe_int pa_nil)))))) (pw_or (pt_not (pt_val (C8.pe_c c_is_page hr (by first | decide | omega) rfl (pa_cons (pe_ix ix_tup (pv 0) pe_int (fun _ _ => rfl)) pa_nil)))) (pw_or1 (pt_cmpR op_ge (pe_ix ix_tup (pv 0) pe_int (fun _ _ => rfl)) (C8.pe_gc rfl T.c_FIRST_SHARED) (nomark _)))))) (pss_one (ps_ret pe_bl)) pss_nil)
      (pss_cons (ps_set (i := 1) sc__is_page_part.nd rfl (Or.inl rfl) (pe_ix ix_tup (pv 0) pe_int (fun _ _ => rfl)))
      (pss_one (ps_ret (pe_and (pe_cmpR (op_isTyA (C := C)) (pe_callTy (call_typeA (C := C)) rfl T.z_type bt_type (pa_cons (pv 1) pa_nil)) (pe_bltn (v := .ty "tuple") rfl T.z_tuple bt_tuple rfl) (nomark _)) (pe_and (pe_cmpR op_eq (pe_callB call_lenS rfl T.z_len bt_len (pa_cons (pv 1) pa_nil)) (C8.pe_gc rfl T.c_WORDS) (nomark _)) (pe_one (pe_callB (cr_all rfl) rfl T.z_all bt_all (pa_cons (pe_lc (own := [("word", 2)]) (g := gName 2) rfl sc__is_page_part.nd (pi_tup (pv 1)) (blkOk_by (own := [("word", 2)]) (N := ["part", "words", "word"]) (sc := C8.fnScope s__is_page_part) (by decide +kernel)) (fun _ _ _ _ _ => (pg_name (i := 2) sc__is_page_part.nd rfl (Or.inl rfl))) (fun _ _ _ _ _ => pts_nil) (fun _ _ _ _ _ => (C8.pe_c c_is_word hr (by first | decide | omega) rfl (pa_cons (pv 2) pa_nil)))) pa_nil))))))))), ?_⟩
  refine ⟨_, rfl, x, d, _, 3, rfl, hx, by decide, _, rfl, ?_⟩
  cases h1 : formB d "page" 3 with
  | false =>
    refine bT rfl (q0 _ ?_ H (Same.refl H))
    cases h : pgP d with
    | true => rw [pgP_form h] at h1; cases h1
    | false => rfl
  | true =>
  obtain ⟨e1, e2, rfl⟩ := form3 h1
  have eD : pgP (.tup [.str "page", e1, e2]) = (belD e1 8 && wdsB e2) := by unfold pgP; simp
  cases hx with
  | @tup a xs _ ha hxs =>
  cases hxs with
  | @cons y0 _ _ _ i0 hxs => cases hxs with
  | @cons y1 _ _ _ i1 hxs => cases hxs with
  | @cons y2 _ _ _ i2 hxs =>
  cases hxs
  refine bF rfl ⟨_, rfl, a, _, 1, y1, rfl, rfl, SqT.of ha, atI_nat (j := 1) rfl, y1, e1, rfl, i1, _, rfl, ?_⟩
  have e8 := bel8 e1
  cases h2 : belD e1 16 with
  | false => exact bT rfl (q0 _ (by rw [eD, e8, h2]; rfl) H (Same.refl H))
  | true =>
  refine bF rfl ?_
  obtain ⟨i, rfl⟩ : ∃ i, e1 = .int i := by cases e1 <;> first | exact ⟨_, rfl⟩ | (simp [belD] at h2; done)
  cases i1
  rw [h2, Bool.true_and] at e8
  have e8 : belD (.int i) 8 = !decide (8 ≤ i) := e8
  refine ⟨_, rfl, a, _, 1, _, rfl, rfl, SqT.of ha, atI_nat (j := 1) rfl, _, _, rfl, rfl, _, rfl, ite2 (fun c => ?_) (fun c => ?_)⟩
  · exact q0 _ (by rw [eD, e8, c]; rfl) H (Same.refl H)
  · have e9 : pgP (.tup [.str "page", .int i, e2]) = wdsB e2 := by rw [eD, e8, show decide (8 ≤ i) = false from by simpa using c]; rfl
    refine ⟨_, rfl, a, _, 2, y2, rfl, rfl, SqT.of ha, atI_nat (j := 2) rfl, ?_⟩
    refine ⟨_, rfl, y2, e2, rfl, i2, kyV_ok e2, .inl ⟨_, rfl⟩, _, rfl, ?_⟩
    by_cases ct : kyV C e2 = .ty "tuple"
    · refine ifT ct ?_
      obtain ⟨ws, rfl⟩ := kyV_tup.mp ct
      have hfw : Fit (.tup ws) := Fit.part hft (by simp)
      cases i2 with
      | @tup a2 zs _ ha2 hzs =>
      have hl := hzs.len
      refine ⟨_, rfl, a2, zs, rfl, .inr (SqT.of ha2), rfl, _, rfl, ?_⟩
      by_cases c4 : ws.length = 4
      · refine ifT (by rw [hl, c4]; rfl) ⟨_, rfl, a2, rfl, ⟨_, SqT.of ha2⟩, fun Dl hD => ?_⟩
        refine lc_tup (K := K) (a := a2) (xs := zs) (fun i H3 => Same H H3 ∧ H3 Dl = some (.lst ((ws.take i).map fun e => V.bl (okW 40 40 0 e)))) ⟨same_new hD, upd_same⟩ (fun i H3 _ h => SqT.of (h.1 _ _ ha2)) ?_ ?_
        · rintro i z H3 hi ⟨s3, hz3⟩
          obtain ⟨e, he, hze⟩ := hzs.at hi
          refine ⟨rfl, yes ⟨_, rfl, z, e, rfl, hze.same s3, Fit.part hfw (List.mem_of_getElem? he), fun H5 s5 => ?_⟩⟩
          refine ⟨_, s5 _ _ hz3, small1000 (by rw [List.length_map, List.length_take]; omega), same_put (s3.trans s5) hD, ?_⟩
          rw [upd_same, List.take_add_one, he, List.map_append]; rfl
        · rintro H3 ⟨s3, hz3⟩
          rw [List.take_of_length_le (by omega)] at hz3
          refine ⟨Dl, ws.map (okW 40 40 0), rfl, SqL.of (by rw [List.map_map]; exact hz3), ?_⟩
          refine q0 _ ?_ H3 s3
          rw [e9]
          simp only [wdsB]
          rw [decide_eq_true c4, List.all_map]; rfl
      · exact ifF (fun z => c4 (by have := V.int.inj z; omega)) (q0 _ (by rw [e9]; simp only [wdsB]; rw [decide_eq_false c4]; rfl) H (Same.refl H))
    · have : wdsB e2 = false := by cases e2 <;> first | rfl | exact absurd rfl ct
      exact ifF ct (q0 _ (by rw [e9, this]) H (Same.refl H))
abbrev s__is_cpu_part : Stmt := top 49
theorem sc__is_cpu_part : FnScope ["part"] ["part"] (C8.fnScope s__is_cpu_part) := C8.fnScope_by (by decide +kernel)
theorem ok__is_cpu_part (F : C8.Def K mg "_is_cpu_part" s__is_cpu_part f fd) (b : Binds K fd ["part"] []) (T : Txt K mg w C) (c_is_form : C8.Cal P w K mg base 1 "is_form" (spForm C) []) (c_is_program : C8.Cal P w K mg base 4 "is_program" (spB C (PgOk moreM) progD) []) (c_is_registers : C8.Cal P w K mg base 4 "is_registers" (spB C Fit regD) []) : C8.Cal P w K mg base 5 "_is_cpu_part" (spCpP C) [] := by
  refine C8.cal0 F b .nil sc__is_cpu_part (fun vs H Q E h => ?_) (fun cdv A outer s H vs Q E hr h => ?_)
  · obtain ⟨x, d, rfl, _⟩ := h; rfl
  obtain ⟨x, d, rfl, hx, hft, hpt, q⟩ := h
  have q0 : ∀ b, cpP d = b → ∀ H', Same H H' → Q (.bl b) H' := fun b e H' s' => by rw [← e]; exact q H' s'
  refine ⟨_, (pss_one (ps_ret (pe_and (C8.pe_c c_is_form hr (by first | decide | omega) rfl (pa_cons (pv 0) (pa_cons pe_str (pa_cons pe_int pa_nil)))) (pe_and (C8.pe_c c_is_program hr (by first | decide | omega) rfl (pa_cons (pe_ix ix_tup (pv 0) pe_int (fun _ _ => rfl)) pa_nil)) (pe_one (C8.pe_c c_is_registers hr (by first | decide | omega) rfl (pa_cons (pe_ix ix_tup (pv 0) pe_int (fun _ _ => rfl)) pa_nil))))))), ?_⟩
  refine ⟨_, rfl, x, d, _, 3, rfl, hx, by decide, _, rfl, ?_⟩
  cases h1 : formB d "cpu" 3 with
  | false =>
    refine bF rfl (q0 _ ?_ H (Same.refl H))
    cases h : cpP d with
    | true => rw [cpP_form h] at h1; cases h1
    | false => rfl
  | true =>
  obtain ⟨e1, e2, rfl⟩ := form3 h1
  have eD : cpP (.tup [.str "cpu", e1, e2]) = (progD e1 && regD e2) := by unfold cpP; simp
  cases hx with
  | @tup a xs _ ha hxs =>
  cases hxs with
  | @cons y0 _ _ _ i0 hxs => cases hxs with
  | @cons y1 _ _ _ i1 hxs => cases hxs with
  | @cons y2 _ _ _ i2 hxs =>
  cases hxs
  refine bT rfl ⟨_, rfl, a, _, 1, y1, rfl, rfl, SqT.of ha, atI_nat (j := 1) rfl, y1, e1, rfl, i1, hpt, fun H1 s1 => ⟨_, rfl, ?_⟩⟩
  cases h2 : progD e1 with
  | false => exact bF rfl (q0 _ (by rw [eD, h2]; rfl) H1 s1)
  | true =>
  refine bT rfl ⟨_, rfl, a, _, 2, y2, rfl, rfl, SqT.of (s1 _ _ ha), atI_nat (j := 2) rfl, y2, e2, rfl, i2.same s1, Fit.part hft (by simp), fun H2 s2 => ?_⟩
  exact q0 _ (by rw [eD, h2, Bool.true_and]) H2 (s1.trans s2)
end
end Hc

namespace Hc
open PySem PySem.Spec PyProof.Rows L2 Hr
/-- what the parts tell, in the heap: pairs of the page and the tuple of its words -/
def pgV1 (H : Hp) (x : V) : Option (Key × V) := match x with
  | .ref a => (match H a with | some (.tup [.str k, .int p, w]) => if k = ("page" : Str) then some (.inl p, w) else none | _ => none)
  | _ => none
def pgV (H : Hp) (xs : List V) : List (Key × V) := xs.filterMap (pgV1 H)
def okP (d : D) : Bool := pgP d || cpP d
theorem okP_cases {d : D} (h : okP d = true) : (∃ p ws, d = .tup [.str "page", .int p, ws] ∧ wdsB ws = true ∧ pgP d = true) ∨ (∃ pr rg, d = .tup [.str "cpu", pr, rg] ∧ cpP d = true) := by
  unfold okP at h
  rcases Bool.or_eq_true_iff.mp h with h | h
  · obtain ⟨e1, e2, rfl⟩ := form3 (pgP_form h)
    refine .inl ?_
    have h0 := h
    unfold pgP at h
    simp only [Bool.and_eq_true, decide_eq_true_eq] at h
    obtain ⟨_, h2, h3⟩ := h
    cases e1 <;> first | exact ⟨_, _, rfl, h3, h0⟩ | (simp [belD] at h2; done)
  · obtain ⟨e1, e2, rfl⟩ := form3 (cpP_form h)
    exact .inr ⟨e1, e2, rfl, h⟩
theorem nPC : ¬ (("cpu" : Str) = "page") := by decide +kernel
/-- a right part, in the heap -/
inductive PartV (C : Addr) (H : Hp) : V → D → Prop
  | page {a : Addr} {p : Int} {y : V} {ws : D} (h : H a = some (.tup [.str "page", .int p, y])) (i : Is C H y ws) (w : wdsB ws = true) : PartV C H (.ref a) (.tup [.str "page", .int p, ws])
  | cpu {a : Addr} {y z : V} {pr rg : D} (h : H a = some (.tup [.str "cpu", y, z])) (i : Is C H y pr) (j : Is C H z rg) : PartV C H (.ref a) (.tup [.str "cpu", pr, rg])
theorem partV {C : Addr} {H : Hp} {x : V} {d : D} (h : okP d = true) (i : Is C H x d) : PartV C H x d := by
  rcases okP_cases h with ⟨p, ws, rfl, hw, _⟩ | ⟨pr, rg, rfl, _⟩
  · cases i with
    | @tup a xs _ ha hxs =>
    cases hxs with
    | @cons y0 _ _ _ i0 hxs => cases hxs with
    | @cons y1 _ _ _ i1 hxs => cases hxs with
    | @cons y2 _ _ _ i2 hxs =>
    cases hxs
    cases i0
    cases i1
    exact .page ha i2 hw
  · cases i with
    | @tup a xs _ ha hxs =>
    cases hxs with
    | @cons y0 _ _ _ i0 hxs => cases hxs with
    | @cons y1 _ _ _ i1 hxs => cases hxs with
    | @cons y2 _ _ _ i2 hxs =>
    cases hxs
    cases i0
    exact .cpu ha i1 i2
theorem pgV1_same {C : Addr} {H H' : Hp} (s : Same H H') {x : V} {d : D} (h : PartV C H x d) : pgV1 H' x = pgV1 H x := by
  cases h with
  | page h _ _ => simp only [pgV1, h, s _ _ h]
  | cpu h _ _ => simp only [pgV1, h, s _ _ h]
theorem pgV_same {C : Addr} {H H' : Hp} (s : Same H H') : ∀ {xs : List V} {ds : List D}, IsA C H xs ds → (∀ e ∈ ds, okP e = true) → pgV H' xs = pgV H xs
  | _, _, .nil, _ => rfl
  | _, _, .cons h t, hd => by
    unfold pgV
    rw [List.filterMap_cons, List.filterMap_cons, pgV1_same s (partV (hd _ (by simp)) h)]
    have := pgV_same s t (fun e he => hd e (by simp [he]))
    unfold pgV at this
    rw [this]
theorem pgV_keys {C : Addr} {H : Hp} : ∀ {xs : List V} {ds : List D}, IsA C H xs ds → (∀ e ∈ ds, okP e = true) → (pgV H xs).map (·.1) = (pgs ds).map Sum.inl
  | _, _, .nil, _ => rfl
  | _, _, .cons h t, hd => by
    have ih := pgV_keys t (fun e he => hd e (by simp [he]))
    unfold pgV pgs at ih ⊢
    rw [List.filterMap_cons, List.filterMap_cons]
    cases partV (hd _ (by simp)) h with
    | page h1 _ _ => simp only [pgV1, h1, pgO, if_pos trivial, List.map_cons, ih]
    | @cpu a y z pr rg h1 _ _ =>
      simp only [pgV1, h1]
      have : pgO (.tup [.str "cpu", pr, rg]) = none := by
        unfold pgO
        split
        · rename_i k p r e
          cases e
          exact if_neg nPC
        · rfl
      rw [this]
      cases y <;> first | exact ih | (rw [if_neg nPC]; exact ih)
theorem pgV_refs {C : Addr} {H : Hp} : ∀ {xs : List V} {ds : List D}, IsA C H xs ds → (∀ e ∈ ds, okP e = true) → ∀ p ∈ pgV H xs, sameB p.2 = true
  | _, _, .nil, _, p, hp => by simp [pgV] at hp
  | _, _, .cons h t, hd, p, hp => by
    have ih := pgV_refs t (fun e he => hd e (by simp [he]))
    unfold pgV at ih hp
    rw [List.filterMap_cons] at hp
    cases partV (hd _ (by simp)) h with
    | page h1 i w =>
      simp only [pgV1, h1, if_pos trivial] at hp
      rcases List.mem_cons.mp hp with rfl | hp
      · cases i <;> first | rfl | (simp [wdsB] at w; done)
      · exact ih p hp
    | @cpu a y z pr rg h1 _ _ =>
      have e : pgV1 H (.ref a) = none := by
        simp only [pgV1, h1]
        cases y <;> first | rfl | exact if_neg nPC
      rw [e] at hp
      exact ih p hp
theorem putK_new {kvs : List (Key × V)} {k : Key} {v : V} (h : k ∉ kvs.map (·.1)) : putK kvs k v = kvs ++ [(k, v)] := by
  unfold putK
  rw [if_neg]
  intro z
  obtain ⟨kv, h1, h2⟩ := List.any_eq_true.mp z
  exact h (List.mem_map.mpr ⟨kv, h1, of_decide_eq_true h2⟩)
theorem valV_at : ∀ {kvs : List (Key × V)}, (kvs.map (·.1)).Nodup → ∀ p ∈ kvs, valV kvs p.1 = some p.2
  | [], _, p, h => by cases h
  | q :: kvs, nd, p, h => by
    rw [List.map_cons, List.nodup_cons] at nd
    unfold valV
    rw [List.find?_cons]
    rcases List.mem_cons.mp h with rfl | h
    · simp
    · have hne : ¬ (q.1 = p.1) := fun z => nd.1 (List.mem_map.mpr ⟨p, h, z.symm⟩)
      rw [decide_eq_false hne]
      exact valV_at nd.2 p h
/-- what the parts of processors tell -/
def cpO (d : D) : Option D := match d with | .tup [.str k, pr, rg] => if k = ("cpu" : Str) then some (.tup [pr, rg]) else none | _ => none
def cps (ds : List D) : List D := ds.filterMap cpO
def spFP (C : Addr) : Sp := fun vs H Q _ => ∃ a xs ds, vs = [.ref a] ∧ H a = some (.tup xs) ∧ IsA C H xs ds ∧ ds.length ≤ 1000 ∧ (∀ e ∈ ds, okP e = true) ∧ (pgs ds).Nodup ∧ ∀ H' q, Same H H' → H q = none → H' q = some (.dK (pgV H xs)) → Q (.ref q) H'
def spFC (C : Addr) : Sp := fun vs H Q _ => ∃ a xs ds, vs = [.ref a] ∧ H a = some (.tup xs) ∧ IsA C H xs ds ∧ ds.length ≤ 1000 ∧ (∀ e ∈ ds, okP e = true) ∧ ∀ H' q, Same H H' → Is C H' (.ref q) (.tup (cps ds)) → Q (.ref q) H'
theorem pgs_app (a b : List D) : pgs (a ++ b) = pgs a ++ pgs b := List.filterMap_append ..
theorem cps_app (a b : List D) : cps (a ++ b) = cps a ++ cps b := List.filterMap_append ..
theorem pgs_len (a : List D) : (pgs a).length ≤ a.length := List.length_filterMap_le ..
theorem pgV_app {H : Hp} (a b : List V) : pgV H (a ++ b) = pgV H a ++ pgV H b := List.filterMap_append ..
section
variable {P : Program} {w : World} {K : PySem.W.Frag} {mg : Str → Option Value} {base : Heap} {f : Addr} {fd : FuncData} {C : Addr}
abbrev s_is_measure : Stmt := top 45
theorem sc_is_measure : FnScope ["value", "part", "pages"] ["value"] (C8.fnScope s_is_measure) := C8.fnScope_by (by decide +kernel)
theorem ok_is_measure (F : C8.Def K mg "is_measure" s_is_measure f fd) (b : Binds K fd ["value"] []) (T : Txt K mg w C) (c__is_page_part : C8.Cal P w K mg base 4 "_is_page_part" (spPgP C) []) (c__is_cpu_part : C8.Cal P w K mg base 5 "_is_cpu_part" (spCpP C) []) : C8.Cal P w K mg base 6 "is_measure" (spMe C) [] := by
  refine C8.cal0 F b .nil sc_is_measure (fun vs H Q E h => ?_) (fun cdv A outer s H vs Q E hr h => ?_)
  · obtain ⟨x, d, rfl, _⟩ := h; rfl
  obtain ⟨x, d, rfl, hx, hft, hok, q⟩ := h
  have q0 : ∀ b, measB d = b → ∀ H', Same H H' → Q (.bl b) H' := fun b e H' s' => by rw [← e]; exact q H' s'
  refine ⟨_, (pss_cons (ps_if (PW.pt (pw_or (pt_cmpR (op_isNotTyA (C := C)) (pe_callTy (call_typeA (C := C)) rfl T.z_type bt_type (pa_cons (pv 0) pa_nil)) (pe_bltn (v := .ty "tuple") rfl T.z_tuple bt_tuple rfl) (nomark _)) (pw_or1 (pt_not (pt_val (pe_callB (cr_all rfl) rfl T.z_all bt_all (pa_cons (pe_lc (own := [("part", 1)]) (g := gName 1) rfl sc_is_measure.nd (pi_tup (pv 0)) (blkOk_by (own := [("part", 1)]) (N := ["value", "part", "pages"]) (sc := C8.fnScope s_is_measure) (by decide +kernel)) (fun _ _ _ _ _ => (pg_name (i := 1) sc_is_measure.nd rfl (Or.inl rfl))) (fun _ _ _ _ _ => pts_nil) (fun _ _ _ _ _ => (pe_or (C8.pe_c c__is_page_part hr (by first | decide | omega) rfl (pa_cons (pv 1) pa_nil)) (pe_one (C8.pe_c c__is_cpu_part hr (by first | decide | omega) rfl (pa_cons (pv 1) pa_nil)))))) pa_nil))))))) (pss_one (ps_ret pe_bl)) pss_nil)
      (pss_cons (ps_setLc (i := 2) (own := [("part", 1)]) (te := tOp (rIxT K) (tVar 1) (tC (.int 1))) (tt := tTest (tOp rEq (tOp (rIxT K) (tVar 1) (tC (.int 0))) (tC (.str "page")))) (g := gName 1) rfl sc_is_measure.nd rfl rfl (sw_true rfl rfl rfl rfl) (pi_tup (pv 0)) (blkOk_by (own := [("part", 1)]) (N := ["value", "part", "pages"]) (sc := C8.fnScope s_is_measure) (by decide +kernel)) (fun _ _ _ _ _ => (pg_name (i := 1) sc_is_measure.nd rfl (Or.inl rfl))) (fun _ _ _ _ _ => (pts_one (pt_cmpR op_eq (pe_ix ix_tup (pv 1) pe_int (fun _ _ => rfl)) pe_str (nomark _)))) (fun _ _ _ _ _ => (pe_ix ix_tup (pv 1) pe_int (fun _ _ => rfl))))
      (pss_one (ps_ret (pe_cmpR op_eq (pe_lenSetG rfl T.z_len rfl T.z_set (pv 2) rfl rfl) (pe_callB call_lenS rfl T.z_len bt_len (pa_cons (pv 2) pa_nil)) (nomark _)))))), ?_⟩
  refine ⟨_, rfl, x, d, rfl, hx, kyV_ok d, .inl ⟨_, rfl⟩, _, rfl, ?_⟩
  by_cases ct : kyV C d = .ty "tuple"
  · rw [decide_eq_true ct]
    obtain ⟨ds, rfl⟩ := kyV_tup.mp ct
    obtain ⟨hlen, hpt⟩ := hok
    cases hx with
    | @tup a xs _ ha hxs =>
    have hl := hxs.len
    refine iteF ⟨_, rfl, a, rfl, ⟨_, SqT.of ha⟩, fun Dl hD => ?_⟩
    refine lc_tup (K := K) (a := a) (xs := xs) (fun i H3 => Same H H3 ∧ H3 Dl = some (.lst ((ds.take i).map fun e => V.bl (okP e)))) ⟨same_new hD, upd_same⟩ (fun i H3 _ h => SqT.of (h.1 _ _ ha)) ?_ ?_
    · rintro i z H3 hi ⟨s3, hz3⟩
      obtain ⟨e, he, hze⟩ := hxs.at hi
      have hem := List.mem_of_getElem? he
      refine ⟨rfl, yes ⟨_, rfl, z, e, rfl, hze.same s3, Fit.part hft hem, fun H4 s4 => ⟨_, rfl, ?_⟩⟩⟩
      have fin : ∀ H5, Same H4 H5 → ∃ acc, H5 Dl = some (.lst acc) ∧ acc.length < sizeLine ∧ (Same H (upd H5 Dl (.lst (acc ++ [V.bl (okP e)]))) ∧ (upd H5 Dl (.lst (acc ++ [V.bl (okP e)]))) Dl = some (.lst ((ds.take (i + 1)).map fun e => V.bl (okP e)))) := fun H5 s5 => by
        refine ⟨_, s5 _ _ (s4 _ _ hz3), small1000 (by rw [List.length_map, List.length_take]; omega), same_put ((s3.trans s4).trans s5) hD, ?_⟩
        rw [upd_same, List.take_add_one, he, List.map_append]; rfl
      cases hp : pgP e with
      | true =>
        have : okP e = true := by unfold okP; rw [hp]; rfl
        rw [this] at fin
        exact bT rfl (fin H4 (Same.refl H4))
      | false =>
        refine bF rfl ⟨_, rfl, z, e, rfl, hze.same (s3.trans s4), Fit.part hft hem, hpt e hem, fun H5 s5 => ?_⟩
        have : okP e = cpP e := by unfold okP; rw [hp]; rfl
        rw [this] at fin
        exact fin H5 s5
    · rintro H3 ⟨s3, hz3⟩
      rw [List.take_of_length_le (by omega)] at hz3
      refine ⟨Dl, ds.map okP, rfl, SqL.of (by rw [List.map_map]; exact hz3), _, rfl, ?_⟩
      rw [List.all_map]
      have e0 : measB (.tup ds) = (ds.all (id ∘ okP) && decide (nDist (pgs ds) = (pgs ds).length)) := rfl
      cases hall : ds.all (id ∘ okP) with
      | false => exact bT rfl (q0 _ (by rw [e0, hall]; rfl) H3 s3)
      | true =>
        refine bF rfl ?_
        rw [hall, Bool.true_and] at e0
        have hok : ∀ e ∈ ds, okP e = true := fun e he => List.all_eq_true.mp hall e he
        unfold tNext
        dsimp only
        refine ⟨_, rfl, a, rfl, ⟨_, SqT.of (s3 _ _ ha)⟩, fun D2 hD2 => ?_⟩
        refine lc_tup (K := K) (a := a) (xs := xs) (fun i H4 => Same H3 H4 ∧ H4 D2 = some (.lst ((pgs (ds.take i)).map V.int))) ⟨same_new hD2, upd_same⟩ (fun i H4 _ h => SqT.of (h.1 _ _ (s3 _ _ ha))) ?_ ?_
        · rintro i z H4 hi ⟨s4, hz4⟩
          obtain ⟨e, he, hze⟩ := hxs.at hi
          have hem := List.mem_of_getElem? he
          have eg : pgs (ds.take (i + 1)) = pgs (ds.take i) ++ (pgO e).toList := by
            rw [List.take_add_one, he, pgs_app]
            congr 1
          have pz := partV (hok e hem) (hze.same (s3.trans s4))
          cases pz with
          | @page az p y ws h1 i1 w1 =>
            refine ⟨rfl, _, rfl, az, _, 0, _, rfl, rfl, SqT.of h1, atI_nat (j := 0) rfl, rfl, _, rfl, ifT rfl ?_⟩
            refine ⟨_, rfl, az, _, 1, _, rfl, rfl, SqT.of h1, atI_nat (j := 1) rfl, _, hz4, small1000 (by have := pgs_len (ds.take i); rw [List.length_take] at this; rw [List.length_map]; omega), same_put s4 hD2, ?_⟩
            have : pgO (.tup [.str "page", .int p, ws]) = some p := by simp only [pgO, if_pos trivial]
            rw [upd_same, eg, this, List.map_append]; rfl
          | @cpu az y z pr rg h1 i1 j1 =>
            have : pgO (.tup [.str "cpu", pr, rg]) = none := by
              unfold pgO
              split
              · rename_i k p r e
                cases e
                exact if_neg nPC
              · rfl
            refine ⟨rfl, _, rfl, az, _, 0, _, rfl, rfl, SqT.of h1, atI_nat (j := 0) rfl, rfl, _, rfl, ifF (fun z => nPC (V.str.inj z)) ⟨s4, ?_⟩⟩
            rw [eg, this]
            simpa using hz4
        · rintro H4 ⟨s4, hz4⟩
          rw [List.take_of_length_le (by omega)] at hz4
          have hgl : (pgs ds).length ≤ 1000 := Nat.le_trans (pgs_len _) (by omega)
          refine ⟨_, rfl, D2, _, rfl, SqL.of hz4, by omega, _, rfl, D2, _, rfl, .inl (SqL.of hz4), rfl, ?_⟩
          rw [List.length_map]
          have e9 : decide (V.int (nDist (pgs ds) : Int) = V.int ((pgs ds).length : Int)) = decide (nDist (pgs ds) = (pgs ds).length) := by
            by_cases h : nDist (pgs ds) = (pgs ds).length
            · rw [h]; simp
            · rw [decide_eq_false h, decide_eq_false (fun z => h (by have := V.int.inj z; omega))]
          rw [e9]
          exact q0 _ e0 H4 (s3.trans s4)
  · have e : measB d = false := by cases d <;> first | rfl | exact absurd rfl ct
    rw [decide_eq_false ct]
    exact iteT (q0 _ e H (Same.refl H))
end
end Hc

namespace Hc
open PySem PySem.Spec PyProof.Rows L2 Hr
theorem dc_tup {K : PySem.W.Frag} {a : Addr} {xs : List V} {g : TG} {tt : TT} {tk tv : TE} {vs : List Nat} {σ : L2.St} {H1 : Hp} {D : Addr} {Qd : Hp → Prop} (Pv : Nat → Hp → Prop) (h0 : Pv 0 (upd H1 D (.dK []))) (hs : ∀ i H, i ≤ xs.length → Pv i H → SqT K H a xs)
    (step : ∀ i x H, xs[i]? = some x → Pv i H → g x (wipe σ vs) H fun σ2 H2 => wipe σ2 vs = wipe σ vs ∧ tt σ2 H2 fun b H3 => if b = true then tk σ2 H3 fun y H4 => tv σ2 H4 fun z H5 => ∃ kvs k, y = kV k ∧ H5 D = some (.dK kvs) ∧ kvs.length < sizeLine ∧ Pv (i + 1) (upd H5 D (.dK (putK kvs k z))) else Pv (i + 1) H3)
    (done : ∀ H, Pv xs.length H → Qd H) :
    ∃ W : Nat → Nat → Hp → Prop, (∃ m, W 0 m (upd H1 D (.dK []))) ∧ ∀ i m H, W i m H → (Itt K a).stop i H ∧ Qd H ∨ (Itt K a).go i H ∧ ∃ Nx : Hp → Prop, (∀ H', Nx H' → ∃ m', m' < m ∧ W (i + 1) m' H') ∧
      ∀ x H', (Itt K a).yld i H x H' → g x (wipe σ vs) H' fun σ2 H2 => wipe σ2 vs = wipe σ vs ∧ tt σ2 H2 fun b H3 => if b = true then tk σ2 H3 fun y H4 => tv σ2 H4 fun z H5 => ∃ kvs k, y = kV k ∧ H5 D = some (.dK kvs) ∧ kvs.length < sizeLine ∧ Nx (upd H5 D (.dK (putK kvs k z))) else Nx H3 := by
  refine ⟨fun i m H => i + m = xs.length ∧ Pv i H, ⟨xs.length, by omega, h0⟩, fun i m H hW => ?_⟩
  obtain ⟨hm, hp⟩ := hW
  have hq := hs i H (by omega) hp
  by_cases hi : i = xs.length
  · exact .inl ⟨⟨xs, hq, by omega⟩, done H (by rw [← hi]; exact hp)⟩
  · refine .inr ⟨⟨xs, xs[i]'(by omega), hq, List.getElem?_eq_getElem _⟩, fun H' => Pv (i + 1) H', fun H' h => ⟨m - 1, by omega, by omega, h⟩, fun x H' hy => ?_⟩
    obtain ⟨rfl, hx⟩ := hy
    exact step i x _ (hx xs hq) hp
section
variable {P : Program} {w : World} {K : PySem.W.Frag} {mg : Str → Option Value} {base : Heap} {f : Addr} {fd : FuncData} {C : Addr}
abbrev s_first_pages : Stmt := top 46
theorem sc_first_pages : FnScope ["measure", "part"] ["measure"] (C8.fnScope s_first_pages) := C8.fnScope_by (by decide +kernel)
theorem ok_first_pages (F : C8.Def K mg "first_pages" s_first_pages f fd) (b : Binds K fd ["measure"] []) (T : Txt K mg w C) : C8.Cal P w K mg base 1 "first_pages" (spFP C) [] := by
  refine C8.cal0 F b .nil sc_first_pages (fun vs H Q E h => ?_) (fun cdv A outer s H vs Q E hr h => ?_)
  · obtain ⟨a, xs, ds, rfl, _⟩ := h; rfl
  obtain ⟨a, xs, ds, rfl, ha, hxs, hlen, hok, hnd, q⟩ := h
  have hl := hxs.len
  refine ⟨_, (pss_one (ps_ret (pe_dc (own := [("part", 1)]) (tk := tOp (rIxT K) (tVar 1) (tC (.int 1))) (tv := tOp (rIxT K) (tVar 1) (tC (.int 2))) (tt := tTest (tOp rEq (tOp (rIxT K) (tVar 1) (tC (.int 0))) (tC (.str "page")))) (g := gName 1) rfl sc_first_pages.nd (pi_tup (pv 0)) (blkOk_by (own := [("part", 1)]) (N := ["measure", "part"]) (sc := C8.fnScope s_first_pages) (by decide +kernel)) (fun _ _ _ _ _ => (pg_name (i := 1) sc_first_pages.nd rfl (Or.inl rfl))) (fun _ _ _ _ _ => (pts_one (pt_cmpR op_eq (pe_ix ix_tup (pv 1) pe_int (fun _ _ => rfl)) pe_str (nomark _)))) (fun _ _ _ _ _ => (pe_ix ix_tup (pv 1) pe_int (fun _ _ => rfl))) (fun _ _ _ _ _ => (pe_ix ix_tup (pv 1) pe_int (fun _ _ => rfl)))))), ?_⟩
  refine ⟨_, rfl, a, rfl, ⟨_, SqT.of ha⟩, fun Dl hD => ?_⟩
  refine dc_tup (K := K) (a := a) (xs := xs) (fun i H3 => Same H H3 ∧ H3 Dl = some (.dK (pgV H (xs.take i)))) ⟨same_new hD, upd_same⟩ (fun i H3 _ h => SqT.of (h.1 _ _ ha)) ?_ ?_
  · rintro i z H3 hi ⟨s3, hz3⟩
    obtain ⟨e, he, hze⟩ := hxs.at hi
    have hem := List.mem_of_getElem? he
    have eg : pgV H (xs.take (i + 1)) = pgV H (xs.take i) ++ (pgV1 H z).toList := by
      rw [List.take_add_one, hi, pgV_app]
      congr 1
    have hlen3 : (pgV H (xs.take i)).length ≤ 1000 := by
      have := List.length_filterMap_le (pgV1 H) (xs.take i)
      rw [List.length_take] at this
      unfold pgV; omega
    cases partV (hok e hem) hze with
    | @page az p y ws h1 i1 w1 =>
      have h1' := s3 _ _ h1
      refine ⟨rfl, _, rfl, az, _, 0, _, rfl, rfl, SqT.of h1', atI_nat (j := 0) rfl, rfl, _, rfl, ifT rfl ?_⟩
      refine ⟨_, rfl, az, _, 1, _, rfl, rfl, SqT.of h1', atI_nat (j := 1) rfl, _, rfl, az, _, 2, _, rfl, rfl, SqT.of h1', atI_nat (j := 2) rfl, _, .inl p, rfl, hz3, Nat.lt_of_le_of_lt hlen3 (by decide), same_put s3 hD, ?_⟩
      have e1 : pgV1 H (.ref az) = some (.inl p, y) := by simp only [pgV1, h1, if_pos trivial]
      have hnew : (Sum.inl p : Key) ∉ (pgV H (xs.take i)).map (·.1) := by
        have k1 := pgV_keys (isA_take (i + 1) hxs) (fun e' he' => hok e' (List.mem_of_mem_take he'))
        rw [eg, e1, List.map_append] at k1
        have nd : ((pgs (ds.take (i + 1))).map (Sum.inl : Int → Key)).Nodup := by
          refine List.pairwise_map.mpr (List.Pairwise.imp (fun h e => h (Sum.inl.inj e)) (?_ : (pgs (ds.take (i + 1))).Nodup))
          have : ds = ds.take (i + 1) ++ ds.drop (i + 1) := (List.take_append_drop _ _).symm
          rw [this, pgs_app] at hnd
          exact (List.nodup_append.mp hnd).1
        rw [← k1] at nd
        have := (List.nodup_append.mp nd).2.2
        intro z
        exact this _ z _ (by simp) rfl
      rw [putK_new hnew, upd_same, eg, e1]; rfl
    | @cpu az y z2 pr rg h1 i1 j1 =>
      have h1' := s3 _ _ h1
      have e1 : pgV1 H (.ref az) = none := by
        simp only [pgV1, h1]
        cases y <;> first | rfl | exact if_neg nPC
      refine ⟨rfl, _, rfl, az, _, 0, _, rfl, rfl, SqT.of h1', atI_nat (j := 0) rfl, rfl, _, rfl, ifF (fun z => nPC (V.str.inj z)) ⟨s3, ?_⟩⟩
      rw [eg, e1]
      simpa using hz3
  · rintro H3 ⟨s3, hz3⟩
    rw [List.take_of_length_le (Nat.le_refl _)] at hz3
    exact q H3 Dl s3 hD hz3
abbrev s_first_cpus : Stmt := top 47
theorem sc_first_cpus : FnScope ["measure", "part"] ["measure"] (C8.fnScope s_first_cpus) := C8.fnScope_by (by decide +kernel)
theorem ok_first_cpus (F : C8.Def K mg "first_cpus" s_first_cpus f fd) (b : Binds K fd ["measure"] []) (T : Txt K mg w C) : C8.Cal P w K mg base 1 "first_cpus" (spFC C) [] := by
  refine C8.cal0 F b .nil sc_first_cpus (fun vs H Q E h => ?_) (fun cdv A outer s H vs Q E hr h => ?_)
  · obtain ⟨a, xs, ds, rfl, _⟩ := h; rfl
  obtain ⟨a, xs, ds, rfl, ha, hxs, hlen, hok, q⟩ := h
  have hl := hxs.len
  refine ⟨_, (pss_one (ps_ret (pe_callTy call_tuple_of rfl T.z_tuple bt_tuple (pa_cons (pe_lc (own := [("part", 1)]) (te := tSl (rSlA K) (tVar 1) (tPart (tC (.int 1))) tNoPart) (tt := tTest (tOp rEq (tOp (rIxT K) (tVar 1) (tC (.int 0))) (tC (.str "cpu")))) (g := gName 1) rfl sc_first_cpus.nd (pi_tup (pv 0)) (blkOk_by (own := [("part", 1)]) (N := ["measure", "part"]) (sc := C8.fnScope s_first_cpus) (by decide +kernel)) (fun _ _ _ _ _ => (pg_name (i := 1) sc_first_cpus.nd rfl (Or.inl rfl))) (fun _ _ _ _ _ => (pts_one (pt_cmpR op_eq (pe_ix ix_tup (pv 1) pe_int (fun _ _ => rfl)) pe_str (nomark _)))) (fun _ _ _ _ _ => (pe_slice sl_tupA (pv 1) (po_some pe_int) po_none))) pa_nil)))), ?_⟩
  refine ⟨_, rfl, a, rfl, ⟨_, SqT.of ha⟩, fun Dl hD => ?_⟩
  have nxs : ∀ {H3 : Hp}, Same H H3 → Same H (nx [Dl] H3) := fun {H3} s x o e => by
    rw [nx_off (by simp; exact fun z => by rw [z, hD] at e; cases e)]; exact s _ _ e
  refine lc_tup (K := K) (a := a) (xs := xs) (fun i H3 => Same H H3 ∧ ∃ acc, H3 Dl = some (.lst acc) ∧ IsA C (nx [Dl] H3) acc (cps (ds.take i))) ⟨same_new hD, [], upd_same, .nil⟩ (fun i H3 _ h => SqT.of (h.1 _ _ ha)) ?_ ?_
  · rintro i z H3 hi ⟨s3, acc, hz3, ia⟩
    obtain ⟨e, he, hze⟩ := hxs.at hi
    have hem := List.mem_of_getElem? he
    have eg : cps (ds.take (i + 1)) = cps (ds.take i) ++ (cpO e).toList := by
      rw [List.take_add_one, he, cps_app]
      congr 1
    cases partV (hok e hem) hze with
    | @page az p y ws h1 i1 w1 =>
      have h1' := s3 _ _ h1
      have e1 : cpO (.tup [.str "page", .int p, ws]) = none := by simp only [cpO]; exact if_neg (fun z => nPC z.symm)
      refine ⟨rfl, _, rfl, az, _, 0, _, rfl, rfl, SqT.of h1', atI_nat (j := 0) rfl, rfl, _, rfl, ifF (fun z => nPC (V.str.inj z).symm) ⟨s3, acc, hz3, ?_⟩⟩
      rw [eg, e1]
      simpa using ia
    | @cpu az y z2 pr rg h1 i1 j1 =>
      have h1' := s3 _ _ h1
      have e1 : cpO (.tup [.str "cpu", pr, rg]) = some (.tup [pr, rg]) := by simp only [cpO, if_pos trivial]
      refine ⟨rfl, _, rfl, az, _, 0, _, rfl, rfl, SqT.of h1', atI_nat (j := 0) rfl, rfl, _, rfl, ifT rfl ?_⟩
      refine ⟨_, rfl, 1, rfl, ?_⟩
      refine sl_goL h1' fun H4 pq s4 ep => ?_
      rw [show (1 : Int) = ((1 : Nat) : Int) from rfl, cut_from] at ep
      have ep : H4 pq = some (.tup [y, z2]) := ep
      have hz4 := s4 _ _ hz3
      have npq : pq ≠ Dl := fun z => by rw [z, hz4] at ep; cases ep
      have hal := ia.len
      have hcl : (cps (ds.take i)).length ≤ 1000 := by
        have := List.length_filterMap_le cpO (ds.take i)
        rw [List.length_take] at this
        unfold cps; omega
      have s5 := nxs (s3.trans s4)
      have sm : Same (nx [Dl] H4) (nx [Dl] (upd H4 Dl (.lst (acc ++ [.ref pq])))) := nx_upd (by simp)
      refine ⟨_, hz4, small1000 (by omega), same_put (s3.trans s4) hD, acc ++ [.ref pq], upd_same, ?_⟩
      rw [eg, e1]
      refine ((ia.same (nx_same s4)).same sm).app (.cons ?_ .nil)
      have it : Is C (nx [Dl] H4) (.ref pq) (.tup [pr, rg]) := .tup (by rw [nx_off (by simpa using npq)]; exact ep) (.cons (i1.same s5) (.cons (j1.same s5) .nil))
      exact it.same sm
  · rintro H3 ⟨s3, acc, hz3, ia⟩
    rw [List.take_of_length_le (by omega)] at ia
    refine ⟨Dl, _, rfl, .inl ⟨SqL.of hz3, fun t ht => ?_⟩⟩
    have s4 := same_new (o := .tup acc) ht
    exact q _ t (s3.trans s4) (.tup upd_same ((ia.same nx_le).same s4))
end
end Hc

set_option maxHeartbeats 8000000
namespace Hc
open PySem PySem.Spec PyProof.Rows L2 Hr
def deepD : Nat → D | 0 => .int 3 | n + 1 => .tup [deepD n]
abbrev rowsD : List D := [.non, .int 0, .int 7, .int (-2147483648), .int 2147483647, .str "", .str "a b", .str "xxxxxxxxxxxxxxxxxxxxxxxx", .tup [], .tup [.int 1, .tup [.str "b", .non]], deepD 10, .atom "challenge" [.str "v", .int 0], .atom "token" [.str "m", .tup [], .int 5], .tup [.atom "seal" [.str "m", .int 1, .int 0, .non]]]
abbrev noD : List D := [.bl true, .bl false, .int 2147483648, .int (-2147483649), .str "xxxxxxxxxxxxxxxxxxxxxxxxx", .str "\n", .lst [], .lst [.int 1], .dct, .tup [.lst []], .tup [.int 1, .tup [.bl true]], deepD 41]
def WdsOk (e : D) : Prop := ∃ ws, e = .tup ws ∧ ws.length = 4 ∧ ∀ w ∈ ws, w ∈ rowsD
theorem okSeal : isTermK "seal" [.str "m", .int 1, .int 0, .non] = true ∧ rank (.atom "seal" [.str "m", .int 1, .int 0, .non]) ≤ mostR "seal" ∧ Fit (.tup [.str "m", .int 1, .int 0, .non]) := ⟨by decide +kernel, by decide +kernel, by decide +kernel, by simp only [txl, txlL]; decide +kernel⟩
theorem okCh : isTermK "challenge" [.str "v", .int 0] = true ∧ rank (.atom "challenge" [.str "v", .int 0]) ≤ mostR "challenge" ∧ Fit (.tup [.str "v", .int 0]) := ⟨by decide +kernel, by decide +kernel, by decide +kernel, by simp only [txl, txlL]; decide +kernel⟩
theorem okTok : isTermK "token" [.str "m", .tup [], .int 5] = true ∧ rank (.atom "token" [.str "m", .tup [], .int 5]) ≤ mostR "token" ∧ Fit (.tup [.str "m", .tup [], .int 5]) := ⟨by decide +kernel, by decide +kernel, by decide +kernel, by simp only [txl, txlL]; decide +kernel⟩
theorem at_of {C : Addr} {H : Hp} {o dx t : Addr} {k : Str} {es : List D} (h : H o = some (.ins C dx (atF k t (rank (.atom k es))))) (i : Is C H (.ref t) (.tup es)) : Is C H (.ref o) (.atom k es) := by
  cases i with
  | @tup _ ts _ e3 i3 => exact .atom h e3 i3
theorem isA_mem {C : Addr} {H : Hp} : ∀ {xs : List V} {ds : List D} {x : V}, IsA C H xs ds → x ∈ xs → ∃ d ∈ ds, Is C H x d
  | _, _, _, .nil, h => by cases h
  | _, _, _, .cons h t, m => by
    rcases List.mem_cons.mp m with rfl | m
    · exact ⟨_, by simp, h⟩
    · obtain ⟨d, hd, i⟩ := isA_mem t m
      exact ⟨d, by simp [hd], i⟩
def spOne (C : Addr) (ok : D → Prop) : Sp := fun vs H Q _ => ∃ d c, vs = [.ref d] ∧ Dr H d c ∧ ∀ H' x e, Dr H' d c → Bu2 d c H H' → Is C (nw H H') x e → ok e → Q x H'
def spDeep (C : Addr) : Sp := fun vs H Q _ => ∃ n : Int, vs = [.int n] ∧ 0 ≤ n ∧ n ≤ 1000 ∧ ∀ H' x, Same H H' → Is C H' x (deepD n.toNat) → Q x H'
theorem rows_cln : clnL rowsD = true := by decide +kernel
section
variable {P : Program} {w : World} {K : PySem.W.Frag} {mg : Str → Option Value} {base : Heap} {f : Addr} {fd : FuncData} {C : Addr}
abbrev s__law_deep : Stmt := top 54
theorem sc__law_deep : FnScope ["many", "value", "k"] ["many"] (C8.fnScope s__law_deep) := C8.fnScope_by (by decide +kernel)
theorem ok__law_deep (F : C8.Def K mg "_law_deep" s__law_deep f fd) (b : Binds K fd ["many"] []) (T : Txt K mg w C) : C8.Cal P w K mg base 1 "_law_deep" (spDeep C) [] := by
  refine C8.cal0 F b .nil sc__law_deep (fun vs H Q E h => ?_) (fun cdv A outer s H vs Q E hr h => ?_)
  · obtain ⟨n, rfl, _⟩ := h; rfl
  obtain ⟨n, rfl, h0, h1, q⟩ := h
  refine ⟨_, (pss_cons (ps_set (i := 1) sc__law_deep.nd rfl (Or.inl rfl) pe_int)
      (pss_cons (ps_for PassesOwn.never rfl (pi_range1 rfl T.z_range (pa_cons (pv 0) pa_nil)) (pg_name (i := 2) sc__law_deep.nd rfl (Or.inl rfl))
      (pss_one (ps_set (i := 1) sc__law_deep.nd rfl (Or.inl rfl) (pe_tup (pa_cons (pv 1) pa_nil)))))
      (pss_one (ps_ret (pv 1))))), ?_⟩
  refine ⟨_, rfl, n, rfl, by omega, by omega, for_it walk_range (fun i σ H' => ∃ v v2, σ = [some (.int n), some v, v2] ∧ Same H H' ∧ Is C H' v (deepD i)) ⟨.int 3, none, rfl, Same.refl H, .int 3⟩ (fun _ _ _ _ _ => trivial) ?_ ?_⟩
  · rintro i x σ H1 H2 hi ⟨v, v2, rfl, s1, iv⟩ ⟨rfl, rfl⟩
    refine ⟨_, rfl, (by show 1 ≤ sizeLine; decide), fun t ht => ?_⟩
    have s2 := same_new (o := .tup [v]) ht
    exact ⟨_, _, rfl, s1.trans s2, .tup upd_same (.cons (iv.same s2) .nil)⟩
  · rintro σ H1 ⟨v, v2, rfl, s1, iv⟩
    exact ⟨_, rfl, q _ v s1 iv⟩
abbrev s__law_words : Stmt := top 55
theorem sc__law_words : FnScope ["draws", "rows", "k"] ["draws"] (C8.fnScope s__law_words) := C8.fnScope_by (by decide +kernel)
theorem ok__law_words (F : C8.Def K mg "_law_words" s__law_words f fd) (b : Binds K fd ["draws"] []) (T : Txt K mg w C) (c__law_deep : C8.Cal P w K mg base 1 "_law_deep" (spDeep C) []) (k_Atom : C8.Mak P w K mg base 5 "Atom" C (spInit C) []) (c__law_pick : C8.Cal P w K mg base 2 "_law_pick" spPick []) : C8.Cal P w K mg base 7 "_law_words" (spOne C WdsOk) [] := by
  refine C8.cal0 F b .nil sc__law_words (fun vs H Q E h => ?_) (fun cdv A outer s H vs Q E hr h => ?_)
  · obtain ⟨d, c, rfl, _⟩ := h; rfl
  obtain ⟨d, c, rfl, hD, q⟩ := h
  refine ⟨_, (pss_cons (ps_set (i := 1) sc__law_words.nd rfl (Or.inr rfl) (pe_lst (pa_cons pe_non (pa_cons pe_int (pa_cons pe_int (pa_cons (pe_un un_neg pe_int) (pa_cons pe_int (pa_cons pe_str (pa_cons pe_str (pa_cons (pe_op op_smul pe_str pe_int) (pa_cons (pe_tup pa_nil) (pa_cons (pe_tup (pa_cons pe_int (pa_cons (pe_tup (pa_cons pe_str (pa_cons pe_non pa_nil))) pa_nil))) (pa_cons (C8.pe_c c__law_deep hr (by first | decide | omega) rfl (pa_cons pe_int pa_nil)) pa_nil)))))))))))))
      (pss_cons (ps_set (i := 1) sc__law_words.nd rfl (Or.inr rfl) (pe_op op_cat (pv 1) (pe_lst (pa_cons (C8.pe_mk k_Atom hr (by first | decide | omega) rfl (pa_cons pe_str (pa_cons (pe_tup (pa_cons pe_str (pa_cons pe_int pa_nil))) pa_nil))) (pa_cons (C8.pe_mk k_Atom hr (by first | decide | omega) rfl (pa_cons pe_str (pa_cons (pe_tup (pa_cons pe_str (pa_cons (pe_tup pa_nil) (pa_cons pe_int pa_nil)))) pa_nil))) (pa_cons (pe_tup (pa_cons (C8.pe_mk k_Atom hr (by first | decide | omega) rfl (pa_cons pe_str (pa_cons (pe_tup (pa_cons pe_str (pa_cons pe_int (pa_cons pe_int (pa_cons pe_non pa_nil))))) pa_nil))) pa_nil)) pa_nil))))))
      (pss_one (ps_ret (pe_callTy call_tuple_of rfl T.z_tuple bt_tuple (pa_cons (pe_lc (own := [("k", 2)]) (g := gName 2) rfl sc__law_words.nd (pi_range1 rfl T.z_range (pa_cons pe_int pa_nil)) (blkOk_by (own := [("k", 2)]) (N := ["draws", "rows", "k"]) (sc := C8.fnScope s__law_words) (by decide +kernel)) (fun _ _ _ _ _ => (pg_name (i := 2) sc__law_words.nd rfl (Or.inl rfl))) (fun _ _ _ _ _ => pts_nil) (fun _ _ _ _ _ => (C8.pe_c c__law_pick hr (by first | decide | omega) rfl (pa_cons (pv 0) (pa_cons (pv 1) pa_nil))))) pa_nil)))))), ?_⟩
  have st := Same.refl H
  refine ⟨_, rfl, _, _, rfl, rfl, smul24, (by show 0 ≤ sizeLine; decide), fun a0 h_a0 => ?_⟩
  have m_a0 := same_new (o := .tup []) h_a0
  have st := st.trans m_a0
  have e_a0 : (upd H a0 (.tup [])) a0 = some (.tup []) := upd_same
  have i_a0 : Is C (upd H a0 (.tup [])) (.ref a0) (.tup []) := .tup e_a0 .nil
  generalize upd H a0 (.tup []) = G1 at *
  refine ⟨(by show 2 ≤ sizeLine; decide), fun a1 h_a1 => ?_⟩
  have m_a1 := same_new (o := .tup [.str "b", .non]) h_a1
  have st := st.trans m_a1
  have e_a1 : (upd G1 a1 (.tup [.str "b", .non])) a1 = some (.tup [.str "b", .non]) := upd_same
  have i_a1 : Is C (upd G1 a1 (.tup [.str "b", .non])) (.ref a1) (.tup [.str "b", .non]) := .tup e_a1 (.cons (.str _) (.cons .non .nil))
  have i_a0 := i_a0.same m_a1
  generalize upd G1 a1 (.tup [.str "b", .non]) = G2 at *
  refine ⟨(by show 2 ≤ sizeLine; decide), fun a2 h_a2 => ?_⟩
  have m_a2 := same_new (o := .tup [.int 1, .ref a1]) h_a2
  have st := st.trans m_a2
  have e_a2 : (upd G2 a2 (.tup [.int 1, .ref a1])) a2 = some (.tup [.int 1, .ref a1]) := upd_same
  have i_a2 : Is C (upd G2 a2 (.tup [.int 1, .ref a1])) (.ref a2) (.tup [.int 1, .tup [.str "b", .non]]) := .tup e_a2 (.cons (.int _) (.cons (i_a1.same m_a2) .nil))
  clear i_a1
  have i_a0 := i_a0.same m_a2
  generalize upd G2 a2 (.tup [.int 1, .ref a1]) = G3 at *
  refine ⟨10, rfl, by decide, by decide, fun G4 dp z_dp i_dp => ?_⟩
  have st := st.trans z_dp
  have m_dp := z_dp
  have i_a0 := i_a0.same m_dp
  have i_a2 := i_a2.same m_dp
  refine ⟨(by show 11 ≤ sizeLine; decide), fun r0 h_r0 => ?_⟩
  rw [smul24v]
  have c_r0 := ((hD.same st).off h_r0).2
  have m_r0 := same_new (o := .lst [.non, .int 0, .int 7, .int (-2147483648), .int 2147483647, .str "", .str "a b", .str "xxxxxxxxxxxxxxxxxxxxxxxx", .ref a0, .ref a2, dp]) h_r0
  have st := st.trans m_r0
  have e_r0 : (upd G4 r0 (.lst [.non, .int 0, .int 7, .int (-2147483648), .int 2147483647, .str "", .str "a b", .str "xxxxxxxxxxxxxxxxxxxxxxxx", .ref a0, .ref a2, dp])) r0 = some (.lst [.non, .int 0, .int 7, .int (-2147483648), .int 2147483647, .str "", .str "a b", .str "xxxxxxxxxxxxxxxxxxxxxxxx", .ref a0, .ref a2, dp]) := upd_same
  have i_a0 := i_a0.same m_r0
  have i_a2 := i_a2.same m_r0
  have i_dp := i_dp.same m_r0
  generalize upd G4 r0 (.lst [.non, .int 0, .int 7, .int (-2147483648), .int 2147483647, .str "", .str "a b", .str "xxxxxxxxxxxxxxxxxxxxxxxx", .ref a0, .ref a2, dp]) = G5 at *
  refine ⟨_, rfl, (by show 2 ≤ sizeLine; decide), fun u1 h_u1 => ?_⟩
  have m_u1 := same_new (o := .tup [.str "v", .int 0]) h_u1
  have st := st.trans m_u1
  have e_u1 : (upd G5 u1 (.tup [.str "v", .int 0])) u1 = some (.tup [.str "v", .int 0]) := upd_same
  have i_u1 : Is C (upd G5 u1 (.tup [.str "v", .int 0])) (.ref u1) (.tup [.str "v", .int 0]) := .tup e_u1 (.cons (.str _) (.cons (.int _) .nil))
  have i_a0 := i_a0.same m_u1
  have i_a2 := i_a2.same m_u1
  have i_dp := i_dp.same m_u1
  have e_r0 := m_u1 _ _ e_r0
  generalize upd G5 u1 (.tup [.str "v", .int 0]) = G6 at *
  refine ?_; intro ch d_ch h_ch hd_ch _
  have s2 : Same G6 (upd (upd G6 d_ch (.own ch)) ch (.ins C d_ch [])) := same_put (same_new hd_ch) h_ch
  refine ⟨ch, d_ch, "challenge", u1, [.str "v", .int 0], rfl, upd_same, i_u1.same s2, (okCh).1, (okCh).2.1, (okCh).2.2, fun G7 hat oth => ⟨rfl, ?_⟩⟩
  have m_ch : Same G6 G7 := fun b u e => oth b u (s2 _ _ e) (ne_of_none e h_ch)
  have st := st.trans m_ch
  have i_ch : Is C G7 (.ref ch) (.atom "challenge" [.str "v", .int 0]) := at_of hat (i_u1.same m_ch)
  clear i_u1
  have i_a0 := i_a0.same m_ch
  have i_a2 := i_a2.same m_ch
  have i_dp := i_dp.same m_ch
  have e_r0 := m_ch _ _ e_r0
  clear s2 hat oth
  refine ⟨(by show 0 ≤ sizeLine; decide), fun u2 h_u2 => ?_⟩
  have m_u2 := same_new (o := .tup []) h_u2
  have st := st.trans m_u2
  have e_u2 : (upd G7 u2 (.tup [])) u2 = some (.tup []) := upd_same
  have i_u2 : Is C (upd G7 u2 (.tup [])) (.ref u2) (.tup []) := .tup e_u2 .nil
  have i_a0 := i_a0.same m_u2
  have i_a2 := i_a2.same m_u2
  have i_dp := i_dp.same m_u2
  have i_ch := i_ch.same m_u2
  have e_r0 := m_u2 _ _ e_r0
  generalize upd G7 u2 (.tup []) = G8 at *
  refine ⟨(by show 3 ≤ sizeLine; decide), fun u3 h_u3 => ?_⟩
  have m_u3 := same_new (o := .tup [.str "m", .ref u2, .int 5]) h_u3
  have st := st.trans m_u3
  have e_u3 : (upd G8 u3 (.tup [.str "m", .ref u2, .int 5])) u3 = some (.tup [.str "m", .ref u2, .int 5]) := upd_same
  have i_u3 : Is C (upd G8 u3 (.tup [.str "m", .ref u2, .int 5])) (.ref u3) (.tup [.str "m", .tup [], .int 5]) := .tup e_u3 (.cons (.str _) (.cons (i_u2.same m_u3) (.cons (.int _) .nil)))
  clear i_u2
  have i_a0 := i_a0.same m_u3
  have i_a2 := i_a2.same m_u3
  have i_dp := i_dp.same m_u3
  have i_ch := i_ch.same m_u3
  have e_r0 := m_u3 _ _ e_r0
  generalize upd G8 u3 (.tup [.str "m", .ref u2, .int 5]) = G9 at *
  refine ?_; intro to d_to h_to hd_to _
  have s2 : Same G9 (upd (upd G9 d_to (.own to)) to (.ins C d_to [])) := same_put (same_new hd_to) h_to
  refine ⟨to, d_to, "token", u3, [.str "m", .tup [], .int 5], rfl, upd_same, i_u3.same s2, (okTok).1, (okTok).2.1, (okTok).2.2, fun G10 hat oth => ⟨rfl, ?_⟩⟩
  have m_to : Same G9 G10 := fun b u e => oth b u (s2 _ _ e) (ne_of_none e h_to)
  have st := st.trans m_to
  have i_to : Is C G10 (.ref to) (.atom "token" [.str "m", .tup [], .int 5]) := at_of hat (i_u3.same m_to)
  clear i_u3
  have i_a0 := i_a0.same m_to
  have i_a2 := i_a2.same m_to
  have i_dp := i_dp.same m_to
  have i_ch := i_ch.same m_to
  have e_r0 := m_to _ _ e_r0
  clear s2 hat oth
  refine ⟨(by show 4 ≤ sizeLine; decide), fun u4 h_u4 => ?_⟩
  have m_u4 := same_new (o := .tup [.str "m", .int 1, .int 0, .non]) h_u4
  have st := st.trans m_u4
  have e_u4 : (upd G10 u4 (.tup [.str "m", .int 1, .int 0, .non])) u4 = some (.tup [.str "m", .int 1, .int 0, .non]) := upd_same
  have i_u4 : Is C (upd G10 u4 (.tup [.str "m", .int 1, .int 0, .non])) (.ref u4) (.tup [.str "m", .int 1, .int 0, .non]) := .tup e_u4 (.cons (.str _) (.cons (.int _) (.cons (.int _) (.cons .non .nil))))
  have i_a0 := i_a0.same m_u4
  have i_a2 := i_a2.same m_u4
  have i_dp := i_dp.same m_u4
  have i_ch := i_ch.same m_u4
  have i_to := i_to.same m_u4
  have e_r0 := m_u4 _ _ e_r0
  generalize upd G10 u4 (.tup [.str "m", .int 1, .int 0, .non]) = G11 at *
  refine ?_; intro sl d_sl h_sl hd_sl _
  have s2 : Same G11 (upd (upd G11 d_sl (.own sl)) sl (.ins C d_sl [])) := same_put (same_new hd_sl) h_sl
  refine ⟨sl, d_sl, "seal", u4, [.str "m", .int 1, .int 0, .non], rfl, upd_same, i_u4.same s2, (okSeal).1, (okSeal).2.1, (okSeal).2.2, fun G12 hat oth => ⟨rfl, ?_⟩⟩
  have m_sl : Same G11 G12 := fun b u e => oth b u (s2 _ _ e) (ne_of_none e h_sl)
  have st := st.trans m_sl
  have i_sl : Is C G12 (.ref sl) (.atom "seal" [.str "m", .int 1, .int 0, .non]) := at_of hat (i_u4.same m_sl)
  clear i_u4
  have i_a0 := i_a0.same m_sl
  have i_a2 := i_a2.same m_sl
  have i_dp := i_dp.same m_sl
  have i_ch := i_ch.same m_sl
  have i_to := i_to.same m_sl
  have e_r0 := m_sl _ _ e_r0
  clear s2 hat oth
  refine ⟨(by show 1 ≤ sizeLine; decide), fun u5 h_u5 => ?_⟩
  have m_u5 := same_new (o := .tup [.ref sl]) h_u5
  have st := st.trans m_u5
  have e_u5 : (upd G12 u5 (.tup [.ref sl])) u5 = some (.tup [.ref sl]) := upd_same
  have i_u5 : Is C (upd G12 u5 (.tup [.ref sl])) (.ref u5) (.tup [.atom "seal" [.str "m", .int 1, .int 0, .non]]) := .tup e_u5 (.cons (i_sl.same m_u5) .nil)
  clear i_sl
  have i_a0 := i_a0.same m_u5
  have i_a2 := i_a2.same m_u5
  have i_dp := i_dp.same m_u5
  have i_ch := i_ch.same m_u5
  have i_to := i_to.same m_u5
  have e_r0 := m_u5 _ _ e_r0
  generalize upd G12 u5 (.tup [.ref sl]) = G13 at *
  refine ⟨(by show 3 ≤ sizeLine; decide), fun r1 h_r1 => ?_⟩
  have c_r1 := ((hD.same st).off h_r1).2
  have m_r1 := same_new (o := .lst [.ref ch, .ref to, .ref u5]) h_r1
  have st := st.trans m_r1
  have e_r1 : (upd G13 r1 (.lst [.ref ch, .ref to, .ref u5])) r1 = some (.lst [.ref ch, .ref to, .ref u5]) := upd_same
  have i_a0 := i_a0.same m_r1
  have i_a2 := i_a2.same m_r1
  have i_dp := i_dp.same m_r1
  have i_ch := i_ch.same m_r1
  have i_to := i_to.same m_r1
  have i_u5 := i_u5.same m_r1
  have e_r0 := m_r1 _ _ e_r0
  generalize upd G13 r1 (.lst [.ref ch, .ref to, .ref u5]) = G14 at *
  refine ⟨r0, r1, _, _, rfl, rfl, e_r0, e_r1, (by show 14 ≤ sizeLine; decide), fun rr h_rr => ?_⟩
  have c_rr := ((hD.same st).off h_rr).2
  have m_rr := same_new (o := .lst ([.non, .int 0, .int 7, .int (-2147483648), .int 2147483647, .str "", .str "a b", .str "xxxxxxxxxxxxxxxxxxxxxxxx", .ref a0, .ref a2, dp] ++ [.ref ch, .ref to, .ref u5])) h_rr
  have st := st.trans m_rr
  have e_rr : (upd G14 rr (.lst ([.non, .int 0, .int 7, .int (-2147483648), .int 2147483647, .str "", .str "a b", .str "xxxxxxxxxxxxxxxxxxxxxxxx", .ref a0, .ref a2, dp] ++ [.ref ch, .ref to, .ref u5]))) rr = some (.lst [.non, .int 0, .int 7, .int (-2147483648), .int 2147483647, .str "", .str "a b", .str "xxxxxxxxxxxxxxxxxxxxxxxx", .ref a0, .ref a2, dp, .ref ch, .ref to, .ref u5]) := upd_same
  have i_a0 := i_a0.same m_rr
  have i_a2 := i_a2.same m_rr
  have i_dp := i_dp.same m_rr
  have i_ch := i_ch.same m_rr
  have i_to := i_to.same m_rr
  have i_u5 := i_u5.same m_rr
  generalize upd G14 rr (.lst ([.non, .int 0, .int 7, .int (-2147483648), .int 2147483647, .str "", .str "a b", .str "xxxxxxxxxxxxxxxxxxxxxxxx", .ref a0, .ref a2, dp] ++ [.ref ch, .ref to, .ref u5])) = G15 at *
  have ia : IsA C G15 [.non, .int 0, .int 7, .int (-2147483648), .int 2147483647, .str "", .str "a b", .str "xxxxxxxxxxxxxxxxxxxxxxxx", .ref a0, .ref a2, dp, .ref ch, .ref to, .ref u5] rowsD := (.cons .non (.cons (.int _) (.cons (.int _) (.cons (.int _) (.cons (.int _) (.cons (.str _) (.cons (.str _) (.cons (.str _) (.cons i_a0 (.cons i_a2 (.cons i_dp (.cons i_ch (.cons i_to (.cons i_u5 .nil))))))))))))))
  generalize [.non, .int 0, .int 7, .int (-2147483648), .int 2147483647, .str "", .str "a b", .str "xxxxxxxxxxxxxxxxxxxxxxxx", .ref a0, .ref a2, dp, .ref ch, .ref to, .ref u5] = xs at *
  have hxl : xs.length = 14 := ia.len
  have hDG := hD.same st
  have bG : Bu2 d c H G15 := Bu2.of st
  generalize G15 = G at *
  refine ⟨4, rfl, by decide, by decide, fun Dl hDl => ?_⟩
  refine drawn_lcV walk_range (d := d) (c := c) (C := C) (good := fun e => e ∈ rowsD) (H0 := H) hDG hDl (by decide) (fun _ => trivial) (LDk.of st) (fun i H x H' y => y.1) ?_ ?_
  · rintro i x Ha H4 R N hi ⟨rfl, rfl⟩ hD4 b4 kk
    have orr := c_rr
    have nrd : rr ≠ d := fun z => by
      obtain ⟨⟨r, m, h⟩, _⟩ := hDG
      rw [z, h] at e_rr; cases e_rr
    refine ⟨rfl, yes ⟨_, rfl, _, rfl, d, c, rr, xs, rfl, hD4, b4 _ _ e_rr nrd c_rr, c_rr, by omega, by omega, fun H5 j x hD5 b5 hx => ?_⟩⟩
    obtain ⟨e, he, ie⟩ := isA_mem (IsA.keep (hDG.keep b4) rows_cln ia) (List.mem_of_getElem? hx)
    have ce := clnL_iff.mp rows_cln e he
    exact kk H5 x e hD5 b5 (Is.nw (LDk.bu hD5 b5) ce (Is.keep (hD4.keep b5) ce ie)) he
  intro H4 acc ws hD4 b4 hz4 iw hwl hw
  refine ⟨Dl, _, rfl, .inl ⟨SqL.of hz4, fun t ht => ?_⟩⟩
  have s5 := same_new (o := .tup acc) ht
  have ht0 : H t = none := by
    cases h : H t with
    | none => rfl
    | some o0 =>
      exfalso
      by_cases z1 : t = d
      · obtain ⟨⟨r, m, h1⟩, _⟩ := hD4
        rw [z1, h1] at ht; cases ht
      by_cases z2 : t = c
      · obtain ⟨_, ns, _, h1⟩ := hD4
        rw [z2, h1] at ht; cases ht
      rw [(bG.trans b4) _ _ h z1 z2] at ht; cases ht
  refine q _ _ (.tup ws) (hD4.same s5) ((bG.trans b4).trans (Bu2.of s5)) (.tup (nw_at ht0 upd_same) (iw.same (nw_bu hD (Bu2.of s5)))) ⟨ws, rfl, hwl, hw⟩
abbrev s__law_no_word : Stmt := top 56
theorem sc__law_no_word : FnScope ["draws"] ["draws"] (C8.fnScope s__law_no_word) := C8.fnScope_by (by decide +kernel)
theorem ok__law_no_word (F : C8.Def K mg "_law_no_word" s__law_no_word f fd) (b : Binds K fd ["draws"] []) (T : Txt K mg w C) (c__law_deep : C8.Cal P w K mg base 1 "_law_deep" (spDeep C) []) (c__law_pick : C8.Cal P w K mg base 2 "_law_pick" spPick []) : C8.Cal P w K mg base 3 "_law_no_word" (spOne C (· ∈ noD)) [] := by
  refine C8.cal0 F b .nil sc__law_no_word (fun vs H Q E h => ?_) (fun cdv A outer s H vs Q E hr h => ?_)
  · obtain ⟨d, c, rfl, _⟩ := h; rfl
  obtain ⟨d, c, rfl, hD, q⟩ := h
  refine ⟨_, (pss_one (ps_ret (C8.pe_c c__law_pick hr (by first | decide | omega) rfl (pa_cons (pv 0) (pa_cons (pe_lst (pa_cons pe_bl (pa_cons pe_bl (pa_cons pe_int (pa_cons (pe_un un_neg pe_int) (pa_cons (pe_op op_smul pe_str pe_int) (pa_cons pe_str (pa_cons (pe_lst pa_nil) (pa_cons (pe_lst (pa_cons pe_int pa_nil)) (pa_cons pe_dnewK (pa_cons (pe_tup (pa_cons (pe_lst pa_nil) pa_nil)) (pa_cons (pe_tup (pa_cons pe_int (pa_cons (pe_tup (pa_cons pe_bl pa_nil)) pa_nil))) (pa_cons (C8.pe_c c__law_deep hr (by first | decide | omega) rfl (pa_cons pe_int pa_nil)) pa_nil))))))))))))) pa_nil))))), ?_⟩
  have st := Same.refl H
  refine ⟨_, rfl, _, rfl, _, _, rfl, rfl, smul25, (by show 0 ≤ sizeLine; decide), fun a0 h_a0 => ?_⟩
  obtain ⟨st, e_a0, m_a0⟩ := newF (o := .lst []) hD st h_a0
  have i_a0 : Is C (nw H (upd H a0 (.lst []))) (.ref a0) (.lst []) := .lst e_a0 .nil
  generalize upd H a0 (.lst []) = G1 at *
  refine ⟨(by show 1 ≤ sizeLine; decide), fun a1 h_a1 => ?_⟩
  obtain ⟨st, e_a1, m_a1⟩ := newF (o := .lst [.int 1]) hD st h_a1
  have i_a1 : Is C (nw H (upd G1 a1 (.lst [.int 1]))) (.ref a1) (.lst [.int 1]) := .lst e_a1 (.cons (.int _) .nil)
  have i_a0 := i_a0.same m_a1
  generalize upd G1 a1 (.lst [.int 1]) = G2 at *
  intro a2 h_a2
  obtain ⟨st, e_a2, m_a2⟩ := newF (o := .dK []) hD st h_a2
  have i_a2 : Is C (nw H (upd G2 a2 (.dK []))) (.ref a2) .dct := .dct e_a2
  have i_a0 := i_a0.same m_a2
  have i_a1 := i_a1.same m_a2
  generalize upd G2 a2 (.dK []) = G3 at *
  refine ⟨(by show 0 ≤ sizeLine; decide), fun a3 h_a3 => ?_⟩
  obtain ⟨st, e_a3, m_a3⟩ := newF (o := .lst []) hD st h_a3
  have i_a3 : Is C (nw H (upd G3 a3 (.lst []))) (.ref a3) (.lst []) := .lst e_a3 .nil
  have i_a0 := i_a0.same m_a3
  have i_a1 := i_a1.same m_a3
  have i_a2 := i_a2.same m_a3
  generalize upd G3 a3 (.lst []) = G4 at *
  refine ⟨(by show 1 ≤ sizeLine; decide), fun a4 h_a4 => ?_⟩
  obtain ⟨st, e_a4, m_a4⟩ := newF (o := .tup [.ref a3]) hD st h_a4
  have i_a4 : Is C (nw H (upd G4 a4 (.tup [.ref a3]))) (.ref a4) (.tup [.lst []]) := .tup e_a4 (.cons (i_a3.same m_a4) .nil)
  clear i_a3
  have i_a0 := i_a0.same m_a4
  have i_a1 := i_a1.same m_a4
  have i_a2 := i_a2.same m_a4
  generalize upd G4 a4 (.tup [.ref a3]) = G5 at *
  refine ⟨(by show 1 ≤ sizeLine; decide), fun a5 h_a5 => ?_⟩
  obtain ⟨st, e_a5, m_a5⟩ := newF (o := .tup [.bl true]) hD st h_a5
  have i_a5 : Is C (nw H (upd G5 a5 (.tup [.bl true]))) (.ref a5) (.tup [.bl true]) := .tup e_a5 (.cons (.bl _) .nil)
  have i_a0 := i_a0.same m_a5
  have i_a1 := i_a1.same m_a5
  have i_a2 := i_a2.same m_a5
  have i_a4 := i_a4.same m_a5
  generalize upd G5 a5 (.tup [.bl true]) = G6 at *
  refine ⟨(by show 2 ≤ sizeLine; decide), fun a6 h_a6 => ?_⟩
  obtain ⟨st, e_a6, m_a6⟩ := newF (o := .tup [.int 1, .ref a5]) hD st h_a6
  have i_a6 : Is C (nw H (upd G6 a6 (.tup [.int 1, .ref a5]))) (.ref a6) (.tup [.int 1, .tup [.bl true]]) := .tup e_a6 (.cons (.int _) (.cons (i_a5.same m_a6) .nil))
  clear i_a5
  have i_a0 := i_a0.same m_a6
  have i_a1 := i_a1.same m_a6
  have i_a2 := i_a2.same m_a6
  have i_a4 := i_a4.same m_a6
  generalize upd G6 a6 (.tup [.int 1, .ref a5]) = G7 at *
  refine ⟨41, rfl, by decide, by decide, fun G8 dp z_dp i_dp => ?_⟩
  have st := st.trans z_dp
  have i_dp : Is C (nw H G8) dp (deepD 41) := Is.nw (LDk.of st) (by decide +kernel) i_dp
  have m_dp : Same (nw H G7) (nw H G8) := nw_bu hD (Bu2.of z_dp)
  have i_a0 := i_a0.same m_dp
  have i_a1 := i_a1.same m_dp
  have i_a2 := i_a2.same m_dp
  have i_a4 := i_a4.same m_dp
  have i_a6 := i_a6.same m_dp
  refine ⟨(by show 12 ≤ sizeLine; decide), fun l hl => ?_⟩
  rw [smul25v]
  have ia : IsA C (nw H G8) [.bl true, .bl false, .int 2147483648, .int (-2147483649), .str "xxxxxxxxxxxxxxxxxxxxxxxxx", .str "\n", .ref a0, .ref a1, .ref a2, .ref a4, .ref a6, dp] noD := (.cons (.bl _) (.cons (.bl _) (.cons (.int _) (.cons (.int _) (.cons (.str _) (.cons (.str _) (.cons i_a0 (.cons i_a1 (.cons i_a2 (.cons i_a4 (.cons i_a6 (.cons i_dp .nil))))))))))))
  refine pick_new (hD.same st) hl (by show 0 < 12; decide) (by show 12 < 1000000; decide) fun H' x hD' b' hx => ?_
  obtain ⟨e, he, ie⟩ := isA_mem ia hx
  exact q H' x e hD' ((Bu2.of st).trans b') (ie.same (nw_bu hD b')) he
end
end Hc

set_option maxHeartbeats 8000000
namespace Hc
open PySem PySem.Spec PyProof.Rows L2 Hr
abbrev progsD : List D := [.tup [.tup [.str "end"]], .tup [.tup [.str "set", .int 0, .int 5], .tup [.str "jump", .int 0]], .tup [.tup [.str "load", .int 1, .int 0, .int 2], .tup [.str "store", .int 0, .int 2, .int 1], .tup [.str "tell", .int 3, .int 1], .tup [.str "end"]], .tup [.tup [.str "token", .int 0, .int 1], .tup [.str "zero", .int 0, .int 0], .tup [.str "end"]], .tup (List.replicate 23 (.tup [.str "set", .int 3, .int (-2147483648)]) ++ [.tup [.str "end"]]), .tup [.tup [.str "jump", .int 0]], .tup [.tup [.str "add", .int 0, .int 1, .int 2], .tup [.str "less", .int 1, .int 2, .int 3], .tup [.str "same", .int 3, .int 3, .int 0], .tup [.str "copy", .int 1, .int 0], .tup [.str "zero", .int 2, .int 5], .tup [.str "jump", .int 4]]]
abbrev noProgD : List D := [.tup [], .tup [.tup [.str "set", .int 0, .int 5]], .tup [.tup [.str "jump", .int 1]], .tup [.tup [.str "set", .int 4, .int 0], .tup [.str "end"]], .tup [.tup [.str "set", .int 0, .int 2147483648], .tup [.str "end"]], .lst [.tup [.str "end"]], .tup [.tup [.str "set", .int 0, .bl true], .tup [.str "end"]], .tup [.lst [.str "end"]], .tup [.tup [.str "end", .int 0]], .tup [.tup [.str "nope"], .tup [.str "end"]], .tup (List.replicate 24 (.tup [.str "set", .int 0, .int 1]) ++ [.tup [.str "end"]]), .tup [.tup [.str "zero", .int 0, .int 2], .tup [.str "end"]], .str "end", .non, .tup [.tup []], .tup [.tup [.str "copy", .int 0], .tup [.str "end"]], .tup [.tup [.str "end"], .tup [.str "copy", .int 0, .int 1]], .tup [.tup [.str "jump", .int (-1)]]]
theorem isA_rep {C : Addr} {H : Hp} {x : V} {e : D} (n : Nat) (i : Is C H x e) : IsA C H (List.replicate n x) (List.replicate n e) := by
  induction n with
  | zero => exact .nil
  | succ n ih => rw [List.replicate_succ, List.replicate_succ]; exact .cons i ih
theorem is_cat {C : Addr} {H : Hp} {a b p : Addr} {xs ys : List V} {ds es : List D} (i : Is C H (.ref a) (.tup ds)) (j : Is C H (.ref b) (.tup es)) (ea : H a = some (.tup xs)) (eb : H b = some (.tup ys)) (ep : H p = some (.tup (xs ++ ys))) : Is C H (.ref p) (.tup (ds ++ es)) := by
  cases i with
  | tup h1 t1 => cases j with
    | tup h2 t2 =>
      rw [ea] at h1; rw [eb] at h2
      cases h1; cases h2
      exact .tup ep (t1.app t2)
section
variable {P : Program} {w : World} {K : PySem.W.Frag} {mg : Str → Option Value} {base : Heap} {f : Addr} {fd : FuncData} {C : Addr}
abbrev s__law_program : Stmt := top 58
theorem sc__law_program : FnScope ["draws", "rows"] ["draws"] (C8.fnScope s__law_program) := C8.fnScope_by (by decide +kernel)
theorem ok__law_program (F : C8.Def K mg "_law_program" s__law_program f fd) (b : Binds K fd ["draws"] []) (T : Txt K mg w C) (c__law_pick : C8.Cal P w K mg base 2 "_law_pick" spPick []) : C8.Cal P w K mg base 3 "_law_program" (spOne C (· ∈ progsD)) [] := by
  refine C8.cal0 F b .nil sc__law_program (fun vs H Q E h => ?_) (fun cdv A outer s H vs Q E hr h => ?_)
  · obtain ⟨d, c, rfl, _⟩ := h; rfl
  obtain ⟨d, c, rfl, hD, q⟩ := h
  refine ⟨_, (pss_cons (ps_set (i := 1) sc__law_program.nd rfl (Or.inl rfl) (pe_lst (pa_cons (pe_tup (pa_cons (pe_tup (pa_cons pe_str pa_nil)) pa_nil)) (pa_cons (pe_tup (pa_cons (pe_tup (pa_cons pe_str (pa_cons pe_int (pa_cons pe_int pa_nil)))) (pa_cons (pe_tup (pa_cons pe_str (pa_cons pe_int pa_nil))) pa_nil))) (pa_cons (pe_tup (pa_cons (pe_tup (pa_cons pe_str (pa_cons pe_int (pa_cons pe_int (pa_cons pe_int pa_nil))))) (pa_cons (pe_tup (pa_cons pe_str (pa_cons pe_int (pa_cons pe_int (pa_cons pe_int pa_nil))))) (pa_cons (pe_tup (pa_cons pe_str (pa_cons pe_int (pa_cons pe_int pa_nil)))) (pa_cons (pe_tup (pa_cons pe_str pa_nil)) pa_nil))))) pa_nil)))))
      (pss_cons (ps_set (i := 1) sc__law_program.nd rfl (Or.inl rfl) (pe_op op_cat (pv 1) (pe_lst (pa_cons (pe_tup (pa_cons (pe_tup (pa_cons pe_str (pa_cons pe_int (pa_cons pe_int pa_nil)))) (pa_cons (pe_tup (pa_cons pe_str (pa_cons pe_int (pa_cons pe_int pa_nil)))) (pa_cons (pe_tup (pa_cons pe_str pa_nil)) pa_nil)))) (pa_cons (pe_op op_catA (pe_op op_repT (pe_tup (pa_cons (pe_tup (pa_cons pe_str (pa_cons pe_int (pa_cons (pe_un un_neg pe_int) pa_nil)))) pa_nil)) pe_int) (pe_tup (pa_cons (pe_tup (pa_cons pe_str pa_nil)) pa_nil))) (pa_cons (pe_tup (pa_cons (pe_tup (pa_cons pe_str (pa_cons pe_int pa_nil))) pa_nil)) pa_nil))))))
      (pss_cons (ps_expr (pe_bm PySem.F.plainAttrs_list PySem.F.slot_list_append PySem.F.type_list_append mt_append (pv 1) (pa_cons (pe_tup (pa_cons (pe_tup (pa_cons pe_str (pa_cons pe_int (pa_cons pe_int (pa_cons pe_int pa_nil))))) (pa_cons (pe_tup (pa_cons pe_str (pa_cons pe_int (pa_cons pe_int (pa_cons pe_int pa_nil))))) (pa_cons (pe_tup (pa_cons pe_str (pa_cons pe_int (pa_cons pe_int (pa_cons pe_int pa_nil))))) (pa_cons (pe_tup (pa_cons pe_str (pa_cons pe_int (pa_cons pe_int pa_nil)))) (pa_cons (pe_tup (pa_cons pe_str (pa_cons pe_int (pa_cons pe_int pa_nil)))) (pa_cons (pe_tup (pa_cons pe_str (pa_cons pe_int pa_nil))) pa_nil))))))) pa_nil)))
      (pss_one (ps_ret (C8.pe_c c__law_pick hr (by first | decide | omega) rfl (pa_cons (pv 0) (pa_cons (pv 1) pa_nil)))))))), ?_⟩
  have st := Same.refl H
  refine ⟨(by show 1 ≤ sizeLine; decide), fun u1 h_u1 => ?_⟩
  have m_u1 := same_new (o := .tup [.str "end"]) h_u1
  have st := st.trans m_u1
  have e_u1 : (upd H u1 (.tup [.str "end"])) u1 = some (.tup [.str "end"]) := upd_same
  have i_u1 : Is C (upd H u1 (.tup [.str "end"])) (.ref u1) (.tup [.str "end"]) := .tup e_u1 (.cons (.str _) .nil)
  generalize upd H u1 (.tup [.str "end"]) = G1 at *
  refine ⟨(by show 1 ≤ sizeLine; decide), fun u2 h_u2 => ?_⟩
  have m_u2 := same_new (o := .tup [.ref u1]) h_u2
  have st := st.trans m_u2
  have e_u2 : (upd G1 u2 (.tup [.ref u1])) u2 = some (.tup [.ref u1]) := upd_same
  have i_u2 : Is C (upd G1 u2 (.tup [.ref u1])) (.ref u2) (.tup [.tup [.str "end"]]) := .tup e_u2 (.cons (i_u1.same m_u2) .nil)
  clear i_u1
  generalize upd G1 u2 (.tup [.ref u1]) = G2 at *
  refine ⟨(by show 3 ≤ sizeLine; decide), fun u3 h_u3 => ?_⟩
  have m_u3 := same_new (o := .tup [.str "set", .int 0, .int 5]) h_u3
  have st := st.trans m_u3
  have e_u3 : (upd G2 u3 (.tup [.str "set", .int 0, .int 5])) u3 = some (.tup [.str "set", .int 0, .int 5]) := upd_same
  have i_u3 : Is C (upd G2 u3 (.tup [.str "set", .int 0, .int 5])) (.ref u3) (.tup [.str "set", .int 0, .int 5]) := .tup e_u3 (.cons (.str _) (.cons (.int _) (.cons (.int _) .nil)))
  have i_u2 := i_u2.same m_u3
  generalize upd G2 u3 (.tup [.str "set", .int 0, .int 5]) = G3 at *
  refine ⟨(by show 2 ≤ sizeLine; decide), fun u4 h_u4 => ?_⟩
  have m_u4 := same_new (o := .tup [.str "jump", .int 0]) h_u4
  have st := st.trans m_u4
  have e_u4 : (upd G3 u4 (.tup [.str "jump", .int 0])) u4 = some (.tup [.str "jump", .int 0]) := upd_same
  have i_u4 : Is C (upd G3 u4 (.tup [.str "jump", .int 0])) (.ref u4) (.tup [.str "jump", .int 0]) := .tup e_u4 (.cons (.str _) (.cons (.int _) .nil))
  have i_u2 := i_u2.same m_u4
  have i_u3 := i_u3.same m_u4
  generalize upd G3 u4 (.tup [.str "jump", .int 0]) = G4 at *
  refine ⟨(by show 2 ≤ sizeLine; decide), fun u5 h_u5 => ?_⟩
  have m_u5 := same_new (o := .tup [.ref u3, .ref u4]) h_u5
  have st := st.trans m_u5
  have e_u5 : (upd G4 u5 (.tup [.ref u3, .ref u4])) u5 = some (.tup [.ref u3, .ref u4]) := upd_same
  have i_u5 : Is C (upd G4 u5 (.tup [.ref u3, .ref u4])) (.ref u5) (.tup [.tup [.str "set", .int 0, .int 5], .tup [.str "jump", .int 0]]) := .tup e_u5 (.cons (i_u3.same m_u5) (.cons (i_u4.same m_u5) .nil))
  clear i_u3
  clear i_u4
  have i_u2 := i_u2.same m_u5
  generalize upd G4 u5 (.tup [.ref u3, .ref u4]) = G5 at *
  refine ⟨(by show 4 ≤ sizeLine; decide), fun u6 h_u6 => ?_⟩
  have m_u6 := same_new (o := .tup [.str "load", .int 1, .int 0, .int 2]) h_u6
  have st := st.trans m_u6
  have e_u6 : (upd G5 u6 (.tup [.str "load", .int 1, .int 0, .int 2])) u6 = some (.tup [.str "load", .int 1, .int 0, .int 2]) := upd_same
  have i_u6 : Is C (upd G5 u6 (.tup [.str "load", .int 1, .int 0, .int 2])) (.ref u6) (.tup [.str "load", .int 1, .int 0, .int 2]) := .tup e_u6 (.cons (.str _) (.cons (.int _) (.cons (.int _) (.cons (.int _) .nil))))
  have i_u2 := i_u2.same m_u6
  have i_u5 := i_u5.same m_u6
  generalize upd G5 u6 (.tup [.str "load", .int 1, .int 0, .int 2]) = G6 at *
  refine ⟨(by show 4 ≤ sizeLine; decide), fun u7 h_u7 => ?_⟩
  have m_u7 := same_new (o := .tup [.str "store", .int 0, .int 2, .int 1]) h_u7
  have st := st.trans m_u7
  have e_u7 : (upd G6 u7 (.tup [.str "store", .int 0, .int 2, .int 1])) u7 = some (.tup [.str "store", .int 0, .int 2, .int 1]) := upd_same
  have i_u7 : Is C (upd G6 u7 (.tup [.str "store", .int 0, .int 2, .int 1])) (.ref u7) (.tup [.str "store", .int 0, .int 2, .int 1]) := .tup e_u7 (.cons (.str _) (.cons (.int _) (.cons (.int _) (.cons (.int _) .nil))))
  have i_u2 := i_u2.same m_u7
  have i_u5 := i_u5.same m_u7
  have i_u6 := i_u6.same m_u7
  generalize upd G6 u7 (.tup [.str "store", .int 0, .int 2, .int 1]) = G7 at *
  refine ⟨(by show 3 ≤ sizeLine; decide), fun u8 h_u8 => ?_⟩
  have m_u8 := same_new (o := .tup [.str "tell", .int 3, .int 1]) h_u8
  have st := st.trans m_u8
  have e_u8 : (upd G7 u8 (.tup [.str "tell", .int 3, .int 1])) u8 = some (.tup [.str "tell", .int 3, .int 1]) := upd_same
  have i_u8 : Is C (upd G7 u8 (.tup [.str "tell", .int 3, .int 1])) (.ref u8) (.tup [.str "tell", .int 3, .int 1]) := .tup e_u8 (.cons (.str _) (.cons (.int _) (.cons (.int _) .nil)))
  have i_u2 := i_u2.same m_u8
  have i_u5 := i_u5.same m_u8
  have i_u6 := i_u6.same m_u8
  have i_u7 := i_u7.same m_u8
  generalize upd G7 u8 (.tup [.str "tell", .int 3, .int 1]) = G8 at *
  refine ⟨(by show 1 ≤ sizeLine; decide), fun u9 h_u9 => ?_⟩
  have m_u9 := same_new (o := .tup [.str "end"]) h_u9
  have st := st.trans m_u9
  have e_u9 : (upd G8 u9 (.tup [.str "end"])) u9 = some (.tup [.str "end"]) := upd_same
  have i_u9 : Is C (upd G8 u9 (.tup [.str "end"])) (.ref u9) (.tup [.str "end"]) := .tup e_u9 (.cons (.str _) .nil)
  have i_u2 := i_u2.same m_u9
  have i_u5 := i_u5.same m_u9
  have i_u6 := i_u6.same m_u9
  have i_u7 := i_u7.same m_u9
  have i_u8 := i_u8.same m_u9
  generalize upd G8 u9 (.tup [.str "end"]) = G9 at *
  refine ⟨(by show 4 ≤ sizeLine; decide), fun u10 h_u10 => ?_⟩
  have m_u10 := same_new (o := .tup [.ref u6, .ref u7, .ref u8, .ref u9]) h_u10
  have st := st.trans m_u10
  have e_u10 : (upd G9 u10 (.tup [.ref u6, .ref u7, .ref u8, .ref u9])) u10 = some (.tup [.ref u6, .ref u7, .ref u8, .ref u9]) := upd_same
  have i_u10 : Is C (upd G9 u10 (.tup [.ref u6, .ref u7, .ref u8, .ref u9])) (.ref u10) (.tup [.tup [.str "load", .int 1, .int 0, .int 2], .tup [.str "store", .int 0, .int 2, .int 1], .tup [.str "tell", .int 3, .int 1], .tup [.str "end"]]) := .tup e_u10 (.cons (i_u6.same m_u10) (.cons (i_u7.same m_u10) (.cons (i_u8.same m_u10) (.cons (i_u9.same m_u10) .nil))))
  clear i_u6
  clear i_u7
  clear i_u8
  clear i_u9
  have i_u2 := i_u2.same m_u10
  have i_u5 := i_u5.same m_u10
  generalize upd G9 u10 (.tup [.ref u6, .ref u7, .ref u8, .ref u9]) = G10 at *
  refine ⟨(by show 3 ≤ sizeLine; decide), fun r11 h_r11 => ?_⟩
  have c_r11 := ((hD.same st).off h_r11)
  have f_r11 := st.free h_r11
  have m_r11 := same_new (o := .lst [.ref u2, .ref u5, .ref u10]) h_r11
  have st := st.trans m_r11
  have e_r11 : (upd G10 r11 (.lst [.ref u2, .ref u5, .ref u10])) r11 = some (.lst [.ref u2, .ref u5, .ref u10]) := upd_same
  have i_u2 := i_u2.same m_r11
  have i_u5 := i_u5.same m_r11
  have i_u10 := i_u10.same m_r11
  generalize upd G10 r11 (.lst [.ref u2, .ref u5, .ref u10]) = G11 at *
  refine ⟨_, rfl, (by show 3 ≤ sizeLine; decide), fun u12 h_u12 => ?_⟩
  have m_u12 := same_new (o := .tup [.str "token", .int 0, .int 1]) h_u12
  have st := st.trans m_u12
  have e_u12 : (upd G11 u12 (.tup [.str "token", .int 0, .int 1])) u12 = some (.tup [.str "token", .int 0, .int 1]) := upd_same
  have i_u12 : Is C (upd G11 u12 (.tup [.str "token", .int 0, .int 1])) (.ref u12) (.tup [.str "token", .int 0, .int 1]) := .tup e_u12 (.cons (.str _) (.cons (.int _) (.cons (.int _) .nil)))
  have i_u2 := i_u2.same m_u12
  have i_u5 := i_u5.same m_u12
  have i_u10 := i_u10.same m_u12
  have e_r11 := m_u12 _ _ e_r11
  generalize upd G11 u12 (.tup [.str "token", .int 0, .int 1]) = G12 at *
  refine ⟨(by show 3 ≤ sizeLine; decide), fun u13 h_u13 => ?_⟩
  have m_u13 := same_new (o := .tup [.str "zero", .int 0, .int 0]) h_u13
  have st := st.trans m_u13
  have e_u13 : (upd G12 u13 (.tup [.str "zero", .int 0, .int 0])) u13 = some (.tup [.str "zero", .int 0, .int 0]) := upd_same
  have i_u13 : Is C (upd G12 u13 (.tup [.str "zero", .int 0, .int 0])) (.ref u13) (.tup [.str "zero", .int 0, .int 0]) := .tup e_u13 (.cons (.str _) (.cons (.int _) (.cons (.int _) .nil)))
  have i_u2 := i_u2.same m_u13
  have i_u5 := i_u5.same m_u13
  have i_u10 := i_u10.same m_u13
  have i_u12 := i_u12.same m_u13
  have e_r11 := m_u13 _ _ e_r11
  generalize upd G12 u13 (.tup [.str "zero", .int 0, .int 0]) = G13 at *
  refine ⟨(by show 1 ≤ sizeLine; decide), fun u14 h_u14 => ?_⟩
  have m_u14 := same_new (o := .tup [.str "end"]) h_u14
  have st := st.trans m_u14
  have e_u14 : (upd G13 u14 (.tup [.str "end"])) u14 = some (.tup [.str "end"]) := upd_same
  have i_u14 : Is C (upd G13 u14 (.tup [.str "end"])) (.ref u14) (.tup [.str "end"]) := .tup e_u14 (.cons (.str _) .nil)
  have i_u2 := i_u2.same m_u14
  have i_u5 := i_u5.same m_u14
  have i_u10 := i_u10.same m_u14
  have i_u12 := i_u12.same m_u14
  have i_u13 := i_u13.same m_u14
  have e_r11 := m_u14 _ _ e_r11
  generalize upd G13 u14 (.tup [.str "end"]) = G14 at *
  refine ⟨(by show 3 ≤ sizeLine; decide), fun u15 h_u15 => ?_⟩
  have m_u15 := same_new (o := .tup [.ref u12, .ref u13, .ref u14]) h_u15
  have st := st.trans m_u15
  have e_u15 : (upd G14 u15 (.tup [.ref u12, .ref u13, .ref u14])) u15 = some (.tup [.ref u12, .ref u13, .ref u14]) := upd_same
  have i_u15 : Is C (upd G14 u15 (.tup [.ref u12, .ref u13, .ref u14])) (.ref u15) (.tup [.tup [.str "token", .int 0, .int 1], .tup [.str "zero", .int 0, .int 0], .tup [.str "end"]]) := .tup e_u15 (.cons (i_u12.same m_u15) (.cons (i_u13.same m_u15) (.cons (i_u14.same m_u15) .nil)))
  clear i_u12
  clear i_u13
  clear i_u14
  have i_u2 := i_u2.same m_u15
  have i_u5 := i_u5.same m_u15
  have i_u10 := i_u10.same m_u15
  have e_r11 := m_u15 _ _ e_r11
  generalize upd G14 u15 (.tup [.ref u12, .ref u13, .ref u14]) = G15 at *
  refine ⟨_, rfl, (by show 3 ≤ sizeLine; decide), fun u16 h_u16 => ?_⟩
  have m_u16 := same_new (o := .tup [.str "set", .int 3, .int (-2147483648)]) h_u16
  have st := st.trans m_u16
  have e_u16 : (upd G15 u16 (.tup [.str "set", .int 3, .int (-2147483648)])) u16 = some (.tup [.str "set", .int 3, .int (-2147483648)]) := upd_same
  have i_u16 : Is C (upd G15 u16 (.tup [.str "set", .int 3, .int (-2147483648)])) (.ref u16) (.tup [.str "set", .int 3, .int (-2147483648)]) := .tup e_u16 (.cons (.str _) (.cons (.int _) (.cons (.int _) .nil)))
  have i_u2 := i_u2.same m_u16
  have i_u5 := i_u5.same m_u16
  have i_u10 := i_u10.same m_u16
  have i_u15 := i_u15.same m_u16
  have e_r11 := m_u16 _ _ e_r11
  generalize upd G15 u16 (.tup [.str "set", .int 3, .int (-2147483648)]) = G16 at *
  refine ⟨(by show 1 ≤ sizeLine; decide), fun u17 h_u17 => ?_⟩
  have m_u17 := same_new (o := .tup [.ref u16]) h_u17
  have st := st.trans m_u17
  have e_u17 : (upd G16 u17 (.tup [.ref u16])) u17 = some (.tup [.ref u16]) := upd_same
  have i_u17 : Is C (upd G16 u17 (.tup [.ref u16])) (.ref u17) (.tup [.tup [.str "set", .int 3, .int (-2147483648)]]) := .tup e_u17 (.cons (i_u16.same m_u17) .nil)
  have i_u2 := i_u2.same m_u17
  have i_u5 := i_u5.same m_u17
  have i_u10 := i_u10.same m_u17
  have i_u15 := i_u15.same m_u17
  have i_u16 := i_u16.same m_u17
  have e_r11 := m_u17 _ _ e_r11
  generalize upd G16 u17 (.tup [.ref u16]) = G17 at *
  refine ⟨u17, 23, [V.ref u16], rfl, rfl, SqT.of e_u17, List.cons_ne_nil _ _, by decide, by decide, (by show 1 ≤ 1000; decide), fun u18 h_u18 => ?_⟩
  have m_u18 := same_new (o := .tup (List.replicate (23 : Int).toNat [V.ref u16]).flatten) h_u18
  have st := st.trans m_u18
  have e_u18 : (upd G17 u18 (.tup (List.replicate (23 : Int).toNat [V.ref u16]).flatten)) u18 = some (.tup (List.replicate (23 : Int).toNat [V.ref u16]).flatten) := upd_same
  have e_u18 : (upd G17 u18 (.tup (List.replicate (23 : Int).toNat [V.ref u16]).flatten)) u18 = some (.tup (List.replicate 23 (V.ref u16))) := e_u18
  have i_u18 : Is C (upd G17 u18 (.tup (List.replicate (23 : Int).toNat [V.ref u16]).flatten)) (.ref u18) (.tup (List.replicate 23 (.tup [.str "set", .int 3, .int (-2147483648)]))) := .tup e_u18 (isA_rep 23 (i_u16.same m_u18))
  clear i_u17
  have i_u2 := i_u2.same m_u18
  have i_u5 := i_u5.same m_u18
  have i_u10 := i_u10.same m_u18
  have i_u15 := i_u15.same m_u18
  have i_u16 := i_u16.same m_u18
  have e_r11 := m_u18 _ _ e_r11
  have e_u17 := m_u18 _ _ e_u17
  generalize upd G17 u18 (.tup (List.replicate (23 : Int).toNat [V.ref u16]).flatten) = G18 at *
  refine ⟨(by show 1 ≤ sizeLine; decide), fun u19 h_u19 => ?_⟩
  have m_u19 := same_new (o := .tup [.str "end"]) h_u19
  have st := st.trans m_u19
  have e_u19 : (upd G18 u19 (.tup [.str "end"])) u19 = some (.tup [.str "end"]) := upd_same
  have i_u19 : Is C (upd G18 u19 (.tup [.str "end"])) (.ref u19) (.tup [.str "end"]) := .tup e_u19 (.cons (.str _) .nil)
  have i_u2 := i_u2.same m_u19
  have i_u5 := i_u5.same m_u19
  have i_u10 := i_u10.same m_u19
  have i_u15 := i_u15.same m_u19
  have i_u16 := i_u16.same m_u19
  have i_u18 := i_u18.same m_u19
  have e_r11 := m_u19 _ _ e_r11
  have e_u18 := m_u19 _ _ e_u18
  generalize upd G18 u19 (.tup [.str "end"]) = G19 at *
  refine ⟨(by show 1 ≤ sizeLine; decide), fun u20 h_u20 => ?_⟩
  have m_u20 := same_new (o := .tup [.ref u19]) h_u20
  have st := st.trans m_u20
  have e_u20 : (upd G19 u20 (.tup [.ref u19])) u20 = some (.tup [.ref u19]) := upd_same
  have i_u20 : Is C (upd G19 u20 (.tup [.ref u19])) (.ref u20) (.tup [.tup [.str "end"]]) := .tup e_u20 (.cons (i_u19.same m_u20) .nil)
  have i_u2 := i_u2.same m_u20
  have i_u5 := i_u5.same m_u20
  have i_u10 := i_u10.same m_u20
  have i_u15 := i_u15.same m_u20
  have i_u16 := i_u16.same m_u20
  have i_u18 := i_u18.same m_u20
  have i_u19 := i_u19.same m_u20
  have e_r11 := m_u20 _ _ e_r11
  have e_u18 := m_u20 _ _ e_u18
  generalize upd G19 u20 (.tup [.ref u19]) = G20 at *
  refine cat_go e_u18 e_u20 (by show (List.replicate 23 _).length + 1 ≤ sizeLine; rw [List.length_replicate]; decide) fun G21 u21 z_u21 e_u21 => ?_
  have st := st.trans z_u21
  have m_u21 := z_u21
  have i_u21 : Is C G21 (.ref u21) (.tup (List.replicate 23 (.tup [.str "set", .int 3, .int (-2147483648)]) ++ [.tup [.str "end"]])) := is_cat (i_u18.same m_u21) (i_u20.same m_u21) (m_u21 _ _ e_u18) (m_u21 _ _ e_u20) e_u21
  clear i_u18
  clear i_u20
  clear i_u16
  clear i_u19
  have i_u2 := i_u2.same m_u21
  have i_u5 := i_u5.same m_u21
  have i_u10 := i_u10.same m_u21
  have i_u15 := i_u15.same m_u21
  have e_r11 := m_u21 _ _ e_r11
  refine ⟨(by show 2 ≤ sizeLine; decide), fun u22 h_u22 => ?_⟩
  have m_u22 := same_new (o := .tup [.str "jump", .int 0]) h_u22
  have st := st.trans m_u22
  have e_u22 : (upd G21 u22 (.tup [.str "jump", .int 0])) u22 = some (.tup [.str "jump", .int 0]) := upd_same
  have i_u22 : Is C (upd G21 u22 (.tup [.str "jump", .int 0])) (.ref u22) (.tup [.str "jump", .int 0]) := .tup e_u22 (.cons (.str _) (.cons (.int _) .nil))
  have i_u2 := i_u2.same m_u22
  have i_u5 := i_u5.same m_u22
  have i_u10 := i_u10.same m_u22
  have i_u15 := i_u15.same m_u22
  have i_u21 := i_u21.same m_u22
  have e_r11 := m_u22 _ _ e_r11
  generalize upd G21 u22 (.tup [.str "jump", .int 0]) = G22 at *
  refine ⟨(by show 1 ≤ sizeLine; decide), fun u23 h_u23 => ?_⟩
  have m_u23 := same_new (o := .tup [.ref u22]) h_u23
  have st := st.trans m_u23
  have e_u23 : (upd G22 u23 (.tup [.ref u22])) u23 = some (.tup [.ref u22]) := upd_same
  have i_u23 : Is C (upd G22 u23 (.tup [.ref u22])) (.ref u23) (.tup [.tup [.str "jump", .int 0]]) := .tup e_u23 (.cons (i_u22.same m_u23) .nil)
  clear i_u22
  have i_u2 := i_u2.same m_u23
  have i_u5 := i_u5.same m_u23
  have i_u10 := i_u10.same m_u23
  have i_u15 := i_u15.same m_u23
  have i_u21 := i_u21.same m_u23
  have e_r11 := m_u23 _ _ e_r11
  generalize upd G22 u23 (.tup [.ref u22]) = G23 at *
  refine ⟨(by show 3 ≤ sizeLine; decide), fun r24 h_r24 => ?_⟩
  have c_r24 := ((hD.same st).off h_r24)
  have f_r24 := st.free h_r24
  have m_r24 := same_new (o := .lst [.ref u15, .ref u21, .ref u23]) h_r24
  have st := st.trans m_r24
  have e_r24 : (upd G23 r24 (.lst [.ref u15, .ref u21, .ref u23])) r24 = some (.lst [.ref u15, .ref u21, .ref u23]) := upd_same
  have i_u2 := i_u2.same m_r24
  have i_u5 := i_u5.same m_r24
  have i_u10 := i_u10.same m_r24
  have i_u15 := i_u15.same m_r24
  have i_u21 := i_u21.same m_r24
  have i_u23 := i_u23.same m_r24
  have e_r11 := m_r24 _ _ e_r11
  generalize upd G23 r24 (.lst [.ref u15, .ref u21, .ref u23]) = G24 at *
  refine ⟨r11, r24, _, _, rfl, rfl, e_r11, e_r24, (by show 6 ≤ sizeLine; decide), fun q25 h_q25 => ?_⟩
  have c_q25 := ((hD.same st).off h_q25)
  have f_q25 := st.free h_q25
  have m_q25 := same_new (o := .lst ([.ref u2, .ref u5, .ref u10] ++ [.ref u15, .ref u21, .ref u23])) h_q25
  have st := st.trans m_q25
  have e_q25 : (upd G24 q25 (.lst ([.ref u2, .ref u5, .ref u10] ++ [.ref u15, .ref u21, .ref u23]))) q25 = some (.lst ([.ref u2, .ref u5, .ref u10] ++ [.ref u15, .ref u21, .ref u23])) := upd_same
  have i_u2 := i_u2.same m_q25
  have i_u5 := i_u5.same m_q25
  have i_u10 := i_u10.same m_q25
  have i_u15 := i_u15.same m_q25
  have i_u21 := i_u21.same m_q25
  have i_u23 := i_u23.same m_q25
  generalize upd G24 q25 (.lst ([.ref u2, .ref u5, .ref u10] ++ [.ref u15, .ref u21, .ref u23])) = G25 at *
  have e_q25 : G25 q25 = some (.lst [.ref u2, .ref u5, .ref u10, .ref u15, .ref u21, .ref u23]) := e_q25
  refine ⟨_, rfl, .inl ⟨rfl, _, SqL.of e_q25⟩, ?_⟩
  refine ⟨(by show 4 ≤ sizeLine; decide), fun u26 h_u26 => ?_⟩
  have m_u26 := same_new (o := .tup [.str "add", .int 0, .int 1, .int 2]) h_u26
  have st := st.trans m_u26
  have e_u26 : (upd G25 u26 (.tup [.str "add", .int 0, .int 1, .int 2])) u26 = some (.tup [.str "add", .int 0, .int 1, .int 2]) := upd_same
  have i_u26 : Is C (upd G25 u26 (.tup [.str "add", .int 0, .int 1, .int 2])) (.ref u26) (.tup [.str "add", .int 0, .int 1, .int 2]) := .tup e_u26 (.cons (.str _) (.cons (.int _) (.cons (.int _) (.cons (.int _) .nil))))
  have i_u2 := i_u2.same m_u26
  have i_u5 := i_u5.same m_u26
  have i_u10 := i_u10.same m_u26
  have i_u15 := i_u15.same m_u26
  have i_u21 := i_u21.same m_u26
  have i_u23 := i_u23.same m_u26
  have e_q25 := m_u26 _ _ e_q25
  generalize upd G25 u26 (.tup [.str "add", .int 0, .int 1, .int 2]) = G26 at *
  refine ⟨(by show 4 ≤ sizeLine; decide), fun u27 h_u27 => ?_⟩
  have m_u27 := same_new (o := .tup [.str "less", .int 1, .int 2, .int 3]) h_u27
  have st := st.trans m_u27
  have e_u27 : (upd G26 u27 (.tup [.str "less", .int 1, .int 2, .int 3])) u27 = some (.tup [.str "less", .int 1, .int 2, .int 3]) := upd_same
  have i_u27 : Is C (upd G26 u27 (.tup [.str "less", .int 1, .int 2, .int 3])) (.ref u27) (.tup [.str "less", .int 1, .int 2, .int 3]) := .tup e_u27 (.cons (.str _) (.cons (.int _) (.cons (.int _) (.cons (.int _) .nil))))
  have i_u2 := i_u2.same m_u27
  have i_u5 := i_u5.same m_u27
  have i_u10 := i_u10.same m_u27
  have i_u15 := i_u15.same m_u27
  have i_u21 := i_u21.same m_u27
  have i_u23 := i_u23.same m_u27
  have i_u26 := i_u26.same m_u27
  have e_q25 := m_u27 _ _ e_q25
  generalize upd G26 u27 (.tup [.str "less", .int 1, .int 2, .int 3]) = G27 at *
  refine ⟨(by show 4 ≤ sizeLine; decide), fun u28 h_u28 => ?_⟩
  have m_u28 := same_new (o := .tup [.str "same", .int 3, .int 3, .int 0]) h_u28
  have st := st.trans m_u28
  have e_u28 : (upd G27 u28 (.tup [.str "same", .int 3, .int 3, .int 0])) u28 = some (.tup [.str "same", .int 3, .int 3, .int 0]) := upd_same
  have i_u28 : Is C (upd G27 u28 (.tup [.str "same", .int 3, .int 3, .int 0])) (.ref u28) (.tup [.str "same", .int 3, .int 3, .int 0]) := .tup e_u28 (.cons (.str _) (.cons (.int _) (.cons (.int _) (.cons (.int _) .nil))))
  have i_u2 := i_u2.same m_u28
  have i_u5 := i_u5.same m_u28
  have i_u10 := i_u10.same m_u28
  have i_u15 := i_u15.same m_u28
  have i_u21 := i_u21.same m_u28
  have i_u23 := i_u23.same m_u28
  have i_u26 := i_u26.same m_u28
  have i_u27 := i_u27.same m_u28
  have e_q25 := m_u28 _ _ e_q25
  generalize upd G27 u28 (.tup [.str "same", .int 3, .int 3, .int 0]) = G28 at *
  refine ⟨(by show 3 ≤ sizeLine; decide), fun u29 h_u29 => ?_⟩
  have m_u29 := same_new (o := .tup [.str "copy", .int 1, .int 0]) h_u29
  have st := st.trans m_u29
  have e_u29 : (upd G28 u29 (.tup [.str "copy", .int 1, .int 0])) u29 = some (.tup [.str "copy", .int 1, .int 0]) := upd_same
  have i_u29 : Is C (upd G28 u29 (.tup [.str "copy", .int 1, .int 0])) (.ref u29) (.tup [.str "copy", .int 1, .int 0]) := .tup e_u29 (.cons (.str _) (.cons (.int _) (.cons (.int _) .nil)))
  have i_u2 := i_u2.same m_u29
  have i_u5 := i_u5.same m_u29
  have i_u10 := i_u10.same m_u29
  have i_u15 := i_u15.same m_u29
  have i_u21 := i_u21.same m_u29
  have i_u23 := i_u23.same m_u29
  have i_u26 := i_u26.same m_u29
  have i_u27 := i_u27.same m_u29
  have i_u28 := i_u28.same m_u29
  have e_q25 := m_u29 _ _ e_q25
  generalize upd G28 u29 (.tup [.str "copy", .int 1, .int 0]) = G29 at *
  refine ⟨(by show 3 ≤ sizeLine; decide), fun u30 h_u30 => ?_⟩
  have m_u30 := same_new (o := .tup [.str "zero", .int 2, .int 5]) h_u30
  have st := st.trans m_u30
  have e_u30 : (upd G29 u30 (.tup [.str "zero", .int 2, .int 5])) u30 = some (.tup [.str "zero", .int 2, .int 5]) := upd_same
  have i_u30 : Is C (upd G29 u30 (.tup [.str "zero", .int 2, .int 5])) (.ref u30) (.tup [.str "zero", .int 2, .int 5]) := .tup e_u30 (.cons (.str _) (.cons (.int _) (.cons (.int _) .nil)))
  have i_u2 := i_u2.same m_u30
  have i_u5 := i_u5.same m_u30
  have i_u10 := i_u10.same m_u30
  have i_u15 := i_u15.same m_u30
  have i_u21 := i_u21.same m_u30
  have i_u23 := i_u23.same m_u30
  have i_u26 := i_u26.same m_u30
  have i_u27 := i_u27.same m_u30
  have i_u28 := i_u28.same m_u30
  have i_u29 := i_u29.same m_u30
  have e_q25 := m_u30 _ _ e_q25
  generalize upd G29 u30 (.tup [.str "zero", .int 2, .int 5]) = G30 at *
  refine ⟨(by show 2 ≤ sizeLine; decide), fun u31 h_u31 => ?_⟩
  have m_u31 := same_new (o := .tup [.str "jump", .int 4]) h_u31
  have st := st.trans m_u31
  have e_u31 : (upd G30 u31 (.tup [.str "jump", .int 4])) u31 = some (.tup [.str "jump", .int 4]) := upd_same
  have i_u31 : Is C (upd G30 u31 (.tup [.str "jump", .int 4])) (.ref u31) (.tup [.str "jump", .int 4]) := .tup e_u31 (.cons (.str _) (.cons (.int _) .nil))
  have i_u2 := i_u2.same m_u31
  have i_u5 := i_u5.same m_u31
  have i_u10 := i_u10.same m_u31
  have i_u15 := i_u15.same m_u31
  have i_u21 := i_u21.same m_u31
  have i_u23 := i_u23.same m_u31
  have i_u26 := i_u26.same m_u31
  have i_u27 := i_u27.same m_u31
  have i_u28 := i_u28.same m_u31
  have i_u29 := i_u29.same m_u31
  have i_u30 := i_u30.same m_u31
  have e_q25 := m_u31 _ _ e_q25
  generalize upd G30 u31 (.tup [.str "jump", .int 4]) = G31 at *
  refine ⟨(by show 6 ≤ sizeLine; decide), fun u32 h_u32 => ?_⟩
  have m_u32 := same_new (o := .tup [.ref u26, .ref u27, .ref u28, .ref u29, .ref u30, .ref u31]) h_u32
  have st := st.trans m_u32
  have e_u32 : (upd G31 u32 (.tup [.ref u26, .ref u27, .ref u28, .ref u29, .ref u30, .ref u31])) u32 = some (.tup [.ref u26, .ref u27, .ref u28, .ref u29, .ref u30, .ref u31]) := upd_same
  have i_u32 : Is C (upd G31 u32 (.tup [.ref u26, .ref u27, .ref u28, .ref u29, .ref u30, .ref u31])) (.ref u32) (.tup [.tup [.str "add", .int 0, .int 1, .int 2], .tup [.str "less", .int 1, .int 2, .int 3], .tup [.str "same", .int 3, .int 3, .int 0], .tup [.str "copy", .int 1, .int 0], .tup [.str "zero", .int 2, .int 5], .tup [.str "jump", .int 4]]) := .tup e_u32 (.cons (i_u26.same m_u32) (.cons (i_u27.same m_u32) (.cons (i_u28.same m_u32) (.cons (i_u29.same m_u32) (.cons (i_u30.same m_u32) (.cons (i_u31.same m_u32) .nil))))))
  clear i_u26
  clear i_u27
  clear i_u28
  clear i_u29
  clear i_u30
  clear i_u31
  have i_u2 := i_u2.same m_u32
  have i_u5 := i_u5.same m_u32
  have i_u10 := i_u10.same m_u32
  have i_u15 := i_u15.same m_u32
  have i_u21 := i_u21.same m_u32
  have i_u23 := i_u23.same m_u32
  have e_q25 := m_u32 _ _ e_q25
  generalize upd G31 u32 (.tup [.ref u26, .ref u27, .ref u28, .ref u29, .ref u30, .ref u31]) = G32 at *
  refine ⟨q25, _, _, rfl, rfl, e_q25, small1000 (by show 6 ≤ 1000; decide), ?_⟩
  have kk := Keep.lst (C := C) (ys := [.ref u2, .ref u5, .ref u10, .ref u15, .ref u21, .ref u23] ++ [.ref u32]) e_q25
  have i_u2 := Is.keep kk (by decide +kernel) i_u2
  have i_u5 := Is.keep kk (by decide +kernel) i_u5
  have i_u10 := Is.keep kk (by decide +kernel) i_u10
  have i_u15 := Is.keep kk (by decide +kernel) i_u15
  have i_u21 := Is.keep kk (by decide +kernel) i_u21
  have i_u23 := Is.keep kk (by decide +kernel) i_u23
  have i_u32 := Is.keep kk (by decide +kernel) i_u32
  have e_q25 : (upd G32 q25 (.lst ([.ref u2, .ref u5, .ref u10, .ref u15, .ref u21, .ref u23] ++ [.ref u32]))) q25 = some (.lst [.ref u2, .ref u5, .ref u10, .ref u15, .ref u21, .ref u23, .ref u32]) := upd_same
  have st := same_put (o := .lst ([.ref u2, .ref u5, .ref u10, .ref u15, .ref u21, .ref u23] ++ [.ref u32])) st f_q25
  generalize upd G32 q25 (.lst ([.ref u2, .ref u5, .ref u10, .ref u15, .ref u21, .ref u23] ++ [.ref u32])) = G33 at *
  have ia : IsA C G33 [.ref u2, .ref u5, .ref u10, .ref u15, .ref u21, .ref u23, .ref u32] progsD := (.cons i_u2 (.cons i_u5 (.cons i_u10 (.cons i_u15 (.cons i_u21 (.cons i_u23 (.cons i_u32 .nil)))))))
  refine ⟨_, rfl, _, rfl, d, c, q25, _, rfl, hD.same st, e_q25, c_q25.2, by show 0 < 7; decide, by show 7 < 1000000; decide, fun H' i x hD' b' hx => ?_⟩
  obtain ⟨e, he, ie⟩ := isA_mem ia (List.mem_of_getElem? hx)
  exact q H' x e hD' ((Bu2.of st).trans b') ((Is.nw (LDk.of st) (clnL_iff.mp (by decide +kernel : clnL progsD = true) e he) ie).same (nw_bu hD b')) he
abbrev s__law_no_program : Stmt := top 59
theorem sc__law_no_program : FnScope ["draws", "rows"] ["draws"] (C8.fnScope s__law_no_program) := C8.fnScope_by (by decide +kernel)
theorem ok__law_no_program (F : C8.Def K mg "_law_no_program" s__law_no_program f fd) (b : Binds K fd ["draws"] []) (T : Txt K mg w C) (c__law_pick : C8.Cal P w K mg base 2 "_law_pick" spPick []) : C8.Cal P w K mg base 3 "_law_no_program" (spOne C (· ∈ noProgD)) [] := by
  refine C8.cal0 F b .nil sc__law_no_program (fun vs H Q E h => ?_) (fun cdv A outer s H vs Q E hr h => ?_)
  · obtain ⟨d, c, rfl, _⟩ := h; rfl
  obtain ⟨d, c, rfl, hD, q⟩ := h
  refine ⟨_, (pss_cons (ps_set (i := 1) sc__law_no_program.nd rfl (Or.inl rfl) (pe_lst (pa_cons (pe_tup pa_nil) (pa_cons (pe_tup (pa_cons (pe_tup (pa_cons pe_str (pa_cons pe_int (pa_cons pe_int pa_nil)))) pa_nil)) (pa_cons (pe_tup (pa_cons (pe_tup (pa_cons pe_str (pa_cons pe_int pa_nil))) pa_nil)) (pa_cons (pe_tup (pa_cons (pe_tup (pa_cons pe_str (pa_cons pe_int (pa_cons pe_int pa_nil)))) (pa_cons (pe_tup (pa_cons pe_str pa_nil)) pa_nil))) (pa_cons (pe_tup (pa_cons (pe_tup (pa_cons pe_str (pa_cons pe_int (pa_cons pe_int pa_nil)))) (pa_cons (pe_tup (pa_cons pe_str pa_nil)) pa_nil))) (pa_cons (pe_lst (pa_cons (pe_tup (pa_cons pe_str pa_nil)) pa_nil)) pa_nil))))))))
      (pss_cons (ps_set (i := 1) sc__law_no_program.nd rfl (Or.inl rfl) (pe_op op_cat (pv 1) (pe_lst (pa_cons (pe_tup (pa_cons (pe_tup (pa_cons pe_str (pa_cons pe_int (pa_cons pe_bl pa_nil)))) (pa_cons (pe_tup (pa_cons pe_str pa_nil)) pa_nil))) (pa_cons (pe_tup (pa_cons (pe_lst (pa_cons pe_str pa_nil)) pa_nil)) (pa_cons (pe_tup (pa_cons (pe_tup (pa_cons pe_str (pa_cons pe_int pa_nil))) pa_nil)) (pa_cons (pe_tup (pa_cons (pe_tup (pa_cons pe_str pa_nil)) (pa_cons (pe_tup (pa_cons pe_str pa_nil)) pa_nil))) (pa_cons (pe_op op_catA (pe_op op_repT (pe_tup (pa_cons (pe_tup (pa_cons pe_str (pa_cons pe_int (pa_cons pe_int pa_nil)))) pa_nil)) pe_int) (pe_tup (pa_cons (pe_tup (pa_cons pe_str pa_nil)) pa_nil))) pa_nil))))))))
      (pss_cons (ps_set (i := 1) sc__law_no_program.nd rfl (Or.inl rfl) (pe_op op_cat (pv 1) (pe_lst (pa_cons (pe_tup (pa_cons (pe_tup (pa_cons pe_str (pa_cons pe_int (pa_cons pe_int pa_nil)))) (pa_cons (pe_tup (pa_cons pe_str pa_nil)) pa_nil))) (pa_cons pe_str (pa_cons pe_non (pa_cons (pe_tup (pa_cons (pe_tup pa_nil) pa_nil)) (pa_cons (pe_tup (pa_cons (pe_tup (pa_cons pe_str (pa_cons pe_int pa_nil))) (pa_cons (pe_tup (pa_cons pe_str pa_nil)) pa_nil))) (pa_cons (pe_tup (pa_cons (pe_tup (pa_cons pe_str pa_nil)) (pa_cons (pe_tup (pa_cons pe_str (pa_cons pe_int (pa_cons pe_int pa_nil)))) pa_nil))) (pa_cons (pe_tup (pa_cons (pe_tup (pa_cons pe_str (pa_cons (pe_un un_neg pe_int) pa_nil))) pa_nil)) pa_nil))))))))))
      (pss_one (ps_ret (C8.pe_c c__law_pick hr (by first | decide | omega) rfl (pa_cons (pv 0) (pa_cons (pv 1) pa_nil)))))))), ?_⟩
  have st := Same.refl H
  refine ⟨(by show 0 ≤ sizeLine; decide), fun u33 h_u33 => ?_⟩
  obtain ⟨st, e_u33, m_u33⟩ := newF (o := .tup []) hD st h_u33
  have i_u33 : Is C (nw H (upd H u33 (.tup []))) (.ref u33) (.tup []) := .tup e_u33 .nil
  generalize upd H u33 (.tup []) = G1 at *
  refine ⟨(by show 3 ≤ sizeLine; decide), fun u34 h_u34 => ?_⟩
  obtain ⟨st, e_u34, m_u34⟩ := newF (o := .tup [.str "set", .int 0, .int 5]) hD st h_u34
  have i_u34 : Is C (nw H (upd G1 u34 (.tup [.str "set", .int 0, .int 5]))) (.ref u34) (.tup [.str "set", .int 0, .int 5]) := .tup e_u34 (.cons (.str _) (.cons (.int _) (.cons (.int _) .nil)))
  have i_u33 := i_u33.same m_u34
  generalize upd G1 u34 (.tup [.str "set", .int 0, .int 5]) = G2 at *
  refine ⟨(by show 1 ≤ sizeLine; decide), fun u35 h_u35 => ?_⟩
  obtain ⟨st, e_u35, m_u35⟩ := newF (o := .tup [.ref u34]) hD st h_u35
  have i_u35 : Is C (nw H (upd G2 u35 (.tup [.ref u34]))) (.ref u35) (.tup [.tup [.str "set", .int 0, .int 5]]) := .tup e_u35 (.cons (i_u34.same m_u35) .nil)
  clear i_u34
  have i_u33 := i_u33.same m_u35
  generalize upd G2 u35 (.tup [.ref u34]) = G3 at *
  refine ⟨(by show 2 ≤ sizeLine; decide), fun u36 h_u36 => ?_⟩
  obtain ⟨st, e_u36, m_u36⟩ := newF (o := .tup [.str "jump", .int 1]) hD st h_u36
  have i_u36 : Is C (nw H (upd G3 u36 (.tup [.str "jump", .int 1]))) (.ref u36) (.tup [.str "jump", .int 1]) := .tup e_u36 (.cons (.str _) (.cons (.int _) .nil))
  have i_u33 := i_u33.same m_u36
  have i_u35 := i_u35.same m_u36
  generalize upd G3 u36 (.tup [.str "jump", .int 1]) = G4 at *
  refine ⟨(by show 1 ≤ sizeLine; decide), fun u37 h_u37 => ?_⟩
  obtain ⟨st, e_u37, m_u37⟩ := newF (o := .tup [.ref u36]) hD st h_u37
  have i_u37 : Is C (nw H (upd G4 u37 (.tup [.ref u36]))) (.ref u37) (.tup [.tup [.str "jump", .int 1]]) := .tup e_u37 (.cons (i_u36.same m_u37) .nil)
  clear i_u36
  have i_u33 := i_u33.same m_u37
  have i_u35 := i_u35.same m_u37
  generalize upd G4 u37 (.tup [.ref u36]) = G5 at *
  refine ⟨(by show 3 ≤ sizeLine; decide), fun u38 h_u38 => ?_⟩
  obtain ⟨st, e_u38, m_u38⟩ := newF (o := .tup [.str "set", .int 4, .int 0]) hD st h_u38
  have i_u38 : Is C (nw H (upd G5 u38 (.tup [.str "set", .int 4, .int 0]))) (.ref u38) (.tup [.str "set", .int 4, .int 0]) := .tup e_u38 (.cons (.str _) (.cons (.int _) (.cons (.int _) .nil)))
  have i_u33 := i_u33.same m_u38
  have i_u35 := i_u35.same m_u38
  have i_u37 := i_u37.same m_u38
  generalize upd G5 u38 (.tup [.str "set", .int 4, .int 0]) = G6 at *
  refine ⟨(by show 1 ≤ sizeLine; decide), fun u39 h_u39 => ?_⟩
  obtain ⟨st, e_u39, m_u39⟩ := newF (o := .tup [.str "end"]) hD st h_u39
  have i_u39 : Is C (nw H (upd G6 u39 (.tup [.str "end"]))) (.ref u39) (.tup [.str "end"]) := .tup e_u39 (.cons (.str _) .nil)
  have i_u33 := i_u33.same m_u39
  have i_u35 := i_u35.same m_u39
  have i_u37 := i_u37.same m_u39
  have i_u38 := i_u38.same m_u39
  generalize upd G6 u39 (.tup [.str "end"]) = G7 at *
  refine ⟨(by show 2 ≤ sizeLine; decide), fun u40 h_u40 => ?_⟩
  obtain ⟨st, e_u40, m_u40⟩ := newF (o := .tup [.ref u38, .ref u39]) hD st h_u40
  have i_u40 : Is C (nw H (upd G7 u40 (.tup [.ref u38, .ref u39]))) (.ref u40) (.tup [.tup [.str "set", .int 4, .int 0], .tup [.str "end"]]) := .tup e_u40 (.cons (i_u38.same m_u40) (.cons (i_u39.same m_u40) .nil))
  clear i_u38
  clear i_u39
  have i_u33 := i_u33.same m_u40
  have i_u35 := i_u35.same m_u40
  have i_u37 := i_u37.same m_u40
  generalize upd G7 u40 (.tup [.ref u38, .ref u39]) = G8 at *
  refine ⟨(by show 3 ≤ sizeLine; decide), fun u41 h_u41 => ?_⟩
  obtain ⟨st, e_u41, m_u41⟩ := newF (o := .tup [.str "set", .int 0, .int 2147483648]) hD st h_u41
  have i_u41 : Is C (nw H (upd G8 u41 (.tup [.str "set", .int 0, .int 2147483648]))) (.ref u41) (.tup [.str "set", .int 0, .int 2147483648]) := .tup e_u41 (.cons (.str _) (.cons (.int _) (.cons (.int _) .nil)))
  have i_u33 := i_u33.same m_u41
  have i_u35 := i_u35.same m_u41
  have i_u37 := i_u37.same m_u41
  have i_u40 := i_u40.same m_u41
  generalize upd G8 u41 (.tup [.str "set", .int 0, .int 2147483648]) = G9 at *
  refine ⟨(by show 1 ≤ sizeLine; decide), fun u42 h_u42 => ?_⟩
  obtain ⟨st, e_u42, m_u42⟩ := newF (o := .tup [.str "end"]) hD st h_u42
  have i_u42 : Is C (nw H (upd G9 u42 (.tup [.str "end"]))) (.ref u42) (.tup [.str "end"]) := .tup e_u42 (.cons (.str _) .nil)
  have i_u33 := i_u33.same m_u42
  have i_u35 := i_u35.same m_u42
  have i_u37 := i_u37.same m_u42
  have i_u40 := i_u40.same m_u42
  have i_u41 := i_u41.same m_u42
  generalize upd G9 u42 (.tup [.str "end"]) = G10 at *
  refine ⟨(by show 2 ≤ sizeLine; decide), fun u43 h_u43 => ?_⟩
  obtain ⟨st, e_u43, m_u43⟩ := newF (o := .tup [.ref u41, .ref u42]) hD st h_u43
  have i_u43 : Is C (nw H (upd G10 u43 (.tup [.ref u41, .ref u42]))) (.ref u43) (.tup [.tup [.str "set", .int 0, .int 2147483648], .tup [.str "end"]]) := .tup e_u43 (.cons (i_u41.same m_u43) (.cons (i_u42.same m_u43) .nil))
  clear i_u41
  clear i_u42
  have i_u33 := i_u33.same m_u43
  have i_u35 := i_u35.same m_u43
  have i_u37 := i_u37.same m_u43
  have i_u40 := i_u40.same m_u43
  generalize upd G10 u43 (.tup [.ref u41, .ref u42]) = G11 at *
  refine ⟨(by show 1 ≤ sizeLine; decide), fun u44 h_u44 => ?_⟩
  obtain ⟨st, e_u44, m_u44⟩ := newF (o := .tup [.str "end"]) hD st h_u44
  have i_u44 : Is C (nw H (upd G11 u44 (.tup [.str "end"]))) (.ref u44) (.tup [.str "end"]) := .tup e_u44 (.cons (.str _) .nil)
  have i_u33 := i_u33.same m_u44
  have i_u35 := i_u35.same m_u44
  have i_u37 := i_u37.same m_u44
  have i_u40 := i_u40.same m_u44
  have i_u43 := i_u43.same m_u44
  generalize upd G11 u44 (.tup [.str "end"]) = G12 at *
  refine ⟨(by show 1 ≤ sizeLine; decide), fun u45 h_u45 => ?_⟩
  obtain ⟨st, e_u45, m_u45⟩ := newF (o := .lst [.ref u44]) hD st h_u45
  have i_u45 : Is C (nw H (upd G12 u45 (.lst [.ref u44]))) (.ref u45) (.lst [.tup [.str "end"]]) := .lst e_u45 (.cons (i_u44.same m_u45) .nil)
  clear i_u44
  have i_u33 := i_u33.same m_u45
  have i_u35 := i_u35.same m_u45
  have i_u37 := i_u37.same m_u45
  have i_u40 := i_u40.same m_u45
  have i_u43 := i_u43.same m_u45
  generalize upd G12 u45 (.lst [.ref u44]) = G13 at *
  refine ⟨(by show 6 ≤ sizeLine; decide), fun r46 h_r46 => ?_⟩
  have c_r46 := ((hD.same st).off h_r46)
  have f_r46 := st.free h_r46
  obtain ⟨st, e_r46, m_r46⟩ := newF (o := .lst [.ref u33, .ref u35, .ref u37, .ref u40, .ref u43, .ref u45]) hD st h_r46
  have i_u33 := i_u33.same m_r46
  have i_u35 := i_u35.same m_r46
  have i_u37 := i_u37.same m_r46
  have i_u40 := i_u40.same m_r46
  have i_u43 := i_u43.same m_r46
  have i_u45 := i_u45.same m_r46
  generalize upd G13 r46 (.lst [.ref u33, .ref u35, .ref u37, .ref u40, .ref u43, .ref u45]) = G14 at *
  refine ⟨_, rfl, (by show 3 ≤ sizeLine; decide), fun u47 h_u47 => ?_⟩
  obtain ⟨st, e_u47, m_u47⟩ := newF (o := .tup [.str "set", .int 0, .bl true]) hD st h_u47
  have i_u47 : Is C (nw H (upd G14 u47 (.tup [.str "set", .int 0, .bl true]))) (.ref u47) (.tup [.str "set", .int 0, .bl true]) := .tup e_u47 (.cons (.str _) (.cons (.int _) (.cons (.bl _) .nil)))
  have i_u33 := i_u33.same m_u47
  have i_u35 := i_u35.same m_u47
  have i_u37 := i_u37.same m_u47
  have i_u40 := i_u40.same m_u47
  have i_u43 := i_u43.same m_u47
  have i_u45 := i_u45.same m_u47
  have e_r46 := m_u47 _ _ e_r46
  generalize upd G14 u47 (.tup [.str "set", .int 0, .bl true]) = G15 at *
  refine ⟨(by show 1 ≤ sizeLine; decide), fun u48 h_u48 => ?_⟩
  obtain ⟨st, e_u48, m_u48⟩ := newF (o := .tup [.str "end"]) hD st h_u48
  have i_u48 : Is C (nw H (upd G15 u48 (.tup [.str "end"]))) (.ref u48) (.tup [.str "end"]) := .tup e_u48 (.cons (.str _) .nil)
  have i_u33 := i_u33.same m_u48
  have i_u35 := i_u35.same m_u48
  have i_u37 := i_u37.same m_u48
  have i_u40 := i_u40.same m_u48
  have i_u43 := i_u43.same m_u48
  have i_u45 := i_u45.same m_u48
  have i_u47 := i_u47.same m_u48
  have e_r46 := m_u48 _ _ e_r46
  generalize upd G15 u48 (.tup [.str "end"]) = G16 at *
  refine ⟨(by show 2 ≤ sizeLine; decide), fun u49 h_u49 => ?_⟩
  obtain ⟨st, e_u49, m_u49⟩ := newF (o := .tup [.ref u47, .ref u48]) hD st h_u49
  have i_u49 : Is C (nw H (upd G16 u49 (.tup [.ref u47, .ref u48]))) (.ref u49) (.tup [.tup [.str "set", .int 0, .bl true], .tup [.str "end"]]) := .tup e_u49 (.cons (i_u47.same m_u49) (.cons (i_u48.same m_u49) .nil))
  clear i_u47
  clear i_u48
  have i_u33 := i_u33.same m_u49
  have i_u35 := i_u35.same m_u49
  have i_u37 := i_u37.same m_u49
  have i_u40 := i_u40.same m_u49
  have i_u43 := i_u43.same m_u49
  have i_u45 := i_u45.same m_u49
  have e_r46 := m_u49 _ _ e_r46
  generalize upd G16 u49 (.tup [.ref u47, .ref u48]) = G17 at *
  refine ⟨(by show 1 ≤ sizeLine; decide), fun u50 h_u50 => ?_⟩
  obtain ⟨st, e_u50, m_u50⟩ := newF (o := .lst [.str "end"]) hD st h_u50
  have i_u50 : Is C (nw H (upd G17 u50 (.lst [.str "end"]))) (.ref u50) (.lst [.str "end"]) := .lst e_u50 (.cons (.str _) .nil)
  have i_u33 := i_u33.same m_u50
  have i_u35 := i_u35.same m_u50
  have i_u37 := i_u37.same m_u50
  have i_u40 := i_u40.same m_u50
  have i_u43 := i_u43.same m_u50
  have i_u45 := i_u45.same m_u50
  have i_u49 := i_u49.same m_u50
  have e_r46 := m_u50 _ _ e_r46
  generalize upd G17 u50 (.lst [.str "end"]) = G18 at *
  refine ⟨(by show 1 ≤ sizeLine; decide), fun u51 h_u51 => ?_⟩
  obtain ⟨st, e_u51, m_u51⟩ := newF (o := .tup [.ref u50]) hD st h_u51
  have i_u51 : Is C (nw H (upd G18 u51 (.tup [.ref u50]))) (.ref u51) (.tup [.lst [.str "end"]]) := .tup e_u51 (.cons (i_u50.same m_u51) .nil)
  clear i_u50
  have i_u33 := i_u33.same m_u51
  have i_u35 := i_u35.same m_u51
  have i_u37 := i_u37.same m_u51
  have i_u40 := i_u40.same m_u51
  have i_u43 := i_u43.same m_u51
  have i_u45 := i_u45.same m_u51
  have i_u49 := i_u49.same m_u51
  have e_r46 := m_u51 _ _ e_r46
  generalize upd G18 u51 (.tup [.ref u50]) = G19 at *
  refine ⟨(by show 2 ≤ sizeLine; decide), fun u52 h_u52 => ?_⟩
  obtain ⟨st, e_u52, m_u52⟩ := newF (o := .tup [.str "end", .int 0]) hD st h_u52
  have i_u52 : Is C (nw H (upd G19 u52 (.tup [.str "end", .int 0]))) (.ref u52) (.tup [.str "end", .int 0]) := .tup e_u52 (.cons (.str _) (.cons (.int _) .nil))
  have i_u33 := i_u33.same m_u52
  have i_u35 := i_u35.same m_u52
  have i_u37 := i_u37.same m_u52
  have i_u40 := i_u40.same m_u52
  have i_u43 := i_u43.same m_u52
  have i_u45 := i_u45.same m_u52
  have i_u49 := i_u49.same m_u52
  have i_u51 := i_u51.same m_u52
  have e_r46 := m_u52 _ _ e_r46
  generalize upd G19 u52 (.tup [.str "end", .int 0]) = G20 at *
  refine ⟨(by show 1 ≤ sizeLine; decide), fun u53 h_u53 => ?_⟩
  obtain ⟨st, e_u53, m_u53⟩ := newF (o := .tup [.ref u52]) hD st h_u53
  have i_u53 : Is C (nw H (upd G20 u53 (.tup [.ref u52]))) (.ref u53) (.tup [.tup [.str "end", .int 0]]) := .tup e_u53 (.cons (i_u52.same m_u53) .nil)
  clear i_u52
  have i_u33 := i_u33.same m_u53
  have i_u35 := i_u35.same m_u53
  have i_u37 := i_u37.same m_u53
  have i_u40 := i_u40.same m_u53
  have i_u43 := i_u43.same m_u53
  have i_u45 := i_u45.same m_u53
  have i_u49 := i_u49.same m_u53
  have i_u51 := i_u51.same m_u53
  have e_r46 := m_u53 _ _ e_r46
  generalize upd G20 u53 (.tup [.ref u52]) = G21 at *
  refine ⟨(by show 1 ≤ sizeLine; decide), fun u54 h_u54 => ?_⟩
  obtain ⟨st, e_u54, m_u54⟩ := newF (o := .tup [.str "nope"]) hD st h_u54
  have i_u54 : Is C (nw H (upd G21 u54 (.tup [.str "nope"]))) (.ref u54) (.tup [.str "nope"]) := .tup e_u54 (.cons (.str _) .nil)
  have i_u33 := i_u33.same m_u54
  have i_u35 := i_u35.same m_u54
  have i_u37 := i_u37.same m_u54
  have i_u40 := i_u40.same m_u54
  have i_u43 := i_u43.same m_u54
  have i_u45 := i_u45.same m_u54
  have i_u49 := i_u49.same m_u54
  have i_u51 := i_u51.same m_u54
  have i_u53 := i_u53.same m_u54
  have e_r46 := m_u54 _ _ e_r46
  generalize upd G21 u54 (.tup [.str "nope"]) = G22 at *
  refine ⟨(by show 1 ≤ sizeLine; decide), fun u55 h_u55 => ?_⟩
  obtain ⟨st, e_u55, m_u55⟩ := newF (o := .tup [.str "end"]) hD st h_u55
  have i_u55 : Is C (nw H (upd G22 u55 (.tup [.str "end"]))) (.ref u55) (.tup [.str "end"]) := .tup e_u55 (.cons (.str _) .nil)
  have i_u33 := i_u33.same m_u55
  have i_u35 := i_u35.same m_u55
  have i_u37 := i_u37.same m_u55
  have i_u40 := i_u40.same m_u55
  have i_u43 := i_u43.same m_u55
  have i_u45 := i_u45.same m_u55
  have i_u49 := i_u49.same m_u55
  have i_u51 := i_u51.same m_u55
  have i_u53 := i_u53.same m_u55
  have i_u54 := i_u54.same m_u55
  have e_r46 := m_u55 _ _ e_r46
  generalize upd G22 u55 (.tup [.str "end"]) = G23 at *
  refine ⟨(by show 2 ≤ sizeLine; decide), fun u56 h_u56 => ?_⟩
  obtain ⟨st, e_u56, m_u56⟩ := newF (o := .tup [.ref u54, .ref u55]) hD st h_u56
  have i_u56 : Is C (nw H (upd G23 u56 (.tup [.ref u54, .ref u55]))) (.ref u56) (.tup [.tup [.str "nope"], .tup [.str "end"]]) := .tup e_u56 (.cons (i_u54.same m_u56) (.cons (i_u55.same m_u56) .nil))
  clear i_u54
  clear i_u55
  have i_u33 := i_u33.same m_u56
  have i_u35 := i_u35.same m_u56
  have i_u37 := i_u37.same m_u56
  have i_u40 := i_u40.same m_u56
  have i_u43 := i_u43.same m_u56
  have i_u45 := i_u45.same m_u56
  have i_u49 := i_u49.same m_u56
  have i_u51 := i_u51.same m_u56
  have i_u53 := i_u53.same m_u56
  have e_r46 := m_u56 _ _ e_r46
  generalize upd G23 u56 (.tup [.ref u54, .ref u55]) = G24 at *
  refine ⟨(by show 3 ≤ sizeLine; decide), fun u57 h_u57 => ?_⟩
  obtain ⟨st, e_u57, m_u57⟩ := newF (o := .tup [.str "set", .int 0, .int 1]) hD st h_u57
  have i_u57 : Is C (nw H (upd G24 u57 (.tup [.str "set", .int 0, .int 1]))) (.ref u57) (.tup [.str "set", .int 0, .int 1]) := .tup e_u57 (.cons (.str _) (.cons (.int _) (.cons (.int _) .nil)))
  have i_u33 := i_u33.same m_u57
  have i_u35 := i_u35.same m_u57
  have i_u37 := i_u37.same m_u57
  have i_u40 := i_u40.same m_u57
  have i_u43 := i_u43.same m_u57
  have i_u45 := i_u45.same m_u57
  have i_u49 := i_u49.same m_u57
  have i_u51 := i_u51.same m_u57
  have i_u53 := i_u53.same m_u57
  have i_u56 := i_u56.same m_u57
  have e_r46 := m_u57 _ _ e_r46
  generalize upd G24 u57 (.tup [.str "set", .int 0, .int 1]) = G25 at *
  refine ⟨(by show 1 ≤ sizeLine; decide), fun u58 h_u58 => ?_⟩
  obtain ⟨st, e_u58, m_u58⟩ := newF (o := .tup [.ref u57]) hD st h_u58
  have i_u58 : Is C (nw H (upd G25 u58 (.tup [.ref u57]))) (.ref u58) (.tup [.tup [.str "set", .int 0, .int 1]]) := .tup e_u58 (.cons (i_u57.same m_u58) .nil)
  have i_u33 := i_u33.same m_u58
  have i_u35 := i_u35.same m_u58
  have i_u37 := i_u37.same m_u58
  have i_u40 := i_u40.same m_u58
  have i_u43 := i_u43.same m_u58
  have i_u45 := i_u45.same m_u58
  have i_u49 := i_u49.same m_u58
  have i_u51 := i_u51.same m_u58
  have i_u53 := i_u53.same m_u58
  have i_u56 := i_u56.same m_u58
  have i_u57 := i_u57.same m_u58
  have e_r46 := m_u58 _ _ e_r46
  generalize upd G25 u58 (.tup [.ref u57]) = G26 at *
  refine ⟨u58, 24, [V.ref u57], rfl, rfl, SqT.of (nw_le _ _ e_u58), List.cons_ne_nil _ _, by decide, by decide, (by show 1 ≤ 1000; decide), fun u59 h_u59 => ?_⟩
  obtain ⟨st, e_u59, m_u59⟩ := newF (o := .tup (List.replicate (24 : Int).toNat [V.ref u57]).flatten) hD st h_u59
  have e_u59 : (nw H (upd G26 u59 (.tup (List.replicate (24 : Int).toNat [V.ref u57]).flatten))) u59 = some (.tup (List.replicate 24 (V.ref u57))) := e_u59
  have i_u59 : Is C (nw H (upd G26 u59 (.tup (List.replicate (24 : Int).toNat [V.ref u57]).flatten))) (.ref u59) (.tup (List.replicate 24 (.tup [.str "set", .int 0, .int 1]))) := .tup e_u59 (isA_rep 24 (i_u57.same m_u59))
  clear i_u58
  have i_u33 := i_u33.same m_u59
  have i_u35 := i_u35.same m_u59
  have i_u37 := i_u37.same m_u59
  have i_u40 := i_u40.same m_u59
  have i_u43 := i_u43.same m_u59
  have i_u45 := i_u45.same m_u59
  have i_u49 := i_u49.same m_u59
  have i_u51 := i_u51.same m_u59
  have i_u53 := i_u53.same m_u59
  have i_u56 := i_u56.same m_u59
  have i_u57 := i_u57.same m_u59
  have e_r46 := m_u59 _ _ e_r46
  have e_u58 := m_u59 _ _ e_u58
  generalize upd G26 u59 (.tup (List.replicate (24 : Int).toNat [V.ref u57]).flatten) = G27 at *
  refine ⟨(by show 1 ≤ sizeLine; decide), fun u60 h_u60 => ?_⟩
  obtain ⟨st, e_u60, m_u60⟩ := newF (o := .tup [.str "end"]) hD st h_u60
  have i_u60 : Is C (nw H (upd G27 u60 (.tup [.str "end"]))) (.ref u60) (.tup [.str "end"]) := .tup e_u60 (.cons (.str _) .nil)
  have i_u33 := i_u33.same m_u60
  have i_u35 := i_u35.same m_u60
  have i_u37 := i_u37.same m_u60
  have i_u40 := i_u40.same m_u60
  have i_u43 := i_u43.same m_u60
  have i_u45 := i_u45.same m_u60
  have i_u49 := i_u49.same m_u60
  have i_u51 := i_u51.same m_u60
  have i_u53 := i_u53.same m_u60
  have i_u56 := i_u56.same m_u60
  have i_u57 := i_u57.same m_u60
  have i_u59 := i_u59.same m_u60
  have e_r46 := m_u60 _ _ e_r46
  have e_u59 := m_u60 _ _ e_u59
  generalize upd G27 u60 (.tup [.str "end"]) = G28 at *
  refine ⟨(by show 1 ≤ sizeLine; decide), fun u61 h_u61 => ?_⟩
  obtain ⟨st, e_u61, m_u61⟩ := newF (o := .tup [.ref u60]) hD st h_u61
  have i_u61 : Is C (nw H (upd G28 u61 (.tup [.ref u60]))) (.ref u61) (.tup [.tup [.str "end"]]) := .tup e_u61 (.cons (i_u60.same m_u61) .nil)
  have i_u33 := i_u33.same m_u61
  have i_u35 := i_u35.same m_u61
  have i_u37 := i_u37.same m_u61
  have i_u40 := i_u40.same m_u61
  have i_u43 := i_u43.same m_u61
  have i_u45 := i_u45.same m_u61
  have i_u49 := i_u49.same m_u61
  have i_u51 := i_u51.same m_u61
  have i_u53 := i_u53.same m_u61
  have i_u56 := i_u56.same m_u61
  have i_u57 := i_u57.same m_u61
  have i_u59 := i_u59.same m_u61
  have i_u60 := i_u60.same m_u61
  have e_r46 := m_u61 _ _ e_r46
  have e_u59 := m_u61 _ _ e_u59
  generalize upd G28 u61 (.tup [.ref u60]) = G29 at *
  refine cat_go (nw_le _ _ e_u59) (nw_le _ _ e_u61) (by show (List.replicate 24 _).length + 1 ≤ sizeLine; rw [List.length_replicate]; decide) fun G30 u62 z_u62 e_u62 => ?_
  have st := st.trans z_u62
  have m_u62 : Same (nw H G29) (nw H G30) := nw_bu hD (Bu2.of z_u62)
  have e_u62 := (nw_keep (C := C) (LDk.of st)).tup _ _ e_u62
  have i_u62 : Is C (nw H (G30)) (.ref u62) (.tup (List.replicate 24 (.tup [.str "set", .int 0, .int 1]) ++ [.tup [.str "end"]])) := is_cat (i_u59.same m_u62) (i_u61.same m_u62) (m_u62 _ _ e_u59) (m_u62 _ _ e_u61) e_u62
  clear i_u59
  clear i_u61
  clear i_u57
  clear i_u60
  have i_u33 := i_u33.same m_u62
  have i_u35 := i_u35.same m_u62
  have i_u37 := i_u37.same m_u62
  have i_u40 := i_u40.same m_u62
  have i_u43 := i_u43.same m_u62
  have i_u45 := i_u45.same m_u62
  have i_u49 := i_u49.same m_u62
  have i_u51 := i_u51.same m_u62
  have i_u53 := i_u53.same m_u62
  have i_u56 := i_u56.same m_u62
  have e_r46 := m_u62 _ _ e_r46
  refine ⟨(by show 5 ≤ sizeLine; decide), fun r63 h_r63 => ?_⟩
  have c_r63 := ((hD.same st).off h_r63)
  have f_r63 := st.free h_r63
  obtain ⟨st, e_r63, m_r63⟩ := newF (o := .lst [.ref u49, .ref u51, .ref u53, .ref u56, .ref u62]) hD st h_r63
  have i_u33 := i_u33.same m_r63
  have i_u35 := i_u35.same m_r63
  have i_u37 := i_u37.same m_r63
  have i_u40 := i_u40.same m_r63
  have i_u43 := i_u43.same m_r63
  have i_u45 := i_u45.same m_r63
  have i_u49 := i_u49.same m_r63
  have i_u51 := i_u51.same m_r63
  have i_u53 := i_u53.same m_r63
  have i_u56 := i_u56.same m_r63
  have i_u62 := i_u62.same m_r63
  have e_r46 := m_r63 _ _ e_r46
  generalize upd G30 r63 (.lst [.ref u49, .ref u51, .ref u53, .ref u56, .ref u62]) = G31 at *
  refine ⟨r46, r63, _, _, rfl, rfl, nw_le _ _ e_r46, nw_le _ _ e_r63, (by show 11 ≤ sizeLine; decide), fun q64 h_q64 => ?_⟩
  have c_q64 := ((hD.same st).off h_q64)
  have f_q64 := st.free h_q64
  obtain ⟨st, e_q64, m_q64⟩ := newF (o := .lst ([.ref u33, .ref u35, .ref u37, .ref u40, .ref u43, .ref u45] ++ [.ref u49, .ref u51, .ref u53, .ref u56, .ref u62])) hD st h_q64
  have i_u33 := i_u33.same m_q64
  have i_u35 := i_u35.same m_q64
  have i_u37 := i_u37.same m_q64
  have i_u40 := i_u40.same m_q64
  have i_u43 := i_u43.same m_q64
  have i_u45 := i_u45.same m_q64
  have i_u49 := i_u49.same m_q64
  have i_u51 := i_u51.same m_q64
  have i_u53 := i_u53.same m_q64
  have i_u56 := i_u56.same m_q64
  have i_u62 := i_u62.same m_q64
  generalize upd G31 q64 (.lst ([.ref u33, .ref u35, .ref u37, .ref u40, .ref u43, .ref u45] ++ [.ref u49, .ref u51, .ref u53, .ref u56, .ref u62])) = G32 at *
  have e_q64 : (nw H (G32)) q64 = some (.lst [.ref u33, .ref u35, .ref u37, .ref u40, .ref u43, .ref u45, .ref u49, .ref u51, .ref u53, .ref u56, .ref u62]) := e_q64
  refine ⟨_, rfl, (by show 3 ≤ sizeLine; decide), fun u65 h_u65 => ?_⟩
  obtain ⟨st, e_u65, m_u65⟩ := newF (o := .tup [.str "zero", .int 0, .int 2]) hD st h_u65
  have i_u65 : Is C (nw H (upd G32 u65 (.tup [.str "zero", .int 0, .int 2]))) (.ref u65) (.tup [.str "zero", .int 0, .int 2]) := .tup e_u65 (.cons (.str _) (.cons (.int _) (.cons (.int _) .nil)))
  have i_u33 := i_u33.same m_u65
  have i_u35 := i_u35.same m_u65
  have i_u37 := i_u37.same m_u65
  have i_u40 := i_u40.same m_u65
  have i_u43 := i_u43.same m_u65
  have i_u45 := i_u45.same m_u65
  have i_u49 := i_u49.same m_u65
  have i_u51 := i_u51.same m_u65
  have i_u53 := i_u53.same m_u65
  have i_u56 := i_u56.same m_u65
  have i_u62 := i_u62.same m_u65
  have e_q64 := m_u65 _ _ e_q64
  generalize upd G32 u65 (.tup [.str "zero", .int 0, .int 2]) = G33 at *
  refine ⟨(by show 1 ≤ sizeLine; decide), fun u66 h_u66 => ?_⟩
  obtain ⟨st, e_u66, m_u66⟩ := newF (o := .tup [.str "end"]) hD st h_u66
  have i_u66 : Is C (nw H (upd G33 u66 (.tup [.str "end"]))) (.ref u66) (.tup [.str "end"]) := .tup e_u66 (.cons (.str _) .nil)
  have i_u33 := i_u33.same m_u66
  have i_u35 := i_u35.same m_u66
  have i_u37 := i_u37.same m_u66
  have i_u40 := i_u40.same m_u66
  have i_u43 := i_u43.same m_u66
  have i_u45 := i_u45.same m_u66
  have i_u49 := i_u49.same m_u66
  have i_u51 := i_u51.same m_u66
  have i_u53 := i_u53.same m_u66
  have i_u56 := i_u56.same m_u66
  have i_u62 := i_u62.same m_u66
  have i_u65 := i_u65.same m_u66
  have e_q64 := m_u66 _ _ e_q64
  generalize upd G33 u66 (.tup [.str "end"]) = G34 at *
  refine ⟨(by show 2 ≤ sizeLine; decide), fun u67 h_u67 => ?_⟩
  obtain ⟨st, e_u67, m_u67⟩ := newF (o := .tup [.ref u65, .ref u66]) hD st h_u67
  have i_u67 : Is C (nw H (upd G34 u67 (.tup [.ref u65, .ref u66]))) (.ref u67) (.tup [.tup [.str "zero", .int 0, .int 2], .tup [.str "end"]]) := .tup e_u67 (.cons (i_u65.same m_u67) (.cons (i_u66.same m_u67) .nil))
  clear i_u65
  clear i_u66
  have i_u33 := i_u33.same m_u67
  have i_u35 := i_u35.same m_u67
  have i_u37 := i_u37.same m_u67
  have i_u40 := i_u40.same m_u67
  have i_u43 := i_u43.same m_u67
  have i_u45 := i_u45.same m_u67
  have i_u49 := i_u49.same m_u67
  have i_u51 := i_u51.same m_u67
  have i_u53 := i_u53.same m_u67
  have i_u56 := i_u56.same m_u67
  have i_u62 := i_u62.same m_u67
  have e_q64 := m_u67 _ _ e_q64
  generalize upd G34 u67 (.tup [.ref u65, .ref u66]) = G35 at *
  refine ⟨(by show 0 ≤ sizeLine; decide), fun u68 h_u68 => ?_⟩
  obtain ⟨st, e_u68, m_u68⟩ := newF (o := .tup []) hD st h_u68
  have i_u68 : Is C (nw H (upd G35 u68 (.tup []))) (.ref u68) (.tup []) := .tup e_u68 .nil
  have i_u33 := i_u33.same m_u68
  have i_u35 := i_u35.same m_u68
  have i_u37 := i_u37.same m_u68
  have i_u40 := i_u40.same m_u68
  have i_u43 := i_u43.same m_u68
  have i_u45 := i_u45.same m_u68
  have i_u49 := i_u49.same m_u68
  have i_u51 := i_u51.same m_u68
  have i_u53 := i_u53.same m_u68
  have i_u56 := i_u56.same m_u68
  have i_u62 := i_u62.same m_u68
  have i_u67 := i_u67.same m_u68
  have e_q64 := m_u68 _ _ e_q64
  generalize upd G35 u68 (.tup []) = G36 at *
  refine ⟨(by show 1 ≤ sizeLine; decide), fun u69 h_u69 => ?_⟩
  obtain ⟨st, e_u69, m_u69⟩ := newF (o := .tup [.ref u68]) hD st h_u69
  have i_u69 : Is C (nw H (upd G36 u69 (.tup [.ref u68]))) (.ref u69) (.tup [.tup []]) := .tup e_u69 (.cons (i_u68.same m_u69) .nil)
  clear i_u68
  have i_u33 := i_u33.same m_u69
  have i_u35 := i_u35.same m_u69
  have i_u37 := i_u37.same m_u69
  have i_u40 := i_u40.same m_u69
  have i_u43 := i_u43.same m_u69
  have i_u45 := i_u45.same m_u69
  have i_u49 := i_u49.same m_u69
  have i_u51 := i_u51.same m_u69
  have i_u53 := i_u53.same m_u69
  have i_u56 := i_u56.same m_u69
  have i_u62 := i_u62.same m_u69
  have i_u67 := i_u67.same m_u69
  have e_q64 := m_u69 _ _ e_q64
  generalize upd G36 u69 (.tup [.ref u68]) = G37 at *
  refine ⟨(by show 2 ≤ sizeLine; decide), fun u70 h_u70 => ?_⟩
  obtain ⟨st, e_u70, m_u70⟩ := newF (o := .tup [.str "copy", .int 0]) hD st h_u70
  have i_u70 : Is C (nw H (upd G37 u70 (.tup [.str "copy", .int 0]))) (.ref u70) (.tup [.str "copy", .int 0]) := .tup e_u70 (.cons (.str _) (.cons (.int _) .nil))
  have i_u33 := i_u33.same m_u70
  have i_u35 := i_u35.same m_u70
  have i_u37 := i_u37.same m_u70
  have i_u40 := i_u40.same m_u70
  have i_u43 := i_u43.same m_u70
  have i_u45 := i_u45.same m_u70
  have i_u49 := i_u49.same m_u70
  have i_u51 := i_u51.same m_u70
  have i_u53 := i_u53.same m_u70
  have i_u56 := i_u56.same m_u70
  have i_u62 := i_u62.same m_u70
  have i_u67 := i_u67.same m_u70
  have i_u69 := i_u69.same m_u70
  have e_q64 := m_u70 _ _ e_q64
  generalize upd G37 u70 (.tup [.str "copy", .int 0]) = G38 at *
  refine ⟨(by show 1 ≤ sizeLine; decide), fun u71 h_u71 => ?_⟩
  obtain ⟨st, e_u71, m_u71⟩ := newF (o := .tup [.str "end"]) hD st h_u71
  have i_u71 : Is C (nw H (upd G38 u71 (.tup [.str "end"]))) (.ref u71) (.tup [.str "end"]) := .tup e_u71 (.cons (.str _) .nil)
  have i_u33 := i_u33.same m_u71
  have i_u35 := i_u35.same m_u71
  have i_u37 := i_u37.same m_u71
  have i_u40 := i_u40.same m_u71
  have i_u43 := i_u43.same m_u71
  have i_u45 := i_u45.same m_u71
  have i_u49 := i_u49.same m_u71
  have i_u51 := i_u51.same m_u71
  have i_u53 := i_u53.same m_u71
  have i_u56 := i_u56.same m_u71
  have i_u62 := i_u62.same m_u71
  have i_u67 := i_u67.same m_u71
  have i_u69 := i_u69.same m_u71
  have i_u70 := i_u70.same m_u71
  have e_q64 := m_u71 _ _ e_q64
  generalize upd G38 u71 (.tup [.str "end"]) = G39 at *
  refine ⟨(by show 2 ≤ sizeLine; decide), fun u72 h_u72 => ?_⟩
  obtain ⟨st, e_u72, m_u72⟩ := newF (o := .tup [.ref u70, .ref u71]) hD st h_u72
  have i_u72 : Is C (nw H (upd G39 u72 (.tup [.ref u70, .ref u71]))) (.ref u72) (.tup [.tup [.str "copy", .int 0], .tup [.str "end"]]) := .tup e_u72 (.cons (i_u70.same m_u72) (.cons (i_u71.same m_u72) .nil))
  clear i_u70
  clear i_u71
  have i_u33 := i_u33.same m_u72
  have i_u35 := i_u35.same m_u72
  have i_u37 := i_u37.same m_u72
  have i_u40 := i_u40.same m_u72
  have i_u43 := i_u43.same m_u72
  have i_u45 := i_u45.same m_u72
  have i_u49 := i_u49.same m_u72
  have i_u51 := i_u51.same m_u72
  have i_u53 := i_u53.same m_u72
  have i_u56 := i_u56.same m_u72
  have i_u62 := i_u62.same m_u72
  have i_u67 := i_u67.same m_u72
  have i_u69 := i_u69.same m_u72
  have e_q64 := m_u72 _ _ e_q64
  generalize upd G39 u72 (.tup [.ref u70, .ref u71]) = G40 at *
  refine ⟨(by show 1 ≤ sizeLine; decide), fun u73 h_u73 => ?_⟩
  obtain ⟨st, e_u73, m_u73⟩ := newF (o := .tup [.str "end"]) hD st h_u73
  have i_u73 : Is C (nw H (upd G40 u73 (.tup [.str "end"]))) (.ref u73) (.tup [.str "end"]) := .tup e_u73 (.cons (.str _) .nil)
  have i_u33 := i_u33.same m_u73
  have i_u35 := i_u35.same m_u73
  have i_u37 := i_u37.same m_u73
  have i_u40 := i_u40.same m_u73
  have i_u43 := i_u43.same m_u73
  have i_u45 := i_u45.same m_u73
  have i_u49 := i_u49.same m_u73
  have i_u51 := i_u51.same m_u73
  have i_u53 := i_u53.same m_u73
  have i_u56 := i_u56.same m_u73
  have i_u62 := i_u62.same m_u73
  have i_u67 := i_u67.same m_u73
  have i_u69 := i_u69.same m_u73
  have i_u72 := i_u72.same m_u73
  have e_q64 := m_u73 _ _ e_q64
  generalize upd G40 u73 (.tup [.str "end"]) = G41 at *
  refine ⟨(by show 3 ≤ sizeLine; decide), fun u74 h_u74 => ?_⟩
  obtain ⟨st, e_u74, m_u74⟩ := newF (o := .tup [.str "copy", .int 0, .int 1]) hD st h_u74
  have i_u74 : Is C (nw H (upd G41 u74 (.tup [.str "copy", .int 0, .int 1]))) (.ref u74) (.tup [.str "copy", .int 0, .int 1]) := .tup e_u74 (.cons (.str _) (.cons (.int _) (.cons (.int _) .nil)))
  have i_u33 := i_u33.same m_u74
  have i_u35 := i_u35.same m_u74
  have i_u37 := i_u37.same m_u74
  have i_u40 := i_u40.same m_u74
  have i_u43 := i_u43.same m_u74
  have i_u45 := i_u45.same m_u74
  have i_u49 := i_u49.same m_u74
  have i_u51 := i_u51.same m_u74
  have i_u53 := i_u53.same m_u74
  have i_u56 := i_u56.same m_u74
  have i_u62 := i_u62.same m_u74
  have i_u67 := i_u67.same m_u74
  have i_u69 := i_u69.same m_u74
  have i_u72 := i_u72.same m_u74
  have i_u73 := i_u73.same m_u74
  have e_q64 := m_u74 _ _ e_q64
  generalize upd G41 u74 (.tup [.str "copy", .int 0, .int 1]) = G42 at *
  refine ⟨(by show 2 ≤ sizeLine; decide), fun u75 h_u75 => ?_⟩
  obtain ⟨st, e_u75, m_u75⟩ := newF (o := .tup [.ref u73, .ref u74]) hD st h_u75
  have i_u75 : Is C (nw H (upd G42 u75 (.tup [.ref u73, .ref u74]))) (.ref u75) (.tup [.tup [.str "end"], .tup [.str "copy", .int 0, .int 1]]) := .tup e_u75 (.cons (i_u73.same m_u75) (.cons (i_u74.same m_u75) .nil))
  clear i_u73
  clear i_u74
  have i_u33 := i_u33.same m_u75
  have i_u35 := i_u35.same m_u75
  have i_u37 := i_u37.same m_u75
  have i_u40 := i_u40.same m_u75
  have i_u43 := i_u43.same m_u75
  have i_u45 := i_u45.same m_u75
  have i_u49 := i_u49.same m_u75
  have i_u51 := i_u51.same m_u75
  have i_u53 := i_u53.same m_u75
  have i_u56 := i_u56.same m_u75
  have i_u62 := i_u62.same m_u75
  have i_u67 := i_u67.same m_u75
  have i_u69 := i_u69.same m_u75
  have i_u72 := i_u72.same m_u75
  have e_q64 := m_u75 _ _ e_q64
  generalize upd G42 u75 (.tup [.ref u73, .ref u74]) = G43 at *
  refine ⟨_, rfl, (by show 2 ≤ sizeLine; decide), fun u76 h_u76 => ?_⟩
  obtain ⟨st, e_u76, m_u76⟩ := newF (o := .tup [.str "jump", .int (-1)]) hD st h_u76
  have i_u76 : Is C (nw H (upd G43 u76 (.tup [.str "jump", .int (-1)]))) (.ref u76) (.tup [.str "jump", .int (-1)]) := .tup e_u76 (.cons (.str _) (.cons (.int _) .nil))
  have i_u33 := i_u33.same m_u76
  have i_u35 := i_u35.same m_u76
  have i_u37 := i_u37.same m_u76
  have i_u40 := i_u40.same m_u76
  have i_u43 := i_u43.same m_u76
  have i_u45 := i_u45.same m_u76
  have i_u49 := i_u49.same m_u76
  have i_u51 := i_u51.same m_u76
  have i_u53 := i_u53.same m_u76
  have i_u56 := i_u56.same m_u76
  have i_u62 := i_u62.same m_u76
  have i_u67 := i_u67.same m_u76
  have i_u69 := i_u69.same m_u76
  have i_u72 := i_u72.same m_u76
  have i_u75 := i_u75.same m_u76
  have e_q64 := m_u76 _ _ e_q64
  generalize upd G43 u76 (.tup [.str "jump", .int (-1)]) = G44 at *
  refine ⟨(by show 1 ≤ sizeLine; decide), fun u77 h_u77 => ?_⟩
  obtain ⟨st, e_u77, m_u77⟩ := newF (o := .tup [.ref u76]) hD st h_u77
  have i_u77 : Is C (nw H (upd G44 u77 (.tup [.ref u76]))) (.ref u77) (.tup [.tup [.str "jump", .int (-1)]]) := .tup e_u77 (.cons (i_u76.same m_u77) .nil)
  clear i_u76
  have i_u33 := i_u33.same m_u77
  have i_u35 := i_u35.same m_u77
  have i_u37 := i_u37.same m_u77
  have i_u40 := i_u40.same m_u77
  have i_u43 := i_u43.same m_u77
  have i_u45 := i_u45.same m_u77
  have i_u49 := i_u49.same m_u77
  have i_u51 := i_u51.same m_u77
  have i_u53 := i_u53.same m_u77
  have i_u56 := i_u56.same m_u77
  have i_u62 := i_u62.same m_u77
  have i_u67 := i_u67.same m_u77
  have i_u69 := i_u69.same m_u77
  have i_u72 := i_u72.same m_u77
  have i_u75 := i_u75.same m_u77
  have e_q64 := m_u77 _ _ e_q64
  generalize upd G44 u77 (.tup [.ref u76]) = G45 at *
  refine ⟨(by show 7 ≤ sizeLine; decide), fun r78 h_r78 => ?_⟩
  have c_r78 := ((hD.same st).off h_r78)
  have f_r78 := st.free h_r78
  obtain ⟨st, e_r78, m_r78⟩ := newF (o := .lst [.ref u67, .str "end", .non, .ref u69, .ref u72, .ref u75, .ref u77]) hD st h_r78
  have i_u33 := i_u33.same m_r78
  have i_u35 := i_u35.same m_r78
  have i_u37 := i_u37.same m_r78
  have i_u40 := i_u40.same m_r78
  have i_u43 := i_u43.same m_r78
  have i_u45 := i_u45.same m_r78
  have i_u49 := i_u49.same m_r78
  have i_u51 := i_u51.same m_r78
  have i_u53 := i_u53.same m_r78
  have i_u56 := i_u56.same m_r78
  have i_u62 := i_u62.same m_r78
  have i_u67 := i_u67.same m_r78
  have i_u69 := i_u69.same m_r78
  have i_u72 := i_u72.same m_r78
  have i_u75 := i_u75.same m_r78
  have i_u77 := i_u77.same m_r78
  have e_q64 := m_r78 _ _ e_q64
  generalize upd G45 r78 (.lst [.ref u67, .str "end", .non, .ref u69, .ref u72, .ref u75, .ref u77]) = G46 at *
  refine ⟨q64, r78, _, _, rfl, rfl, nw_le _ _ e_q64, nw_le _ _ e_r78, (by show 18 ≤ sizeLine; decide), fun q79 h_q79 => ?_⟩
  have c_q79 := ((hD.same st).off h_q79)
  have f_q79 := st.free h_q79
  obtain ⟨st, e_q79, m_q79⟩ := newF (o := .lst ([.ref u33, .ref u35, .ref u37, .ref u40, .ref u43, .ref u45, .ref u49, .ref u51, .ref u53, .ref u56, .ref u62] ++ [.ref u67, .str "end", .non, .ref u69, .ref u72, .ref u75, .ref u77])) hD st h_q79
  have i_u33 := i_u33.same m_q79
  have i_u35 := i_u35.same m_q79
  have i_u37 := i_u37.same m_q79
  have i_u40 := i_u40.same m_q79
  have i_u43 := i_u43.same m_q79
  have i_u45 := i_u45.same m_q79
  have i_u49 := i_u49.same m_q79
  have i_u51 := i_u51.same m_q79
  have i_u53 := i_u53.same m_q79
  have i_u56 := i_u56.same m_q79
  have i_u62 := i_u62.same m_q79
  have i_u67 := i_u67.same m_q79
  have i_u69 := i_u69.same m_q79
  have i_u72 := i_u72.same m_q79
  have i_u75 := i_u75.same m_q79
  have i_u77 := i_u77.same m_q79
  generalize upd G46 q79 (.lst ([.ref u33, .ref u35, .ref u37, .ref u40, .ref u43, .ref u45, .ref u49, .ref u51, .ref u53, .ref u56, .ref u62] ++ [.ref u67, .str "end", .non, .ref u69, .ref u72, .ref u75, .ref u77])) = G47 at *
  have e_q79 : (nw H (G47)) q79 = some (.lst [.ref u33, .ref u35, .ref u37, .ref u40, .ref u43, .ref u45, .ref u49, .ref u51, .ref u53, .ref u56, .ref u62, .ref u67, .str "end", .non, .ref u69, .ref u72, .ref u75, .ref u77]) := e_q79
  have ia : IsA C (nw H (G47)) [.ref u33, .ref u35, .ref u37, .ref u40, .ref u43, .ref u45, .ref u49, .ref u51, .ref u53, .ref u56, .ref u62, .ref u67, .str "end", .non, .ref u69, .ref u72, .ref u75, .ref u77] noProgD := (.cons i_u33 (.cons i_u35 (.cons i_u37 (.cons i_u40 (.cons i_u43 (.cons i_u45 (.cons i_u49 (.cons i_u51 (.cons i_u53 (.cons i_u56 (.cons i_u62 (.cons i_u67 (.cons (.str _) (.cons .non (.cons i_u69 (.cons i_u72 (.cons i_u75 (.cons i_u77 .nil))))))))))))))))))
  refine ⟨_, rfl, _, rfl, d, c, q79, _, rfl, hD.same st, nw_le _ _ e_q79, c_q79.2, by show 0 < 18; decide, by show 18 < 1000000; decide, fun H' i x hD' b' hx => ?_⟩
  obtain ⟨e, he, ie⟩ := isA_mem ia (List.mem_of_getElem? hx)
  exact q H' x e hD' ((Bu2.of st).trans b') (ie.same (nw_bu hD b')) he
end
end Hc

set_option maxHeartbeats 8000000
namespace Hc
open PySem PySem.Spec PyProof.Rows L2 Hr
mutual
/-- texts are short -/
def txb : D → Bool
  | .tup ds => txbL ds
  | .lst ds => txbL ds
  | .atom _ ds => txbL ds
  | .str s => decide (s.length ≤ 1000)
  | _ => true
def txbL : List D → Bool
  | [] => true
  | d :: ds => txb d && txbL ds
end
mutual
theorem txb_txl : ∀ {d : D}, txb d = true → txl d
  | .tup ds, h => by simp only [txl]; exact txbL_txl (by simpa [txb] using h)
  | .lst ds, h => by simp only [txl]; first | trivial | exact txbL_txl (by simpa [txb] using h)
  | .atom _ ds, h => by simp only [txl]; exact txbL_txl (by simpa [txb] using h)
  | .str s, h => by simp only [txl]; simp [txb] at h; exact Nat.le_trans h (by decide)
  | .non, _ => by simp only [txl]
  | .bl _, _ => by simp only [txl]
  | .int _, _ => by simp only [txl]
  | .dct, _ => by simp only [txl]
theorem txbL_txl : ∀ {ds : List D}, txbL ds = true → txlL ds
  | [], _ => by simp only [txlL]
  | d :: ds, h => by
    simp only [txbL, Bool.and_eq_true] at h
    simp only [txlL]
    exact ⟨txb_txl h.1, txbL_txl h.2⟩
end
theorem fit_of {d : D} (h1 : sz d ≤ 1000000) (h2 : txb d = true) : Fit d := ⟨h1, txb_txl h2⟩
theorem rn_ok : ∀ e ∈ rowsD ++ noD, sz e ≤ 100 ∧ txb e = true := by
  have h : ((rowsD ++ noD).all fun e => decide (sz e ≤ 100) && txb e) = true := by decide +kernel
  intro e he
  have := List.all_eq_true.mp h e he
  simpa using this
theorem szL_le : ∀ {ws : List D}, (∀ e ∈ ws, sz e ≤ 100) → szL ws ≤ 100 * ws.length
  | [], _ => by simp [szL]
  | w :: ws, h => by
    have h1 := h w (by simp)
    have h2 := szL_le (ws := ws) (fun e he => h e (by simp [he]))
    simp only [szL, List.length_cons]; omega
theorem txbL_of : ∀ {ws : List D}, (∀ e ∈ ws, txb e = true) → txbL ws = true
  | [], _ => rfl
  | w :: ws, h => by simp only [txbL]; rw [h w (by simp), txbL_of (fun e he => h e (by simp [he]))]; rfl
def smal (e : D) : Prop := sz e ≤ 3000 ∧ txb e = true
theorem fit_wds {ws : List D} (h : ∀ e ∈ ws, e ∈ rowsD ++ noD) (hl : ws.length ≤ 5) : smal (.tup ws) ∧ smal (.lst ws) := by
  have h1 := szL_le (ws := ws) (fun e he => (rn_ok e (h e he)).1)
  have h2 := txbL_of (ws := ws) (fun e he => (rn_ok e (h e he)).2)
  exact ⟨⟨by simp only [sz]; omega, by simp only [txb]; exact h2⟩, ⟨by simp only [sz]; omega, by simp only [txb]; exact h2⟩⟩
def NoW (e : D) : Prop := wdsB e = false ∧ regD e = false ∧ smal e
theorem no_ok : ∀ e ∈ noD, okW 40 40 0 e = false ∧ okW 10 36 0 e = false := by
  have h : (noD.all fun e => !okW 40 40 0 e && !okW 10 36 0 e) = true := by decide +kernel
  intro e he
  have := List.all_eq_true.mp h e he
  simpa using this
theorem rows_okW : ∀ e ∈ rowsD, okW 40 40 0 e = true ∧ okW 10 36 0 e = true := by
  have h : (rowsD.all fun e => okW 40 40 0 e && okW 10 36 0 e) = true := by decide +kernel
  intro e he
  have := List.all_eq_true.mp h e he
  simpa using this
theorem wds_len {ws : List D} (h : ws.length ≠ 4) : wdsB (.tup ws) = false ∧ regD (.tup ws) = false := by
  simp only [wdsB, regD]; rw [decide_eq_false h]; exact ⟨rfl, rfl⟩
theorem wds_bad {ws : List D} {e : D} (h : e ∈ ws) (hn : e ∈ noD) : wdsB (.tup ws) = false ∧ regD (.tup ws) = false := by
  obtain ⟨a, b⟩ := no_ok e hn
  have h1 : ws.all (okW 40 40 0) = false := by
    refine Bool.eq_false_iff.mpr fun z => ?_
    rw [List.all_eq_true.mp z e h] at a; cases a
  have h2 : ws.all (okW 10 36 0) = false := by
    refine Bool.eq_false_iff.mpr fun z => ?_
    rw [List.all_eq_true.mp z e h] at b; cases b
  simp only [wdsB, regD, h1, h2, Bool.and_false]; exact ⟨trivial, trivial⟩
theorem wds_good {ws : List D} (hl : ws.length = 4) (h : ∀ w ∈ ws, w ∈ rowsD) : wdsB (.tup ws) = true ∧ regD (.tup ws) = true := by
  have h1 : ws.all (okW 40 40 0) = true := List.all_eq_true.mpr fun w hw => (rows_okW w (h w hw)).1
  have h2 : ws.all (okW 10 36 0) = true := List.all_eq_true.mpr fun w hw => (rows_okW w (h w hw)).2
  simp only [wdsB, regD, h1, h2]; rw [decide_eq_true hl]; exact ⟨rfl, rfl⟩
theorem wds_cln {ws : List D} (h : ∀ w ∈ ws, w ∈ rowsD) : clnL ws = true := clnL_iff.mpr fun e he => clnL_iff.mp rows_cln e (h e he)
theorem isA_set {C : Addr} {H : Hp} : ∀ {xs : List V} {ds : List D} {x : V} {d : D} (i : Nat), IsA C H xs ds → Is C H x d → IsA C H (xs.set i x) (ds.set i d)
  | _, _, _, _, _, .nil, _ => .nil
  | _, _, _, _, 0, .cons h t, g => .cons g t
  | _, _, _, _, i + 1, .cons h t, g => .cons h (isA_set i t g)
theorem ixN_of {n k : Nat} (h : k < n) : ixN n (k : Int) = some k := by
  unfold ixN
  rw [if_pos (by omega), if_pos (by omega)]; simp
/-- what is new was nowhere before -/
theorem off_new {d c p : Addr} {H X : Hp} (b : Bu2 d c H X) (hX : Dr X d c) (hp : X p = none) : H p = none := by
  cases h : H p with
  | none => rfl
  | some o =>
    exfalso
    by_cases z1 : p = d
    · obtain ⟨⟨r, m, h1⟩, _⟩ := hX
      rw [z1, h1] at hp; cases hp
    by_cases z2 : p = c
    · obtain ⟨_, ns, _, h1⟩ := hX
      rw [z2, h1] at hp; cases hp
    rw [b _ _ h z1 z2] at hp; cases hp
section
variable {P : Program} {w : World} {K : PySem.W.Frag} {mg : Str → Option Value} {base : Heap} {f : Addr} {fd : FuncData} {C : Addr}
abbrev s__law_no_words : Stmt := top 57
theorem sc__law_no_words : FnScope ["draws", "words", "kind"] ["draws"] (C8.fnScope s__law_no_words) := C8.fnScope_by (by decide +kernel)
theorem ok__law_no_words (F : C8.Def K mg "_law_no_words" s__law_no_words f fd) (b : Binds K fd ["draws"] []) (T : Txt K mg w C) (c__law_words : C8.Cal P w K mg base 7 "_law_words" (spOne C WdsOk) []) (c__law_draw : C8.Cal P w K mg base 1 "_law_draw" spDraw []) (c__law_pick : C8.Cal P w K mg base 2 "_law_pick" spPick []) (c__law_no_word : C8.Cal P w K mg base 3 "_law_no_word" (spOne C (· ∈ noD)) []) : C8.Cal P w K mg base 8 "_law_no_words" (spOne C NoW) [] := by
  refine C8.cal0 F b .nil sc__law_no_words (fun vs H Q E h => ?_) (fun cdv A outer s H vs Q E hr h => ?_)
  · obtain ⟨d, c, rfl, _⟩ := h; rfl
  obtain ⟨d, c, rfl, hD, q⟩ := h
  refine ⟨_, (pss_cons (ps_set (i := 1) sc__law_no_words.nd rfl (Or.inl rfl) (pe_callTy call_list_of rfl T.z_list bt_list (pa_cons (C8.pe_c c__law_words hr (by first | decide | omega) rfl (pa_cons (pv 0) pa_nil)) pa_nil)))
      (pss_cons (ps_set (i := 2) sc__law_no_words.nd rfl (Or.inl rfl) (C8.pe_c c__law_draw hr (by first | decide | omega) rfl (pa_cons (pv 0) (pa_cons pe_int pa_nil))))
      (pss_cons (ps_if (pt_cmpR op_eq (pv 2) pe_int (nomark _)) (pss_one (ps_ret (pv 1))) pss_nil)
      (pss_cons (ps_if (pt_cmpR op_eq (pv 2) pe_int (nomark _)) (pss_one (ps_ret (pe_callTy call_tuple_of rfl T.z_tuple bt_tuple (pa_cons (pe_slice sl_list (pv 1) po_none (po_some (C8.pe_c c__law_draw hr (by first | decide | omega) rfl (pa_cons (pv 0) (pa_cons pe_int pa_nil))))) pa_nil)))) pss_nil)
      (pss_cons (ps_if (pt_cmpR op_eq (pv 2) pe_int (nomark _)) (pss_one (ps_ret (pe_callTy call_tuple_of rfl T.z_tuple bt_tuple (pa_cons (pe_op op_cat (pv 1) (pe_lst (pa_cons pe_int pa_nil))) pa_nil)))) pss_nil)
      (pss_cons (ps_if (pt_cmpR op_eq (pv 2) pe_int (nomark _)) (pss_one (ps_ret (C8.pe_c c__law_pick hr (by first | decide | omega) rfl (pa_cons (pv 0) (pa_cons (pe_lst (pa_cons pe_non (pa_cons pe_int (pa_cons pe_str (pa_cons (pe_tup pa_nil) (pa_cons pe_dnewK pa_nil)))))) pa_nil))))) pss_nil)
      (pss_cons (ps_asg (C8.pe_c c__law_no_word hr (by first | decide | omega) rfl (pa_cons (pv 0) pa_nil)) (pg_sub (pv 1) (C8.pe_c c__law_draw hr (by first | decide | omega) rfl (pa_cons (pv 0) (pa_cons pe_int pa_nil))) set_list))
      (pss_one (ps_ret (pe_callTy call_tuple_of rfl T.z_tuple bt_tuple (pa_cons (pv 1) pa_nil))))))))))), ?_⟩
  refine ⟨_, rfl, d, c, rfl, hD, fun H1 x e hD1 b1 ie hok => ?_⟩
  obtain ⟨ws, rfl, hwl, hw⟩ := hok
  cases ie with
  | @tup t xs _ ht ix =>
  have hxl := ix.len
  refine ⟨t, xs, rfl, .inr (SqT.of (nw_le _ _ ht)), fun l hl => ?_⟩
  have s2 := same_new (o := .lst xs) hl
  have lH := off_new b1 hD1 hl
  have hD2 := hD1.same s2
  have b2 : Bu2 d c H (upd H1 l (.lst xs)) := b1.trans (Bu2.of s2)
  have el : (upd H1 l (.lst xs)) l = some (.lst xs) := upd_same
  have ix2 : IsA C (upd H1 l (.lst xs)) xs ws := (ix.same nw_le).same s2
  have lo := hD1.off hl
  generalize upd H1 l (.lst xs) = H2 at *
  clear ix ht hl
  refine ⟨_, rfl, d, c, 5, rfl, hD2, by decide, by decide, fun H3 r hD3 b3 g0 g1 => ?_⟩
  have el3 := b3 _ _ el lo.1 lo.2
  have ix3 := IsA.keep (hD2.keep b3) (wds_cln hw) ix2
  have b4 := b2.trans b3
  have ixn : IsA C (nw H H3) xs ws := IsA.nw (LDk.bu hD3 b4) (wds_cln hw) ix3
  have hfw := fit_wds (ws := ws) (fun e he => List.mem_append_left _ (hw e he)) (by omega)
  have fin : ∀ (G : Hp) (ys : List V) (es : List D), Dr G d c → Bu2 d c H G → IsA C (nw H G) ys es → NoW (.tup es) → ∀ t, G t = none → Q (.ref t) (upd G t (.tup ys)) := fun G ys es hG bG iy hn t ht => by
    have s9 := same_new (o := .tup ys) ht
    exact q _ _ (.tup es) (hG.same s9) (bG.trans (Bu2.of s9)) (.tup (nw_at (off_new bG hG ht) upd_same) (iy.same (nw_bu hD (Bu2.of s9)))) hn
  refine ⟨_, rfl, rfl, _, rfl, ite2 (fun _ => ?_) (fun _ => ?_)⟩
  · exact ⟨_, rfl, q H3 _ (.lst ws) hD3 b4 (.lst (nw_at lH el3) ixn) ⟨rfl, rfl, hfw.2⟩⟩
  refine ⟨_, rfl, rfl, _, rfl, ite2 (fun _ => ?_) (fun _ => ?_)⟩
  · refine ⟨_, rfl, _, rfl, d, c, 4, rfl, hD3, by decide, by decide, fun H4 j hD4 b5 j0 j1 => ⟨j, rfl, ?_⟩⟩
    have el4 := b5 _ _ el3 lo.1 lo.2
    have b6 := b4.trans b5
    have ix4 := ixn.same (nw_bu hD b5)
    refine ⟨l, xs, rfl, SqL.of el4, fun l2 hl2 => ?_⟩
    obtain ⟨jn, rfl⟩ : ∃ jn : Nat, j = (jn : Int) := ⟨j.toNat, by omega⟩
    rw [cut_to]
    have s6 := same_new (o := .lst (xs.take jn)) hl2
    refine ⟨l2, _, rfl, .inl ⟨SqL.of upd_same, fun t ht => ?_⟩⟩
    refine fin _ _ (ws.take jn) (hD4.same s6) (b6.trans (Bu2.of s6)) ((isA_take jn ix4).same (nw_bu hD (Bu2.of s6))) ?_ t ht
    obtain ⟨w1, w2⟩ := wds_len (ws := ws.take jn) (by rw [List.length_take]; omega)
    exact ⟨w1, w2, (fit_wds (ws := ws.take jn) (fun e he => List.mem_append_left _ (hw e (List.mem_of_mem_take he))) (by rw [List.length_take]; omega)).1⟩
  refine ⟨_, rfl, rfl, _, rfl, ite2 (fun _ => ?_) (fun _ => ?_)⟩
  · refine ⟨_, rfl, (by show 1 ≤ sizeLine; decide), fun l2 hl2 => ?_⟩
    have s6 := same_new (o := .lst [.int 0]) hl2
    have n3 := s6 _ _ el3
    have e2 : (upd H3 l2 (.lst [.int 0])) l2 = some (.lst [.int 0]) := upd_same
    have hD5 := hD3.same s6
    have b5 := b4.trans (Bu2.of (d := d) (c := c) s6)
    have ix5 := ixn.same (nw_bu hD (Bu2.of s6))
    generalize upd H3 l2 (.lst [.int 0]) = H5 at *
    refine ⟨l, l2, _, _, rfl, rfl, n3, e2, Nat.le_of_lt (small1000 (by simp; omega)), fun l3 hl3 => ?_⟩
    have s7 := same_new (o := .lst (xs ++ [.int 0])) hl3
    refine ⟨l3, _, rfl, .inl ⟨SqL.of upd_same, fun t ht => ?_⟩⟩
    refine fin _ _ (ws ++ [.int 0]) (hD5.same s7) (b5.trans (Bu2.of s7)) ((ix5.app (.cons (.int _) .nil)).same (nw_bu hD (Bu2.of s7))) ?_ t ht
    obtain ⟨w1, w2⟩ := wds_len (ws := ws ++ [.int 0]) (by simp; omega)
    refine ⟨w1, w2, (fit_wds (ws := ws ++ [.int 0]) (fun e he => ?_) (by simp; omega)).1⟩
    rcases List.mem_append.mp he with h | h
    · exact List.mem_append_left _ (hw e h)
    · rw [List.mem_singleton.mp h]; simp
  refine ⟨_, rfl, rfl, _, rfl, ite2 (fun _ => ?_) (fun _ => ?_)⟩
  · refine ⟨_, rfl, (by show 0 ≤ sizeLine; decide), fun t0 ht0 => ?_⟩
    have s6 := same_new (o := .tup []) ht0
    have i0 : Is C (nw H (upd H3 t0 (.tup []))) (.ref t0) (.tup []) := .tup (nw_at (off_new b4 hD3 ht0) upd_same) .nil
    have hD5 := hD3.same s6
    have b5 := b4.trans (Bu2.of (d := d) (c := c) s6)
    generalize upd H3 t0 (.tup []) = H5 at *
    intro t1 ht1
    have s7 := same_new (o := .dK []) ht1
    have i1 : Is C (nw H (upd H5 t1 (.dK []))) (.ref t1) .dct := .dct (nw_at (off_new b5 hD5 ht1) upd_same)
    have i0 := i0.same (nw_bu hD (Bu2.of s7))
    have hD6 := hD5.same s7
    have b6 := b5.trans (Bu2.of (d := d) (c := c) s7)
    generalize upd H5 t1 (.dK []) = H6 at *
    refine ⟨(by show 5 ≤ sizeLine; decide), fun l2 hl2 => ?_⟩
    refine pick_new hD6 hl2 (by show 0 < 5; decide) (by show 5 < 1000000; decide) fun H' x hD' b' hx => ?_
    have ia : IsA C (nw H H6) [.non, .int 5, .str "abcd", .ref t0, .ref t1] [.non, .int 5, .str "abcd", .tup [], .dct] := .cons .non (.cons (.int _) (.cons (.str _) (.cons i0 (.cons i1 .nil))))
    obtain ⟨e, he, ie⟩ := isA_mem ia hx
    refine q H' x e hD' (b6.trans b') (ie.same (nw_bu hD b')) ?_
    have hN : ∀ e ∈ ([.non, .int 5, .str "abcd", .tup [], .dct] : List D), NoW e := by
      intro e he
      simp only [List.mem_cons, List.not_mem_nil, or_false] at he
      rcases he with rfl | rfl | rfl | rfl | rfl <;> exact ⟨by decide +kernel, by decide +kernel, by decide +kernel, by decide +kernel⟩
    exact hN e he
  unfold tNext
  dsimp only
  refine ⟨_, rfl, d, c, rfl, hD3, fun H4 x2 e2 hD4 b5 ie2 he2 => ?_⟩
  refine ⟨_, rfl, _, rfl, d, c, 4, rfl, hD4, by decide, by decide, fun H5 j hD5 b6 j0 j1 => ?_⟩
  have el5 := b6 _ _ (b5 _ _ el3 lo.1 lo.2) lo.1 lo.2
  obtain ⟨jn, rfl⟩ : ∃ jn : Nat, j = (jn : Int) := ⟨j.toNat, by omega⟩
  refine ⟨l, _, _, jn, rfl, rfl, el5, ixN_of (by omega), ?_⟩
  have kk := Keep.lst (C := C) (ys := xs.set jn x2) el5
  have i9 : IsA C (nw H (upd H5 l (.lst (xs.set jn x2)))) (xs.set jn x2) (ws.set jn e2) := by
    have b7 := (b4.trans b5).trans b6
    have j1 : IsA C H5 xs ws := IsA.keep (hD4.keep b6) (wds_cln hw) (IsA.keep (hD3.keep b5) (wds_cln hw) ix3)
    have j2 : IsA C (upd H5 l (.lst (xs.set jn x2))) xs ws := IsA.keep kk (wds_cln hw) j1
    have ld : LDk H (upd H5 l (.lst (xs.set jn x2))) := fun b o e hld => by
      obtain ⟨o', e1, l1⟩ := LDk.bu hD5 b7 b o e hld
      exact ⟨o', by rw [upd_ne (ne_of_none e lH)]; exact e1, l1⟩
    have j3 := IsA.nw ld (wds_cln hw) j2
    have k2 : Is C (nw H3 H5) x2 e2 := ie2.same (nw_bu hD3 b6)
    have k3 : Is C (nw H3 (upd H5 l (.lst (xs.set jn x2)))) x2 e2 := k2.same (nw_upd el3 rfl)
    exact isA_set jn j3 (k3.same (nw_sub (LDk.bu hD3 b4)))
  have e6 : (upd H5 l (.lst (xs.set jn x2))) l = some (.lst (xs.set jn x2)) := upd_same
  have hD6 : Dr (upd H5 l (.lst (xs.set jn x2))) d c := by
    obtain ⟨⟨r0, m0, f1⟩, ns, hn, f2⟩ := hD5
    exact ⟨⟨r0, m0, by rw [upd_ne lo.1.symm]; exact f1⟩, ns, hn, by rw [upd_ne lo.2.symm]; exact f2⟩
  have b8 : Bu2 d c H (upd H5 l (.lst (xs.set jn x2))) := fun b o e n1 n2 => by
    rw [upd_ne (ne_of_none e lH)]
    exact ((b4.trans b5).trans b6) b o e n1 n2
  generalize upd H5 l (.lst (xs.set jn x2)) = H7 at *
  refine ⟨_, rfl, l, _, rfl, .inl ⟨SqL.of e6, fun t ht => ?_⟩⟩
  have hmem : e2 ∈ ws.set jn e2 := List.mem_set (by omega) e2
  obtain ⟨w1, w2⟩ := wds_bad hmem he2
  refine fin _ _ _ hD6 b8 i9 ⟨w1, w2, (fit_wds (ws := ws.set jn e2) (fun e he => ?_) (by rw [List.length_set]; omega)).1⟩ t ht
  rcases List.mem_or_eq_of_mem_set he with h | h
  · exact List.mem_append_left _ (hw e h)
  · rw [h]; exact List.mem_append_right _ he2
end
end Hc

set_option maxHeartbeats 8000000
namespace Hc
open PySem PySem.Spec PyProof.Rows L2 Hr
def PartR (e : D) (ns ns' : List Int) : Prop := (∃ p ws i, e = .tup [.str "page", .int p, ws] ∧ ns[i]? = some p ∧ ns' = ns.eraseIdx i ∧ WdsOk ws) ∨ (∃ pr ws, e = .tup [.str "cpu", pr, ws] ∧ pr ∈ progsD ∧ WdsOk ws ∧ ns' = ns)
/-- all but these three stay -/
def Bu3 (d c l : Addr) (H H' : Hp) : Prop := ∀ b o, H b = some o → b ≠ d → b ≠ c → b ≠ l → H' b = some o
def spPart (C : Addr) : Sp := fun vs H Q _ => ∃ d c l ns, vs = [.ref d, .ref l] ∧ Dr H d c ∧ H l = some (.lst (ns.map V.int)) ∧ l ≠ d ∧ l ≠ c ∧ ns.length ≤ 8 ∧ ∀ H' x e ns', Dr H' d c → Bu3 d c l H H' → H' l = some (.lst (ns'.map V.int)) → Is C H' x e → PartR e ns ns' → Q x H'
theorem prog_cln : clnL progsD = true := by decide +kernel
theorem eraseIdx_map (ns : List Int) (i : Nat) : (ns.map V.int).eraseIdx i = (ns.eraseIdx i).map V.int := by
  induction ns generalizing i with
  | nil => rfl
  | cons n ns ih => cases i with
    | zero => rfl
    | succ i => simp [ih]
section
variable {P : Program} {w : World} {K : PySem.W.Frag} {mg : Str → Option Value} {base : Heap} {f : Addr} {fd : FuncData} {C : Addr}
abbrev s__law_part : Stmt := top 60
theorem sc__law_part : FnScope ["draws", "left"] ["draws", "left"] (C8.fnScope s__law_part) := C8.fnScope_by (by decide +kernel)
theorem ok__law_part (F : C8.Def K mg "_law_part" s__law_part f fd) (b : Binds K fd ["draws", "left"] []) (T : Txt K mg w C) (c__law_draw : C8.Cal P w K mg base 1 "_law_draw" spDraw []) (c__law_words : C8.Cal P w K mg base 7 "_law_words" (spOne C WdsOk) []) (c__law_program : C8.Cal P w K mg base 3 "_law_program" (spOne C (· ∈ progsD)) []) : C8.Cal P w K mg base 8 "_law_part" (spPart C) [] := by
  refine C8.cal0 F b .nil sc__law_part (fun vs H Q E h => ?_) (fun cdv A outer s H vs Q E hr h => ?_)
  · obtain ⟨d, c, l, ns, rfl, _⟩ := h; rfl
  obtain ⟨d, c, l, ns, rfl, hD, hl, nd, nc, hn, q⟩ := h
  refine ⟨_, (pss_cons (ps_if (PW.pt (pw_and (pt_truth (pv 1) (fun _ => rfl)) (pw_and1 (pt_cmpR op_eq (C8.pe_c c__law_draw hr (by first | decide | omega) rfl (pa_cons (pv 0) (pa_cons pe_int pa_nil))) pe_int (nomark _))))) (pss_one (ps_ret (pe_tup (pa_cons pe_str (pa_cons (pe_bm PySem.F.plainAttrs_list PySem.F.slot_list_pop PySem.F.type_list_pop mt_popAt (pv 1) (pa_cons (C8.pe_c c__law_draw hr (by first | decide | omega) rfl (pa_cons (pv 0) (pa_cons (pe_callB call_lenS rfl T.z_len bt_len (pa_cons (pv 1) pa_nil)) pa_nil))) pa_nil)) (pa_cons (C8.pe_c c__law_words hr (by first | decide | omega) rfl (pa_cons (pv 0) pa_nil)) pa_nil)))))) pss_nil)
      (pss_one (ps_ret (pe_tup (pa_cons pe_str (pa_cons (C8.pe_c c__law_program hr (by first | decide | omega) rfl (pa_cons (pv 0) pa_nil)) (pa_cons (C8.pe_c c__law_words hr (by first | decide | omega) rfl (pa_cons (pv 0) pa_nil)) pa_nil))))))), ?_⟩
  have cpu : ∀ H1, Dr H1 d c → Bu2 d c H H1 → (tRet (tTup (tCons (tC (.str "cpu")) (tCons (tCall (spOne C (· ∈ progsD)) [] C8.E0 (tCons (tVar 0) tNil)) (tCons (tCall (spOne C WdsOk) [] C8.E0 (tCons (tVar 0) tNil)) tNil))))) { nx := fun x H' => Q V.non H', rt := Q } [some (.ref d), some (.ref l)] H1 := fun H1 hD1 b1 => by
    refine ⟨_, rfl, d, c, rfl, hD1, fun H2 x e hD2 b2 ie he => ⟨_, rfl, d, c, rfl, hD2, fun H3 y g hD3 b3 ig hg => ⟨(by show 3 ≤ sizeLine; decide), fun t ht => ?_⟩⟩⟩
    have s4 := same_new (o := .tup [.str "cpu", x, y]) ht
    have b4 := ((b1.trans b2).trans b3).trans (Bu2.of s4)
    have ie3 : Is C H3 x e := Is.keep (hD2.keep b3) (clnL_iff.mp prog_cln e he) (ie.same nw_le)
    refine q _ _ (.tup [.str "cpu", e, g]) ns (hD3.same s4) (fun b o e n1 n2 _ => b4 b o e n1 n2) (b4 _ _ hl nd nc) (.tup upd_same (.cons (.str _) (.cons (ie3.same s4) (.cons ((ig.same nw_le).same s4) .nil)))) (.inr ⟨e, g, rfl, he, hg, rfl⟩)
  refine ⟨_, rfl, _, .inl ⟨_, SqL.of hl, rfl⟩, ?_⟩
  by_cases hns : ns = []
  · subst hns
    exact iteF (cpu H hD Bu2.refl)
  have hpos : 0 < ns.length := List.length_pos_iff.mpr hns
  refine bT (by cases ns <;> first | exact absurd rfl hns | rfl) ?_
  refine ⟨_, rfl, d, c, 2, rfl, hD, by decide, by decide, fun H1 r hD1 b1 g0 g1 => ⟨rfl, _, rfl, ite2 (fun _ => ?_) (fun _ => cpu H1 hD1 b1)⟩⟩
  have l1 := b1 _ _ hl nd nc
  refine ⟨_, rfl, .inl ⟨rfl, _, SqL.of l1⟩, _, rfl, _, rfl, l, _, rfl, .inl (SqL.of l1), d, c, _, rfl, hD1, by rw [List.length_map]; omega, by rw [List.length_map]; omega, fun H2 j hD2 b2 j0 j1 => ?_⟩
  rw [List.length_map] at j1
  have l2 := b2 _ _ l1 nd nc
  obtain ⟨jn, rfl⟩ : ∃ jn : Nat, j = (jn : Int) := ⟨j.toNat, by omega⟩
  have hjn : jn < ns.length := by omega
  have hv : (ns.map V.int)[jn]? = some (.int ns[jn]) := by rw [List.getElem?_map, List.getElem?_eq_getElem hjn]; rfl
  refine ⟨l, _, _, jn, _, rfl, rfl, l2, by omega, by omega, PySem.StrLaws.seqIndex_nonneg (by omega) (by simp; omega), hv, ?_⟩
  rw [eraseIdx_map]
  have l3 : (upd H2 l (.lst ((ns.eraseIdx jn).map V.int))) l = some (.lst ((ns.eraseIdx jn).map V.int)) := upd_same
  have hD3 : Dr (upd H2 l (.lst ((ns.eraseIdx jn).map V.int))) d c := by
    obtain ⟨⟨r0, m0, f1⟩, n0, hn0, f2⟩ := hD2
    exact ⟨⟨r0, m0, by rw [upd_ne nd.symm]; exact f1⟩, n0, hn0, by rw [upd_ne nc.symm]; exact f2⟩
  have b3 : Bu3 d c l H (upd H2 l (.lst ((ns.eraseIdx jn).map V.int))) := fun b o e n1 n2 n3 => by
    rw [upd_ne n3]; exact (b1.trans b2) b o e n1 n2
  generalize upd H2 l (.lst ((ns.eraseIdx jn).map V.int)) = H3 at *
  refine ⟨_, rfl, d, c, rfl, hD3, fun H4 x e hD4 b4 ie he => ⟨(by show 3 ≤ sizeLine; decide), fun t ht => ?_⟩⟩
  have s5 := same_new (o := .tup [.str "page", .int ns[jn], x]) ht
  exact q _ _ (.tup [.str "page", .int ns[jn], e]) (ns.eraseIdx jn) (hD4.same s5) (fun b o e0 n1 n2 n3 => s5 _ _ (b4 _ _ (b3 b o e0 n1 n2 n3) n1 n2)) (s5 _ _ (b4 _ _ l3 nd nc)) (.tup upd_same (.cons (.str _) (.cons (.int _) (.cons ((ie.same nw_le).same s5) .nil)))) (.inl ⟨_, e, jn, rfl, List.getElem?_eq_getElem hjn, rfl, he⟩)
end
end Hc

set_option maxHeartbeats 8000000
namespace Hc
open PySem PySem.Spec PyProof.Rows L2 Hr
def PartE (e : D) : Prop := (∃ p ws, e = .tup [.str "page", .int p, .tup ws] ∧ 0 ≤ p ∧ p < 8 ∧ ws.length = 4 ∧ ∀ w ∈ ws, w ∈ rowsD) ∨ (∃ pr ws, e = .tup [.str "cpu", pr, .tup ws] ∧ pr ∈ progsD ∧ ws.length = 4 ∧ ∀ w ∈ ws, w ∈ rowsD)
def sml (e : D) : Prop := sz e ≤ 20000 ∧ txb e = true
def NoP (e : D) : Prop := okP e = false ∧ sml e ∧ PtOk e
def nmB (d : D) : Bool := match d with | .tup (.str k :: ds) => ((progF.any fun p => decide (p.1 = k)) || (moreM.any fun z => decide (z = k))) && decide (ds.length ≤ 1000) | _ => true
theorem nmB_ok {d : D} (h : nmB d = true) : NmOk moreM d := by
  unfold NmOk
  split
  · rename_i k ds
    simp only [nmB, Bool.and_eq_true, Bool.or_eq_true, decide_eq_true_eq] at h
    refine ⟨?_, h.2⟩
    rcases h.1 with h | h
    · obtain ⟨p, h1, h2⟩ := List.any_eq_true.mp h
      exact .inl ⟨p, h1, of_decide_eq_true h2⟩
    · obtain ⟨p, h1, h2⟩ := List.any_eq_true.mp h
      exact .inr (by rw [← of_decide_eq_true h2]; exact h1)
  · trivial
def pgB (d : D) : Bool := match d with | .tup ds => decide (ds.length ≤ 1000) && ds.all nmB | _ => true
theorem pgB_ok {d : D} (h : pgB d = true) : PgOk moreM d := by
  cases d with
  | tup ds =>
    simp only [pgB, Bool.and_eq_true, decide_eq_true_eq] at h
    exact ⟨h.1, fun e he => nmB_ok (List.all_eq_true.mp h.2 e he)⟩
  | _ => trivial
theorem progs_ok : ∀ e ∈ progsD, sz e ≤ 1000 ∧ txb e = true ∧ pgB e = true ∧ progD e = true := by
  have h : (progsD.all fun e => decide (sz e ≤ 1000) && txb e && pgB e && progD e) = true := by decide +kernel
  intro e he
  have := List.all_eq_true.mp h e he
  simp only [Bool.and_eq_true, decide_eq_true_eq] at this
  exact ⟨this.1.1.1, this.1.1.2, this.1.2, this.2⟩
theorem noProg_ok : ∀ e ∈ noProgD, sz e ≤ 1000 ∧ txb e = true ∧ pgB e = true ∧ progD e = false := by
  have h : (noProgD.all fun e => decide (sz e ≤ 1000) && txb e && pgB e && !progD e) = true := by decide +kernel
  intro e he
  have := List.all_eq_true.mp h e he
  simp only [Bool.and_eq_true, decide_eq_true_eq, Bool.not_eq_true'] at this
  exact ⟨this.1.1.1, this.1.1.2, this.1.2, this.2⟩
theorem smal_wds {ws : List D} (hl : ws.length = 4) (h : ∀ w ∈ ws, w ∈ rowsD) : smal (.tup ws) := by
  have h1 := szL_le (ws := ws) (fun e he => (rn_ok e (List.mem_append_left _ (h e he))).1)
  have h2 := txbL_of (ws := ws) (fun e he => (rn_ok e (List.mem_append_left _ (h e he))).2)
  exact ⟨by simp only [sz]; omega, by simp only [txb]; exact h2⟩
theorem fit_l {es : List D} (h : ∀ e ∈ es, smal e) (hl : es.length ≤ 5) : sml (.tup es) ∧ sml (.lst es) := by
  have h1 : szL es ≤ 3000 * es.length := by
    clear hl
    induction es with
    | nil => simp [szL]
    | cons w ws ih =>
      have a := (h w (by simp)).1
      have b := ih (fun e he => h e (by simp [he]))
      simp only [szL, List.length_cons]; omega
  have h2 := txbL_of (ws := es) (fun e he => (h e he).2)
  exact ⟨⟨by simp only [sz]; omega, by simp only [txb]; exact h2⟩, ⟨by simp only [sz]; omega, by simp only [txb]; exact h2⟩⟩
theorem okP_not {n a b : D} (h1 : n = .str "page" → (belD a 8 && wdsB b) = false) (h2 : n = .str "cpu" → (progD a && regD b) = false) : okP (.tup [n, a, b]) = false := by
  unfold okP
  rw [Bool.or_eq_false_iff]
  constructor
  · cases n with
    | str k =>
      by_cases c : k = "page"
      · subst c; simp only [pgP]; rw [h1 rfl]; simp
      · simp only [pgP]; rw [decide_eq_false c]; rfl
    | _ => rfl
  · cases n with
    | str k =>
      by_cases c : k = "cpu"
      · subst c; simp only [cpP]; rw [h2 rfl]; simp
      · simp only [cpP]; rw [decide_eq_false c]; rfl
    | _ => rfl
theorem part_3 {e : D} (h : PartE e) : ∃ k a ws, e = .tup [.str k, a, .tup ws] ∧ smal a ∧ cln a = true ∧ PgOk moreM a ∧ ws.length = 4 ∧ (∀ w ∈ ws, w ∈ rowsD) ∧ ((k = "page" ∧ ∃ p, a = .int p ∧ 0 ≤ p ∧ p < 8) ∨ (k = "cpu" ∧ a ∈ progsD)) := by
  rcases h with ⟨p, ws, rfl, h0, h1, hl, hw⟩ | ⟨pr, ws, rfl, hp, hl, hw⟩
  · exact ⟨_, _, ws, rfl, ⟨by show 1 ≤ 3000; decide, rfl⟩, rfl, trivial, hl, hw, .inl ⟨rfl, p, rfl, h0, h1⟩⟩
  · obtain ⟨a, b, c, _⟩ := progs_ok pr hp
    exact ⟨_, _, ws, rfl, ⟨by omega, b⟩, clnL_iff.mp prog_cln pr hp, pgB_ok c, hl, hw, .inr ⟨rfl, hp⟩⟩
def spWr (C : Addr) : Sp := fun vs H Q _ => ∃ d c x e, vs = [.ref d, x] ∧ Dr H d c ∧ Is C H x e ∧ PartE e ∧ ∀ H' x' e', Dr H' d c → Bu2 d c H H' → Is C (nw H H') x' e' → NoP e' → Q x' H'
theorem lits4 : ∀ e ∈ ([.non, .int 5, .str "page", .tup [], .dct, .str "cpu"] : List D), NoP e := by
  intro e he
  simp only [List.mem_cons, List.not_mem_nil, or_false] at he
  rcases he with rfl | rfl | rfl | rfl | rfl | rfl <;> exact ⟨by decide +kernel, ⟨by decide +kernel, by decide +kernel⟩, trivial⟩
section
variable {P : Program} {w : World} {K : PySem.W.Frag} {mg : Str → Option Value} {base : Heap} {f : Addr} {fd : FuncData} {C : Addr}
abbrev s__law_wrong : Stmt := top 61
theorem sc__law_wrong : FnScope ["draws", "part", "kind"] ["draws", "part"] (C8.fnScope s__law_wrong) := C8.fnScope_by (by decide +kernel)
theorem ok__law_wrong (F : C8.Def K mg "_law_wrong" s__law_wrong f fd) (b : Binds K fd ["draws", "part"] []) (T : Txt K mg w C) (c__law_draw : C8.Cal P w K mg base 1 "_law_draw" spDraw []) (c__law_pick : C8.Cal P w K mg base 2 "_law_pick" spPick []) (c__law_no_words : C8.Cal P w K mg base 8 "_law_no_words" (spOne C NoW) []) (c__law_no_program : C8.Cal P w K mg base 3 "_law_no_program" (spOne C (· ∈ noProgD)) []) (c__law_deep : C8.Cal P w K mg base 1 "_law_deep" (spDeep C) []) : C8.Cal P w K mg base 9 "_law_wrong" (spWr C) [] := by
  refine C8.cal0 F b .nil sc__law_wrong (fun vs H Q E h => ?_) (fun cdv A outer s H vs Q E hr h => ?_)
  · obtain ⟨d, c, x, e, rfl, _⟩ := h; rfl
  obtain ⟨d, c, x, e, rfl, hD, hx, he, q⟩ := h
  obtain ⟨k, a, ws, rfl, ha, hca, hga, hwl, hw, hk⟩ := part_3 he
  have hsw := smal_wds hwl hw
  have hcw := wds_cln hw
  have hsk : smal (.str k) := by rcases hk with ⟨rfl, _⟩ | ⟨rfl, _⟩ <;> exact ⟨by decide +kernel, by decide +kernel⟩
  have hcl : cln (.tup [.str k, a, .tup ws]) = true := by simp only [cln, clnL, hca, hcw]; rfl
  refine ⟨_, (pss_cons (ps_set (i := 2) sc__law_wrong.nd rfl (Or.inl rfl) (C8.pe_c c__law_draw hr (by first | decide | omega) rfl (pa_cons (pv 0) (pa_cons pe_int pa_nil))))
      (pss_cons (ps_if (pt_cmpR op_eq (pv 2) pe_int (nomark _)) (pss_one (ps_ret (pe_callTy call_list_of rfl T.z_list bt_list (pa_cons (pv 1) pa_nil)))) pss_nil)
      (pss_cons (ps_if (pt_cmpR op_eq (pv 2) pe_int (nomark _)) (pss_one (ps_ret (pe_slice sl_tupA (pv 1) po_none (po_some (C8.pe_c c__law_draw hr (by first | decide | omega) rfl (pa_cons (pv 0) (pa_cons pe_int pa_nil))))))) pss_nil)
      (pss_cons (ps_if (pt_cmpR op_eq (pv 2) pe_int (nomark _)) (pss_one (ps_ret (pe_op op_catA (pv 1) (pe_tup (pa_cons (C8.pe_c c__law_pick hr (by first | decide | omega) rfl (pa_cons (pv 0) (pa_cons (pe_lst (pa_cons pe_int (pa_cons pe_non (pa_cons (pe_tup pa_nil) pa_nil)))) pa_nil))) pa_nil))))) pss_nil)
      (pss_cons (ps_if (pt_cmpR op_eq (pv 2) pe_int (nomark _)) (pss_one (ps_ret (pe_op op_catA (pe_tup (pa_cons (C8.pe_c c__law_pick hr (by first | decide | omega) rfl (pa_cons (pv 0) (pa_cons (pe_lst (pa_cons pe_str (pa_cons pe_str (pa_cons pe_int (pa_cons pe_non (pa_cons pe_str (pa_cons (pe_dget (ru hr) (pe_disp (pps_cons pe_str pe_str (pps_cons pe_str pe_str pps_nil)) rfl rfl (List.cons_ne_nil _ _) (by decide)) (pe_ix ix_tup (pv 1) pe_int (fun _ _ => rfl)) (fun _ _ => rfl)) pa_nil))))))) pa_nil))) pa_nil)) (pe_slice sl_tupA (pv 1) (po_some pe_int) po_none)))) pss_nil)
      (pss_cons (ps_if (pt_cmpR op_eq (pv 2) pe_int (nomark _)) (pss_one (ps_ret (C8.pe_c c__law_pick hr (by first | decide | omega) rfl (pa_cons (pv 0) (pa_cons (pe_lst (pa_cons pe_non (pa_cons pe_int (pa_cons pe_str (pa_cons (pe_tup pa_nil) (pa_cons pe_dnewK (pa_cons pe_str pa_nil))))))) pa_nil))))) pss_nil)
      (pss_cons (ps_if (PW.pt (pw_and (pt_cmpR op_eq (pe_ix ix_tup (pv 1) pe_int (fun _ _ => rfl)) pe_str (nomark _)) (pw_and1 (pt_cmpR op_eq (pv 2) pe_int (nomark _))))) (pss_one (ps_ret (pe_tup (pa_cons pe_str (pa_cons (C8.pe_c c__law_pick hr (by first | decide | omega) rfl (pa_cons (pv 0) (pa_cons (pe_lst (pa_cons (pe_un un_neg pe_int) (pa_cons pe_int (pa_cons pe_bl (pa_cons pe_bl (pa_cons pe_non (pa_cons pe_str (pa_cons pe_int (pa_cons (pe_tup (pa_cons pe_int pa_nil)) pa_nil))))))))) pa_nil))) (pa_cons (pe_ix ix_tup (pv 1) pe_int (fun _ _ => rfl)) pa_nil)))))) pss_nil)
      (pss_cons (ps_if (pt_cmpR op_eq (pe_ix ix_tup (pv 1) pe_int (fun _ _ => rfl)) pe_str (nomark _)) (pss_one (ps_ret (pe_tup (pa_cons pe_str (pa_cons (pe_ix ix_tup (pv 1) pe_int (fun _ _ => rfl)) (pa_cons (C8.pe_c c__law_no_words hr (by first | decide | omega) rfl (pa_cons (pv 0) pa_nil)) pa_nil)))))) pss_nil)
      (pss_cons (ps_if (pt_cmpR op_eq (pv 2) pe_int (nomark _)) (pss_one (ps_ret (pe_tup (pa_cons pe_str (pa_cons (C8.pe_c c__law_no_program hr (by first | decide | omega) rfl (pa_cons (pv 0) pa_nil)) (pa_cons (pe_ix ix_tup (pv 1) pe_int (fun _ _ => rfl)) pa_nil)))))) pss_nil)
      (pss_one (ps_ret (pe_tup (pa_cons pe_str (pa_cons (pe_ix ix_tup (pv 1) pe_int (fun _ _ => rfl)) (pa_cons (C8.pe_c c__law_pick hr (by first | decide | omega) rfl (pa_cons (pv 0) (pa_cons (pe_lst (pa_cons (C8.pe_c c__law_no_words hr (by first | decide | omega) rfl (pa_cons (pv 0) pa_nil)) (pa_cons (pe_tup (pa_cons pe_int (pa_cons (C8.pe_c c__law_deep hr (by first | decide | omega) rfl (pa_cons pe_int pa_nil)) (pa_cons pe_int (pa_cons pe_int pa_nil))))) pa_nil))) pa_nil))) pa_nil))))))))))))))), ?_⟩
  refine ⟨_, rfl, d, c, 7, rfl, hD, by decide, by decide, fun H1 r hD1 b1 g0 g1 => ?_⟩
  have hx1 := Is.keep (hD.keep b1) hcl hx
  have ixn : Is C (nw H H1) x (.tup [.str k, a, .tup ws]) := Is.nw (LDk.bu hD1 b1) hcl hx1
  clear hx
  cases hx1 with
  | @tup px xs _ hp hxs =>
  cases hxs with
  | @cons y0 _ _ _ i0 hxs => cases hxs with
  | @cons y1 _ _ _ i1 hxs => cases hxs with
  | @cons y2 _ _ _ i2 hxs =>
  cases hxs
  cases i0
  obtain ⟨n1, n2⟩ : Is C (nw H H1) y1 a ∧ Is C (nw H H1) y2 (.tup ws) := by
    cases ixn with
    | @tup _ xs' _ hp' hxs' =>
    have := nw_le _ _ hp'
    rw [hp] at this
    cases this
    cases hxs' with
    | cons _ t => cases t with
      | cons j1 t => cases t with
        | cons j2 t => exact ⟨j1, j2⟩
  have cl1 : cln a = true := hca
  have fin : ∀ (G : Hp) (t : Addr) (ys : List V) (es : List D), Dr G d c → Bu2 d c H G → IsA C (nw H G) ys es → NoP (.tup es) → G t = none → Q (.ref t) (upd G t (.tup ys)) := fun G t ys es hG bG iy hn ht => by
    have s9 := same_new (o := .tup ys) ht
    exact q _ _ (.tup es) (hG.same s9) (bG.trans (Bu2.of s9)) (.tup (nw_at (off_new bG hG ht) upd_same) (iy.same (nw_bu hD (Bu2.of s9)))) hn
  have finP : ∀ (G : Hp) (p : Addr) (es : List D), Dr G d c → Bu2 d c H G → Is C G (.ref p) (.tup es) → clnL es = true → NoP (.tup es) → Q (.ref p) G := fun G p es hG bG i hc hn => q G _ _ hG bG (Is.nw (LDk.bu hG bG) (by simp only [cln]; exact hc) i) hn
  refine ⟨_, rfl, rfl, _, rfl, ite2 (fun _ => ?_) (fun _ => ?_)⟩
  · -- a list
    refine ⟨_, rfl, px, _, rfl, .inr (SqT.of hp), fun l hl => ?_⟩
    have s2 := same_new (o := .lst [.str k, y1, y2]) hl
    have m := nw_bu (H := H) hD (Bu2.of (d := d) (c := c) s2)
    refine q _ _ (.lst [.str k, a, .tup ws]) (hD1.same s2) (b1.trans (Bu2.of s2)) (.lst (nw_at (off_new b1 hD1 hl) upd_same) (.cons (.str _) (.cons (n1.same m) (.cons (n2.same m) .nil)))) ⟨rfl, (fit_l (es := [.str k, a, .tup ws]) (by intro e he; simp at he; rcases he with rfl | rfl | rfl <;> assumption) (by simp)).2, trivial⟩
  refine ⟨_, rfl, rfl, _, rfl, ite2 (fun _ => ?_) (fun _ => ?_)⟩
  · refine ⟨_, rfl, _, rfl, d, c, 3, rfl, hD1, by decide, by decide, fun H2 j hD2 b2 j0 j1 => ⟨j, rfl, ?_⟩⟩
    obtain ⟨jn, rfl⟩ : ∃ jn : Nat, j = (jn : Int) := ⟨j.toNat, by omega⟩
    have hp2 : H2 px = some (.tup [.str k, y1, y2]) := (hD1.keep (C := C) b2).tup _ _ hp
    have i12 := Is.keep (hD1.keep b2) hca i1
    have i22 := Is.keep (hD1.keep b2) (by simp only [cln]; exact hcw) i2
    have ia2 : IsA C H2 [.str k, y1, y2] [.str k, a, .tup ws] := .cons (.str _) (.cons i12 (.cons i22 .nil))
    refine sl_go (lo := none) (hi := some (jn : Int)) hp2 fun H3 p s3 ep => ?_
    rw [cut_to] at ep
    refine finP H3 p ([.str k, a, .tup ws].take jn) (hD2.same s3) ((b1.trans b2).trans (Bu2.of s3)) (.tup ep ((isA_take jn ia2).same s3)) ?_ ?_
    · exact clnL_iff.mpr fun e he => clnL_iff.mp (show clnL [.str k, a, .tup ws] = true by simpa only [cln] using hcl) e (List.mem_of_mem_take he)
    · have hlt : ([.str k, a, .tup ws].take jn).length < 3 := by rw [List.length_take]; omega
      refine ⟨?_, (fit_l (es := [.str k, a, .tup ws].take jn) (fun e he => ?_) (by omega)).1, ?_⟩
      · unfold okP pgP cpP
        match h : [D.str k, a, .tup ws].take jn, hlt with
        | [], _ => rfl
        | [z], _ => cases z <;> rfl
        | [z, z2], _ => cases z <;> rfl
      · have := List.mem_of_mem_take he
        simp at this
        rcases this with rfl | rfl | rfl <;> assumption
      · unfold PtOk
        match h : [D.str k, a, .tup ws].take jn, hlt with
        | [], _ => trivial
        | [z], _ => trivial
        | [z, z2], _ => trivial
  refine ⟨_, rfl, rfl, _, rfl, ite2 (fun _ => ?_) (fun _ => ?_)⟩
  · refine ⟨_, rfl, _, rfl, (by show 0 ≤ sizeLine; decide), fun t0 ht0 => ?_⟩
    have s2 := same_new (o := .tup []) ht0
    have it0 : Is C (upd H1 t0 (.tup [])) (.ref t0) (.tup []) := .tup upd_same .nil
    have i1 := i1.same s2
    have i2 := i2.same s2
    have hp := s2 _ _ hp
    have hD2 := hD1.same s2
    have b2 := b1.trans (Bu2.of (d := d) (c := c) s2)
    generalize upd H1 t0 (.tup []) = H2 at *
    refine ⟨(by show 3 ≤ sizeLine; decide), fun l hl => ?_⟩
    refine pick_new hD2 hl (by show 0 < 3; decide) (by show 3 < 1000000; decide) fun H3 z hD3 b3 hz => ?_
    have kk := hD2.keep (C := C) b3
    have iz : ∃ e3, (e3 = .int 0 ∨ e3 = .non ∨ e3 = .tup []) ∧ Is C H3 z e3 := by
      simp only [List.mem_cons, List.not_mem_nil, or_false] at hz
      rcases hz with rfl | rfl | rfl
      · exact ⟨_, .inl rfl, .int _⟩
      · exact ⟨_, .inr (.inl rfl), .non⟩
      · exact ⟨_, .inr (.inr rfl), Is.keep kk rfl it0⟩
    obtain ⟨e3, he3, iz⟩ := iz
    refine ⟨(by show 1 ≤ sizeLine; decide), fun t1 ht1 => ?_⟩
    have s4 := same_new (o := .tup [z]) ht1
    have hp4 := s4 _ _ (kk.tup _ _ hp)
    have e1 : (upd H3 t1 (.tup [z])) t1 = some (.tup [z]) := upd_same
    have i14 := (Is.keep kk hca i1).same s4
    have i24 := (Is.keep kk (by simp only [cln]; exact hcw) i2).same s4
    have iz4 := iz.same s4
    have hD4 := hD3.same s4
    have b4 := (b2.trans b3).trans (Bu2.of (d := d) (c := c) s4)
    generalize upd H3 t1 (.tup [z]) = H4 at *
    refine cat_go hp4 e1 (by show 3 + 1 ≤ sizeLine; decide) fun H5 p s5 ep => ?_
    have hs3 : smal e3 ∧ cln e3 = true := by rcases he3 with rfl | rfl | rfl <;> exact ⟨⟨by decide +kernel, by decide +kernel⟩, rfl⟩
    refine finP H5 p [.str k, a, .tup ws, e3] (hD4.same s5) (b4.trans (Bu2.of s5)) (.tup ep (.cons (.str _) (.cons (i14.same s5) (.cons (i24.same s5) (.cons (iz4.same s5) .nil))))) ?_ ⟨rfl, (fit_l (es := [.str k, a, .tup ws, e3]) (by intro e he; simp at he; rcases he with rfl | rfl | rfl | rfl <;> first | assumption | exact hs3.1) (by simp)).1, trivial⟩
    simp only [clnL, cln, hca, hcw, hs3.2]; rfl
  refine ⟨_, rfl, rfl, _, rfl, ite2 (fun _ => ?_) (fun _ => ?_)⟩
  · refine ⟨_, rfl, ?_⟩
    intro dd hd
    refine ⟨upd_same, [(.inr "page", .str "cpu"), (.inr "cpu", .str "page")], rfl, by show 2 ≤ 15; decide, ?_⟩
    rw [show mergeK [] [((.inr "page" : Key), V.str "cpu"), (.inr "cpu", .str "page")] = [(.inr "page", .str "cpu"), (.inr "cpu", .str "page")] by decide +kernel]
    have s2 := same_put (o := .dK [((.inr "page" : Key), V.str "cpu"), (.inr "cpu", .str "page")]) (same_new (o := .dK []) hd) hd
    have hv : valV [((.inr "page" : Key), V.str "cpu"), (.inr "cpu", .str "page")] (.inr k) = some (.str (if k = "page" then "cpu" else "page")) := by
      rcases hk with ⟨rfl, _⟩ | ⟨rfl, _⟩ <;> decide +kernel
    have hg := DGet.k (H := upd (upd H1 dd (.dK [])) dd (.dK [((.inr "page" : Key), V.str "cpu"), (.inr "cpu", .str "page")])) (k := .inr k) upd_same
    rw [hv] at hg
    have i1 := i1.same s2
    have i2 := i2.same s2
    have hp := s2 _ _ hp
    have hD2 := hD1.same s2
    have b2 := b1.trans (Bu2.of (d := d) (c := c) s2)
    generalize upd (upd H1 dd (.dK [])) dd (.dK [((.inr "page" : Key), V.str "cpu"), (.inr "cpu", .str "page")]) = H2 at *
    refine ⟨_, rfl, px, _, 0, _, rfl, rfl, SqT.of hp, atI_nat (j := 0) rfl, dd, _, rfl, hg, (by show 6 ≤ sizeLine; decide), fun l hl => ?_⟩
    refine pick_new hD2 hl (by show 0 < 6; decide) (by show 6 < 1000000; decide) fun H3 z hD3 b3 hz => ?_
    have kk := hD2.keep (C := C) b3
    obtain ⟨e0, iz, hs0, hc0, hn0⟩ : ∃ e0, Is C H3 z e0 ∧ smal e0 ∧ cln e0 = true ∧ (e0 = .str (if k = "page" then "cpu" else "page") ∨ (e0 ≠ .str "page" ∧ e0 ≠ .str "cpu")) := by
      simp only [List.mem_cons, List.not_mem_nil, or_false] at hz
      have z1 : ¬ (("Page" : Str) = "page") := by decide +kernel
      have z2 : ¬ (("Page" : Str) = "cpu") := by decide +kernel
      have z3 : ¬ (("" : Str) = "page") := by decide +kernel
      have z4 : ¬ (("" : Str) = "cpu") := by decide +kernel
      have z5 : ¬ (("cpus" : Str) = "page") := by decide +kernel
      have z6 : ¬ (("cpus" : Str) = "cpu") := by decide +kernel
      rcases hz with rfl | rfl | rfl | rfl | rfl | rfl
      · exact ⟨_, .str _, ⟨by decide +kernel, by decide +kernel⟩, rfl, .inr ⟨fun z => z1 (D.str.inj z), fun z => z2 (D.str.inj z)⟩⟩
      · exact ⟨_, .str _, ⟨by decide +kernel, by decide +kernel⟩, rfl, .inr ⟨fun z => z3 (D.str.inj z), fun z => z4 (D.str.inj z)⟩⟩
      · exact ⟨_, .int _, ⟨by decide +kernel, by decide +kernel⟩, rfl, .inr ⟨(fun z => nomatch z), (fun z => nomatch z)⟩⟩
      · exact ⟨_, .non, ⟨by decide +kernel, by decide +kernel⟩, rfl, .inr ⟨(fun z => nomatch z), (fun z => nomatch z)⟩⟩
      · exact ⟨_, .str _, ⟨by decide +kernel, by decide +kernel⟩, rfl, .inr ⟨fun z => z5 (D.str.inj z), fun z => z6 (D.str.inj z)⟩⟩
      · exact ⟨_, .str _, by rcases hk with ⟨rfl, _⟩ | ⟨rfl, _⟩ <;> exact ⟨by decide +kernel, by decide +kernel⟩, rfl, .inl rfl⟩
    refine ⟨(by show 1 ≤ sizeLine; decide), fun t1 ht1 => ?_⟩
    have s4 := same_new (o := .tup [z]) ht1
    have hp4 := s4 _ _ (kk.tup _ _ hp)
    have e1 : (upd H3 t1 (.tup [z])) t1 = some (.tup [z]) := upd_same
    have i14 := (Is.keep kk hca i1).same s4
    have i24 := (Is.keep kk (by simp only [cln]; exact hcw) i2).same s4
    have iz4 := iz.same s4
    have hD4 := hD3.same s4
    have b4 := (b2.trans b3).trans (Bu2.of (d := d) (c := c) s4)
    generalize upd H3 t1 (.tup [z]) = H4 at *
    refine ⟨_, rfl, 1, rfl, ?_⟩
    refine sl_goL hp4 fun H5 p2 s5 ep2 => ?_
    rw [show (1 : Int) = ((1 : Nat) : Int) from rfl, cut_from] at ep2
    have ep2 : H5 p2 = some (.tup [y1, y2]) := ep2
    refine cat_go (s5 _ _ e1) ep2 (by show 1 + 2 ≤ sizeLine; decide) fun H6 p s6 ep => ?_
    have s56 := s5.trans s6
    refine finP H6 p [e0, a, .tup ws] (hD4.same s56) (b4.trans (Bu2.of s56)) (.tup ep (.cons (iz4.same s56) (.cons (i14.same s56) (.cons (i24.same s56) .nil)))) (by simp only [clnL, cln, hca, hcw, hc0]; rfl) ⟨?_, (fit_l (es := [e0, a, .tup ws]) (by intro e he; simp at he; rcases he with rfl | rfl | rfl <;> assumption) (by simp)).1, hga⟩
    refine okP_not (fun h => ?_) (fun h => ?_)
    · rcases hn0 with hn0 | hn0
      · rw [h] at hn0
        rcases hk with ⟨rfl, _⟩ | ⟨rfl, hpg⟩
        · rw [if_pos rfl] at hn0; exact absurd (D.str.inj hn0).symm nPC
        · have : ∀ e ∈ progsD, belD e 8 = false := by
            have h : (progsD.all fun e => !belD e 8) = true := by decide +kernel
            intro e he
            simpa using List.all_eq_true.mp h e he
          rw [this a hpg]; rfl
      · exact absurd h hn0.1
    · rcases hn0 with hn0 | hn0
      · rw [h] at hn0
        rcases hk with ⟨rfl, p0, rfl, _⟩ | ⟨rfl, _⟩
        · rfl
        · rw [if_neg nPC] at hn0; exact absurd (D.str.inj hn0) nPC
      · exact absurd h hn0.2
  refine ⟨_, rfl, rfl, _, rfl, ite2 (fun _ => ?_) (fun _ => ?_)⟩
  · -- values of other kinds
    refine ⟨_, rfl, (by show 0 ≤ sizeLine; decide), fun t0 ht0 => ?_⟩
    have s6 := same_new (o := .tup []) ht0
    have j0 : Is C (nw H (upd H1 t0 (.tup []))) (.ref t0) (.tup []) := .tup (nw_at (off_new b1 hD1 ht0) upd_same) .nil
    have hD5 := hD1.same s6
    have b5 := b1.trans (Bu2.of (d := d) (c := c) s6)
    generalize upd H1 t0 (.tup []) = H5 at *
    intro t1 ht1
    have s7 := same_new (o := .dK []) ht1
    have j1 : Is C (nw H (upd H5 t1 (.dK []))) (.ref t1) .dct := .dct (nw_at (off_new b5 hD5 ht1) upd_same)
    have j0 := j0.same (nw_bu hD (Bu2.of s7))
    have hD6 := hD5.same s7
    have b6 := b5.trans (Bu2.of (d := d) (c := c) s7)
    generalize upd H5 t1 (.dK []) = H6 at *
    refine ⟨(by show 6 ≤ sizeLine; decide), fun l2 hl2 => ?_⟩
    refine pick_new hD6 hl2 (by show 0 < 6; decide) (by show 6 < 1000000; decide) fun H' x hD' b' hx => ?_
    have ia : IsA C (nw H H6) [.non, .int 5, .str "page", .ref t0, .ref t1, .str "cpu"] [.non, .int 5, .str "page", .tup [], .dct, .str "cpu"] := .cons .non (.cons (.int _) (.cons (.str _) (.cons j0 (.cons j1 (.cons (.str _) .nil)))))
    obtain ⟨e, he, ie⟩ := isA_mem ia hx
    exact q H' x e hD' (b6.trans b') (ie.same (nw_bu hD b')) (lits4 e he)
  have tup3 : ∀ (G : Hp) (t : Addr) (v0 v1 v2 : V) (e0 e1 e2 : D), Dr G d c → Bu2 d c H G → Is C (nw H G) v0 e0 → Is C (nw H G) v1 e1 → Is C (nw H G) v2 e2 → smal e0 → smal e1 → smal e2 → PgOk moreM e1 → (e0 = .str "page" → (belD e1 8 && wdsB e2) = false) → (e0 = .str "cpu" → (progD e1 && regD e2) = false) → G t = none → Q (.ref t) (upd G t (.tup [v0, v1, v2])) := fun G t v0 v1 v2 e0 e1 e2 hG bG j0 j1 j2 m0 m1 m2 g1 h1 h2 ht =>
    fin G t _ [e0, e1, e2] hG bG (.cons j0 (.cons j1 (.cons j2 .nil))) ⟨okP_not h1 h2, (fit_l (es := [e0, e1, e2]) (by intro e he; simp at he; rcases he with rfl | rfl | rfl <;> assumption) (by simp)).1, g1⟩ ht
  have sP : smal (.str "page") := ⟨by decide +kernel, by decide +kernel⟩
  have sC : smal (.str "cpu") := ⟨by decide +kernel, by decide +kernel⟩
  have nCP : ¬ (D.str "cpu" = .str "page") := fun z => nPC (D.str.inj z)
  have nPC2 : ¬ (D.str "page" = .str "cpu") := fun z => nPC (D.str.inj z).symm
  unfold tNext
  dsimp only
  refine ⟨_, rfl, px, _, 0, _, rfl, rfl, SqT.of hp, atI_nat (j := 0) rfl, rfl, _, rfl, ?_⟩
  have pageno : ∀ (b0 : Prop), True := fun _ => trivial
  rcases hk with ⟨rfl, p0, rfl, p1, p2⟩ | ⟨rfl, hpg⟩
  · refine ifT rfl ⟨_, rfl, rfl, _, rfl, ite2 (fun _ => ?_) (fun _ => ?_)⟩
    · -- a page that is none
      refine ⟨_, rfl, _, rfl, (by show 1 ≤ sizeLine; decide), fun t0 ht0 => ?_⟩
      have s2 := same_new (o := .tup [.int 1]) ht0
      have j0 : Is C (nw H (upd H1 t0 (.tup [.int 1]))) (.ref t0) (.tup [.int 1]) := .tup (nw_at (off_new b1 hD1 ht0) upd_same) (.cons (.int _) .nil)
      have n2 := n2.same (nw_bu (H := H) hD (Bu2.of (d := d) (c := c) s2))
      have hp := s2 _ _ hp
      have hD2 := hD1.same s2
      have b2 := b1.trans (Bu2.of (d := d) (c := c) s2)
      generalize upd H1 t0 (.tup [.int 1]) = H2 at *
      refine ⟨(by show 8 ≤ sizeLine; decide), fun l hl => ?_⟩
      refine pick_new hD2 hl (by show 0 < 8; decide) (by show 8 < 1000000; decide) fun H3 z hD3 b3 hz => ?_
      have m3 := nw_bu (H := H) hD b3
      have ia : IsA C (nw H H2) [.int (-1), .int 8, .bl true, .bl false, .non, .str "0", .int 2147483648, .ref t0] [.int (-1), .int 8, .bl true, .bl false, .non, .str "0", .int 2147483648, .tup [.int 1]] := .cons (.int _) (.cons (.int _) (.cons (.bl _) (.cons (.bl _) (.cons .non (.cons (.str _) (.cons (.int _) (.cons j0 .nil)))))))
      obtain ⟨e, he, ie⟩ := isA_mem ia hz
      have hE : ∀ e ∈ ([.int (-1), .int 8, .bl true, .bl false, .non, .str "0", .int 2147483648, .tup [.int 1]] : List D), smal e ∧ pgB e = true ∧ belD e 8 = false := by
        intro e he
        simp only [List.mem_cons, List.not_mem_nil, or_false] at he
        rcases he with rfl | rfl | rfl | rfl | rfl | rfl | rfl | rfl <;> exact ⟨⟨by decide +kernel, by decide +kernel⟩, by decide +kernel, by decide +kernel⟩
      obtain ⟨a1, a2, a3⟩ := hE e he
      refine ⟨_, rfl, px, _, 2, _, rfl, rfl, SqT.of ((hD2.keep (C := C) b3).tup _ _ hp), atI_nat (j := 2) rfl, (by show 3 ≤ sizeLine; decide), fun t ht => ?_⟩
      exact tup3 H3 t _ _ _ (.str "page") e (.tup ws) hD3 (b2.trans b3) (.str _) (ie.same m3) (n2.same m3) sP a1 hsw (pgB_ok a2) (fun _ => by rw [a3]; rfl) (fun h => absurd h nPC2) ht
    · refine ⟨_, rfl, px, _, 0, _, rfl, rfl, SqT.of hp, atI_nat (j := 0) rfl, rfl, _, rfl, ifT rfl ?_⟩
      refine ⟨_, rfl, px, _, 1, _, rfl, rfl, SqT.of hp, atI_nat (j := 1) rfl, _, rfl, d, c, rfl, hD1, fun H2 z e hD2 b2 ie hn => ⟨(by show 3 ≤ sizeLine; decide), fun t ht => ?_⟩⟩
      have m2 := nw_bu (H := H) hD b2
      exact tup3 H2 t _ _ _ (.str "page") (.int p0) e hD2 (b1.trans b2) (.str _) (n1.same m2) (ie.same (nw_sub (LDk.bu hD1 b1))) sP ha hn.2.2 trivial (fun _ => by rw [hn.1, Bool.and_false]) (fun h => absurd h nPC2) ht
  · refine ifF (fun z => nPC (V.str.inj z)) ?_
    dsimp only
    refine ⟨_, rfl, px, _, 0, _, rfl, rfl, SqT.of hp, atI_nat (j := 0) rfl, rfl, _, rfl, ifF (fun z => nPC (V.str.inj z)) ?_⟩
    refine ⟨_, rfl, rfl, _, rfl, ite2 (fun _ => ?_) (fun _ => ?_)⟩
    · refine ⟨_, rfl, d, c, rfl, hD1, fun H2 z e hD2 b2 ie hn => ?_⟩
      have m2 := nw_bu (H := H) hD b2
      obtain ⟨a1, a2, a3, a4⟩ := noProg_ok e hn
      refine ⟨_, rfl, px, _, 2, _, rfl, rfl, SqT.of ((hD1.keep (C := C) b2).tup _ _ hp), atI_nat (j := 2) rfl, (by show 3 ≤ sizeLine; decide), fun t ht => ?_⟩
      exact tup3 H2 t _ _ _ (.str "cpu") e (.tup ws) hD2 (b1.trans b2) (.str _) (ie.same (nw_sub (LDk.bu hD1 b1))) (n2.same m2) sC ⟨by omega, a2⟩ hsw (pgB_ok a3) (fun h => absurd h nCP) (fun _ => by rw [a4]; rfl) ht
    · refine ⟨_, rfl, px, _, 1, _, rfl, rfl, SqT.of hp, atI_nat (j := 1) rfl, ?_⟩
      refine ⟨_, rfl, _, rfl, d, c, rfl, hD1, fun H2 z e hD2 b2 ie hn => ?_⟩
      refine ⟨11, rfl, by decide, by decide, fun H3 x s3 i3 => ⟨(by show 4 ≤ sizeLine; decide), fun t1 ht1 => ?_⟩⟩
      have s4 := same_new (o := .tup [.int 0, x, .int 0, .int 0]) ht1
      have s34 := s3.trans s4
      have ix : Is C (upd H3 t1 (.tup [.int 0, x, .int 0, .int 0])) x (deepD 11) := i3.same s4
      have b4 := (b1.trans b2).trans (Bu2.of (d := d) (c := c) s34)
      have hD4 := hD2.same s34
      have jx := Is.nw (LDk.bu hD4 b4) (show cln (deepD 11) = true by decide +kernel) ix
      have hN : H t1 = none := off_new ((b1.trans b2).trans (Bu2.of (d := d) (c := c) s3)) (hD2.same s3) ht1
      have jt : Is C (nw H (upd H3 t1 (.tup [.int 0, x, .int 0, .int 0]))) (.ref t1) (.tup [.int 0, deepD 11, .int 0, .int 0]) := .tup (nw_at hN upd_same) (.cons (.int _) (.cons jx (.cons (.int _) (.cons (.int _) .nil))))
      have jz := (ie.same (nw_sub (LDk.bu hD1 b1))).same (nw_bu hD (Bu2.of (d := d) (c := c) s34))
      generalize upd H3 t1 (.tup [.int 0, x, .int 0, .int 0]) = H4 at *
      refine ⟨(by show 2 ≤ sizeLine; decide), fun l hl => ?_⟩
      refine pick_new hD4 hl (by show 0 < 2; decide) (by show 2 < 1000000; decide) fun H5 y hD5 b5 hy => ?_
      have m5 := nw_bu (H := H) hD b5
      have ia : IsA C (nw H H4) [z, .ref t1] [e, .tup [.int 0, deepD 11, .int 0, .int 0]] := .cons jz (.cons jt .nil)
      obtain ⟨e2, he2, ie2⟩ := isA_mem ia hy
      have hE : smal e2 ∧ regD e2 = false := by
        simp only [List.mem_cons, List.not_mem_nil, or_false] at he2
        rcases he2 with rfl | rfl
        · exact ⟨hn.2.2, hn.2.1⟩
        · exact ⟨⟨by decide +kernel, by decide +kernel⟩, by decide +kernel⟩
      refine ⟨(by show 3 ≤ sizeLine; decide), fun t ht => ?_⟩
      exact tup3 H5 t _ _ _ (.str "cpu") a e2 hD5 (b4.trans b5) (.str _) (n1.same (nw_bu hD ((b2.trans (Bu2.of s34)).trans b5))) (ie2.same m5) sC ha hE.1 hga (fun h => absurd h nCP) (fun _ => by rw [hE.2, Bool.and_false]) ht
end
end Hc

set_option maxHeartbeats 8000000
namespace Hc
open PySem PySem.Spec PyProof.Rows L2 Hr
def spTold (C : Addr) : Sp := fun vs H Q _ => ∃ x d u, vs = [x, .bl u] ∧ Is C H x d ∧ Fit d ∧ MeOk d ∧ ∀ H', Same H H' → Q (.bl (decide (measB d = u))) H'
theorem partE_ok {e : D} (h : PartE e) : okP e = true := by
  rcases h with ⟨p, ws, rfl, h0, h1, hl, hw⟩ | ⟨pr, ws, rfl, hp, hl, hw⟩
  · simp [okP, pgP, belD, h0, h1, (wds_good hl hw).1]
  · simp [okP, cpP, (progs_ok pr hp).2.2.2, (wds_good hl hw).2]
theorem depL_of {n : Nat} : ∀ {ds : List D}, (∀ d ∈ ds, dep d ≤ n) → depL ds ≤ n
  | [], _ => by simp [depL]
  | d :: ds, h => by
    simp only [depL]
    have := h d (by simp)
    have := depL_of (ds := ds) (fun e he => h e (by simp [he]))
    omega
theorem wrdL_of : ∀ {ds : List D}, (∀ d ∈ ds, wrd d = true) → wrdL ds = true
  | [], _ => rfl
  | d :: ds, h => by simp only [wrdL]; rw [h d (by simp), wrdL_of (fun e he => h e (by simp [he]))]; rfl
theorem szL_of {n : Nat} : ∀ {ds : List D}, (∀ d ∈ ds, sz d ≤ n) → szL ds ≤ n * ds.length
  | [], _ => by simp [szL]
  | d :: ds, h => by
    simp only [szL, List.length_cons, Nat.mul_succ]
    have := h d (by simp)
    have := szL_of (ds := ds) (fun e he => h e (by simp [he]))
    omega
theorem lit_rows : ∀ e ∈ rowsD, dep e ≤ 12 ∧ wrd e = true := by
  have h : (rowsD.all fun e => decide (dep e ≤ 12) && wrd e) = true := by decide +kernel
  intro e he
  have := List.all_eq_true.mp h e he
  simpa using this
theorem lit_progs : ∀ e ∈ progsD, dep e ≤ 12 ∧ wrd e = true := by
  have h : (progsD.all fun e => decide (dep e ≤ 12) && wrd e) = true := by decide +kernel
  intro e he
  have := List.all_eq_true.mp h e he
  simpa using this
theorem cps_ok {ds : List D} (hl : ds.length ≤ 8) (h : ∀ e ∈ ds, PartE e) : wrd (.tup (cps ds)) = true ∧ dep (.tup (cps ds)) ≤ 20 ∧ sz (.tup (cps ds)) ≤ 1000000 := by
  have hh : ∀ e ∈ cps ds, wrd e = true ∧ dep e ≤ 14 ∧ sz e ≤ 3000 := by
    intro e he
    obtain ⟨d, hd, e1⟩ := List.mem_filterMap.mp he
    rcases h d hd with ⟨p, ws, rfl, h0, h1, hl, hw⟩ | ⟨pr, ws, rfl, hp, hl, hw⟩
    · simp only [cpO] at e1; rw [if_neg (fun z => nPC z.symm)] at e1; cases e1
    · simp only [cpO, if_pos trivial] at e1
      cases e1
      obtain ⟨a1, a2⟩ := lit_progs pr hp
      have a3 := (progs_ok pr hp).1
      have b1 := depL_of (ds := ws) (fun e he => (lit_rows e (hw e he)).1)
      have b2 := wrdL_of (ds := ws) (fun e he => (lit_rows e (hw e he)).2)
      have b3 := szL_le (ws := ws) (fun e he => (rn_ok e (List.mem_append_left _ (hw e he))).1)
      refine ⟨?_, ?_, ?_⟩
      · simp only [wrd, wrdL, a2, b2]; rfl
      · simp only [dep, depL]; omega
      · simp only [sz, szL]; omega
  have hc : (cps ds).length ≤ ds.length := List.length_filterMap_le ..
  have b1 := depL_of (ds := cps ds) (fun e he => (hh e he).2.1)
  have b3 := szL_of (ds := cps ds) (fun e he => (hh e he).2.2)
  refine ⟨?_, ?_, ?_⟩
  · simp only [wrd]; exact wrdL_of (fun e he => (hh e he).1)
  · simp only [dep]; omega
  · simp only [sz]
    have := Nat.mul_le_mul_left 3000 (Nat.le_trans hc hl)
    omega
def spRight (C : Addr) : Sp := fun vs H Q _ => ∃ a xs ds, vs = [.ref a] ∧ H a = some (.tup xs) ∧ IsA C H xs ds ∧ ds.length ≤ 8 ∧ (∀ e ∈ ds, PartE e) ∧ (pgs ds).Nodup ∧ ∀ H', Same H H' → Q (.bl true) H'
section
variable {P : Program} {w : World} {K : PySem.W.Frag} {mg : Str → Option Value} {base : Heap} {f : Addr} {fd : FuncData} {C : Addr}
abbrev s__law_told : Stmt := top 62
theorem sc__law_told : FnScope ["value", "due", "told"] ["value", "due"] (C8.fnScope s__law_told) := C8.fnScope_by (by decide +kernel)
theorem ok__law_told (F : C8.Def K mg "_law_told" s__law_told f fd) (b : Binds K fd ["value", "due"] []) (T : Txt K mg w C) (c_is_measure : C8.Cal P w K mg base 6 "is_measure" (spMe C) []) : C8.Cal P w K mg base 7 "_law_told" (spTold C) [] := by
  refine C8.cal0 F b .nil sc__law_told (fun vs H Q E h => ?_) (fun cdv A outer s H vs Q E hr h => ?_)
  · obtain ⟨x, d, u, rfl, _⟩ := h; rfl
  obtain ⟨x, d, u, rfl, hx, hft, hme, q⟩ := h
  refine ⟨_, (pss_cons (ps_set (i := 2) sc__law_told.nd rfl (Or.inl rfl) (C8.pe_c c_is_measure hr (by first | decide | omega) rfl (pa_cons (pv 0) pa_nil)))
      (pss_one (ps_ret (pe_and (pe_callB (call_isiA T.cl) rfl T.z_isinstance bt_isinstance (pa_cons (pv 2) (pa_cons (pe_bltn (v := .ty "bool") rfl T.z_bool bt_bool rfl) pa_nil))) (pe_one (pe_cmpR op_eq (pv 2) (pv 1) (nomark _))))))), ?_⟩
  refine ⟨_, rfl, x, d, rfl, hx, hft, hme, fun H1 s1 => ?_⟩
  refine ⟨_, rfl, _, .bl _, _, _, true, rfl, .bl _, .ty _, ?_, _, rfl, bT rfl ?_⟩
  · exact (T.kit (.bl (measB d)) "bool" (by simp)).trans (by simp)
  · refine ⟨_, rfl, _, rfl, rfl, ?_⟩
    have e : decide (V.bl (measB d) = V.bl u) = decide (measB d = u) := decide_eq_decide.mpr ⟨fun z => V.bl.inj z, fun z => by rw [z]⟩
    rw [e]
    exact q H1 s1
abbrev s__law_right : Stmt := top 63
theorem sc__law_right : FnScope ["measure", "pages", "cpus", "part", "told"] ["measure"] (C8.fnScope s__law_right) := C8.fnScope_by (by decide +kernel)
theorem ok__law_right (F : C8.Def K mg "_law_right" s__law_right f fd) (b : Binds K fd ["measure"] []) (T : Txt K mg w C) (O : OwnS P w K mg base 4 C (spEqG C)) (o : Oth K C) (c_first_pages : C8.Cal P w K mg base 1 "first_pages" (spFP C) []) (c_first_cpus : C8.Cal P w K mg base 1 "first_cpus" (spFC C) []) : C8.Cal P w K mg base 26 "_law_right" (spRight C) [] := by
  refine C8.cal0 F b .nil sc__law_right (fun vs H Q E h => ?_) (fun cdv A outer s H vs Q E hr h => ?_)
  · obtain ⟨a, xs, ds, rfl, _⟩ := h; rfl
  obtain ⟨a, xs, ds, rfl, ha, hxs, hlen, hok, hnd, q⟩ := h
  have hl := hxs.len
  refine ⟨_, (pss_cons (ps_set (i := 1) sc__law_right.nd rfl (Or.inl rfl) pe_dnewK)
      (pss_cons (ps_set (i := 2) sc__law_right.nd rfl (Or.inl rfl) (pe_lst pa_nil))
      (pss_cons (ps_for PassesOwn.never rfl (pi_tup (pv 0)) (pg_name (i := 3) sc__law_right.nd rfl (Or.inl rfl))
      (pss_one (ps_if (pt_cmpR op_eq (pe_ix ix_tup (pv 3) pe_int (fun _ _ => rfl)) pe_str (nomark _)) (pss_one (ps_dput (ru hr) (pv 1) (pe_ix ix_tup (pv 3) pe_int (fun _ _ => rfl)) (pe_ix ix_tup (pv 3) pe_int (fun _ _ => rfl)) rfl)) (pss_one (ps_expr (pe_bm PySem.F.plainAttrs_list PySem.F.slot_list_append PySem.F.type_list_append mt_append (pv 2) (pa_cons (pe_tup (pa_cons (pe_ix ix_tup (pv 3) pe_int (fun _ _ => rfl)) (pa_cons (pe_ix ix_tup (pv 3) pe_int (fun _ _ => rfl)) pa_nil))) pa_nil)))))))
      (pss_cons (ps_set (i := 4) sc__law_right.nd rfl (Or.inl rfl) (C8.pe_c c_first_pages hr (by first | decide | omega) rfl (pa_cons (pv 0) pa_nil)))
      (pss_cons (ps_if (PW.pt (pw_or (pt_not (pt_val (pe_callB (call_isiA T.cl) rfl T.z_isinstance bt_isinstance (pa_cons (pv 4) (pa_cons (pe_bltn (v := .ty "dict") rfl T.z_dict bt_dict rfl) pa_nil))))) (pw_or1 (pt_cmpR (op_neDI hr.units0) (pv 4) (pv 1) (nomark _))))) (pss_one (ps_ret pe_bl)) pss_nil)
      (pss_cons (ps_dput (ru hr) (pv 4) pe_int (pe_tup pa_nil) rfl)
      (pss_one (ps_ret (pe_and (pe_cmpR (op_eqDI hr.units0) (C8.pe_c c_first_pages hr (by first | decide | omega) rfl (pa_cons (pv 0) pa_nil)) (pv 1) (nomark _)) (pe_one (pe_cmpR (op_eqW (n := 4) (N := 20) O o (hr.mono (by decide))) (C8.pe_c c_first_cpus hr (by first | decide | omega) rfl (pa_cons (pv 0) pa_nil)) (pe_callTy call_tuple_of rfl T.z_tuple bt_tuple (pa_cons (pv 2) pa_nil)) (nomark _)))))))))))), ?_⟩
  intro pd hpd
  refine ⟨Nat.zero_le _, fun cp hcp => ?_⟩
  have sA := same_new (o := .dK []) hpd
  have sB := same_new (o := .lst []) hcp
  have hne : cp ≠ pd := fun z => by rw [z, upd_same] at hcp; cases hcp
  have nH : H cp = none := by
    rw [upd_ne hne] at hcp; exact hcp
  have nxs : ∀ {H3 : Hp}, Same H H3 → Same H (nx [pd, cp] H3) := fun {H3} s x o e => by
    rw [nx_off (by simp only [List.mem_cons, List.not_mem_nil, or_false]; rintro (z | z) <;> rw [z] at e <;> simp_all)]; exact s _ _ e
  refine ⟨_, rfl, a, rfl, ⟨_, SqT.of ((sA.trans sB) _ _ ha)⟩, for_it (walk_tup (xs := xs)) (fun i σ H3 => ∃ v3 v4 acc, σ = [some (.ref a), some (.ref pd), some (.ref cp), v3, v4] ∧ Same H H3 ∧ H3 pd = some (.dK (pgV H (xs.take i))) ∧ H3 cp = some (.lst acc) ∧ IsA C (nx [pd, cp] H3) acc (cps (ds.take i))) ⟨none, none, [], rfl, sA.trans sB, by rw [upd_ne hne.symm]; exact upd_same, upd_same, .nil⟩ (fun i σ H3 _ h => by obtain ⟨_, _, _, _, sm, _⟩ := h; exact SqT.of (sm _ _ ha)) ?_ ?_⟩
  · rintro i z σ H3 H4 hi ⟨v3, v4, acc, rfl, s3, hp3, hc3, ia⟩ ⟨rfl, hz⟩
    obtain ⟨e, he, hze⟩ := hxs.at hz
    have hem := List.mem_of_getElem? he
    have eg : pgV H (xs.take (i + 1)) = pgV H (xs.take i) ++ (pgV1 H z).toList := by
      rw [List.take_add_one, hz, pgV_app]
      congr 1
    have ec : cps (ds.take (i + 1)) = cps (ds.take i) ++ (cpO e).toList := by
      rw [List.take_add_one, he, cps_app]
      congr 1
    have hokP : ∀ e ∈ ds, okP e = true := fun e he => partE_ok (hok e he)
    have hlen3 : (pgV H (xs.take i)).length ≤ 1000 := by
      have := List.length_filterMap_le (pgV1 H) (xs.take i)
      rw [List.length_take] at this
      unfold pgV; omega
    cases partV (hokP e hem) hze with
    | @page az p y ws h1 i1 w1 =>
      have h1' := s3 _ _ h1
      refine ⟨_, rfl, az, _, 0, _, rfl, rfl, SqT.of h1', atI_nat (j := 0) rfl, rfl, _, rfl, ifT rfl ?_⟩
      refine ⟨_, rfl, az, _, 2, _, rfl, rfl, SqT.of h1', atI_nat (j := 2) rfl, _, rfl, _, rfl, az, _, 1, _, rfl, rfl, SqT.of h1', atI_nat (j := 1) rfl, pd, _, rfl, DPut.k (k := .inl p) hp3 (Nat.lt_of_le_of_lt hlen3 (by decide)), ?_⟩
      have e1 : pgV1 H (.ref az) = some (.inl p, y) := by simp only [pgV1, h1, if_pos trivial]
      have e2 : cpO (.tup [.str "page", .int p, ws]) = none := by simp only [cpO]; exact if_neg (fun z => nPC z.symm)
      have hnew : (Sum.inl p : Key) ∉ (pgV H (xs.take i)).map (·.1) := by
        have k1 := pgV_keys (isA_take (i + 1) hxs) (fun e' he' => hokP e' (List.mem_of_mem_take he'))
        rw [eg, e1, List.map_append] at k1
        have nd : ((pgs (ds.take (i + 1))).map (Sum.inl : Int → Key)).Nodup := by
          refine List.pairwise_map.mpr (List.Pairwise.imp (fun h e => h (Sum.inl.inj e)) (?_ : (pgs (ds.take (i + 1))).Nodup))
          have : ds = ds.take (i + 1) ++ ds.drop (i + 1) := (List.take_append_drop _ _).symm
          rw [this, pgs_app] at hnd
          exact (List.nodup_append.mp hnd).1
        rw [← k1] at nd
        have := (List.nodup_append.mp nd).2.2
        intro z
        exact this _ z _ (by simp) rfl
      rw [putK_new hnew]
      refine ⟨_, _, acc, rfl, same_put s3 hpd, ?_, by rw [upd_ne hne]; exact hc3, ?_⟩
      · rw [upd_same, eg, e1]; rfl
      · rw [ec, e2]
        simpa using ia.same (nx_upd (by simp))
    | @cpu az y z2 pr rg h1 i1 j1 =>
      have h1' := s3 _ _ h1
      have e1 : pgV1 H (.ref az) = none := by
        simp only [pgV1, h1]
        cases y <;> first | rfl | exact if_neg nPC
      have e2 : cpO (.tup [.str "cpu", pr, rg]) = some (.tup [pr, rg]) := by simp only [cpO, if_pos trivial]
      refine ⟨_, rfl, az, _, 0, _, rfl, rfl, SqT.of h1', atI_nat (j := 0) rfl, rfl, _, rfl, ifF (fun z => nPC (V.str.inj z)) ?_⟩
      refine ⟨_, rfl, .inl ⟨rfl, _, SqL.of hc3⟩, _, rfl, az, _, 1, _, rfl, rfl, SqT.of h1', atI_nat (j := 1) rfl, _, rfl, az, _, 2, _, rfl, rfl, SqT.of h1', atI_nat (j := 2) rfl, (by show 2 ≤ sizeLine; decide), fun t ht => ?_⟩
      have s4 := same_new (o := .tup [y, z2]) ht
      have hc4 := s4 _ _ hc3
      have hp4 := s4 _ _ hp3
      have hal := ia.len
      have hcl : (cps (ds.take i)).length ≤ 1000 := by
        have := List.length_filterMap_le cpO (ds.take i)
        rw [List.length_take] at this
        unfold cps; omega
      have ntc : t ≠ cp := fun z => by rw [z, hc3] at ht; cases ht
      have ntp : t ≠ pd := fun z => by rw [z, hp3] at ht; cases ht
      have s34 := s3.trans s4
      have et : (upd H4 t (.tup [y, z2])) t = some (.tup [y, z2]) := upd_same
      have sn := nx_same (ps := [pd, cp]) s4
      generalize upd H4 t (.tup [y, z2]) = H5 at *
      refine ⟨cp, acc, _, rfl, rfl, hc4, small1000 (by omega), _, _, _, rfl, same_put s34 nH, by rw [upd_ne hne.symm, eg, e1]; simpa using hp4, upd_same, ?_⟩
      have sm : Same (nx [pd, cp] H5) (nx [pd, cp] (upd H5 cp (.lst (acc ++ [.ref t])))) := nx_upd (by simp)
      rw [ec, e2]
      refine ((ia.same sn).same sm).app (.cons ?_ .nil)
      have it : Is C (nx [pd, cp] H5) (.ref t) (.tup [pr, rg]) := .tup (by rw [nx_off (by simp only [List.mem_cons, List.not_mem_nil, or_false]; rintro (z | z); exact ntp z; exact ntc z)]; exact et) (.cons (i1.same (nxs s34)) (.cons (j1.same (nxs s34)) .nil))
      exact it.same sm
  · rintro σ H3 ⟨v3, v4, acc, rfl, s3, hp3, hc3, ia⟩
    rw [List.take_of_length_le (Nat.le_refl _)] at hp3
    rw [List.take_of_length_le (by omega)] at ia
    have hokP : ∀ e ∈ ds, okP e = true := fun e he => partE_ok (hok e he)
    refine ⟨_, rfl, a, xs, ds, rfl, s3 _ _ ha, hxs.same s3, by omega, hokP, hnd, fun H4 tq s4 hq0 hq => ?_⟩
    rw [pgV_same s3 hxs hokP] at hq
    have hnn : tq ≠ pd := fun z => by rw [z, hp3] at hq0; cases hq0
    have hnc : tq ≠ cp := fun z => by rw [z, hc3] at hq0; cases hq0
    have hvv : ∀ p ∈ pgV H xs, valV (pgV H xs) p.1 = some p.2 ∧ sameB p.2 = true := by
      have k1 := pgV_keys hxs hokP
      have nd : ((pgs ds).map (Sum.inl : Int → Key)).Nodup := List.pairwise_map.mpr (List.Pairwise.imp (fun h e => h (Sum.inl.inj e)) hnd)
      rw [← k1] at nd
      exact fun p hp => ⟨valV_at nd p hp, pgV_refs hxs hokP p hp⟩
    have s34 := s3.trans s4
    refine ⟨_, rfl, _, .dct, _, _, true, rfl, .dct hq, .ty _, (T.kit .dct "dict" (by simp)).trans (by simp), ?_⟩
    refine ⟨_, rfl, bF rfl ⟨_, rfl, _, rfl, tq, pd, _, _, rfl, rfl, hq, s4 _ _ hp3, rfl, hvv, _, rfl, bF rfl ?_⟩⟩
    have hl3 : (pgV H xs).length ≤ 1000 := by
      have := List.length_filterMap_le (pgV1 H) xs
      unfold pgV; omega
    refine ⟨Nat.zero_le _, fun t ht => ⟨_, rfl, tq, _, rfl, DPut.k (k := .inl 8) (same_new ht _ _ hq) (Nat.lt_of_le_of_lt hl3 (by decide)), ?_⟩⟩
    have s5 := same_new (o := .tup []) ht
    have hp5 : (upd (upd H4 t (.tup [])) tq (.dK (putK (pgV H xs) (.inl 8) (.ref t)))) pd = some (.dK (pgV H xs)) := by rw [upd_ne hnn.symm]; exact s5 _ _ (s4 _ _ hp3)
    have hc5 : (upd (upd H4 t (.tup [])) tq (.dK (putK (pgV H xs) (.inl 8) (.ref t)))) cp = some (.lst acc) := by rw [upd_ne hnc.symm]; exact s5 _ _ (s4 _ _ hc3)
    have s35 : Same H3 (upd (upd H4 t (.tup [])) tq (.dK (putK (pgV H xs) (.inl 8) (.ref t)))) := same_put (s4.trans s5) hq0
    generalize upd (upd H4 t (.tup [])) tq (.dK (putK (pgV H xs) (.inl 8) (.ref t))) = H5 at *
    have s5' := s3.trans s35
    refine ⟨_, rfl, a, xs, ds, rfl, s5' _ _ ha, hxs.same s5', by omega, hokP, hnd, fun H6 tr s6 hr0 hr6 => ?_⟩
    rw [pgV_same s5' hxs hokP] at hr6
    refine ⟨_, rfl, tr, pd, _, _, rfl, rfl, hr6, s6 _ _ hp5, rfl, hvv, _, rfl, bT rfl ?_⟩
    have s6' := s5'.trans s6
    refine ⟨_, rfl, a, xs, ds, rfl, s6' _ _ ha, hxs.same s6', by omega, hokP, fun H7 tc s7 ic => ?_⟩
    refine ⟨_, rfl, cp, acc, rfl, .inl ⟨SqL.of (s7 _ _ (s6 _ _ hc5)), fun t2 ht2 => ?_⟩⟩
    have s8 := same_new (o := .tup acc) ht2
    obtain ⟨o1, o2, o3⟩ := cps_ok hlen hok
    have ia8 := (ia.same nx_le).same (((s35.trans s6).trans s7).trans s8)
    refine ⟨.tup (cps ds), .tup (cps ds), ⟨ic.same s8, .tup upd_same ia8, o1, o1, o3, o3⟩, o2, fun H8 s9 => ?_⟩
    rw [eqD_refl o1]
    exact q H8 (((s6'.trans s7).trans s8).trans s9)
end
end Hc

set_option maxHeartbeats 8000000
namespace Hc
open PySem PySem.Spec PyProof.Rows L2 Hr
theorem dedup_len : ∀ (l acc : List Int), (l.foldl step_dedup acc).length ≤ acc.length + l.length
  | [], acc => by simp
  | x :: l, acc => by
    rw [List.foldl_cons]
    have h := dedup_len l (step_dedup acc x)
    have h2 : (step_dedup acc x).length ≤ acc.length + 1 := by
      unfold step_dedup
      split <;> simp
    rw [List.length_cons]; omega
theorem dedup_nd : ∀ (l acc : List Int), (l.foldl step_dedup acc).length = acc.length + l.length → l.Nodup ∧ ∀ x ∈ l, x ∉ acc
  | [], acc, _ => ⟨List.nodup_nil, fun _ h => by cases h⟩
  | x :: l, acc, h => by
    rw [List.foldl_cons, List.length_cons] at h
    have h1 := dedup_len l (step_dedup acc x)
    by_cases c : acc.any (· == x) = true
    · exfalso
      have e : step_dedup acc x = acc := by unfold step_dedup; rw [if_pos c]
      rw [e] at h h1; omega
    · have e : step_dedup acc x = acc ++ [x] := by unfold step_dedup; rw [if_neg c]
      rw [e] at h
      obtain ⟨n1, n2⟩ := dedup_nd l (acc ++ [x]) (by rw [h, List.length_append, List.length_singleton]; omega)
      have hx : x ∉ acc := fun hm => c (List.any_eq_true.mpr ⟨x, hm, by simp⟩)
      refine ⟨List.nodup_cons.mpr ⟨fun hm => n2 x hm (by simp), n1⟩, fun y hy => ?_⟩
      rcases List.mem_cons.mp hy with rfl | hy
      · exact hx
      · exact fun hm => n2 y hy (by simp [hm])
theorem getD_range (ns : List Int) : (List.range ns.length).map (fun i => ns.getD i 0) = ns := by
  apply List.ext_getElem
  · simp
  · intro i h1 h2
    simp at h1
    simp [h1]
theorem nDist_nd {ns : List Int} (h : ns.Nodup) : nDist ns = ns.length := by
  unfold nDist
  rw [RZ.firstMet_nodup h ns.length (Nat.le_refl _), List.take_of_length_le (Nat.le_refl _)]
theorem nd_nDist {ns : List Int} (h : nDist ns = ns.length) : ns.Nodup := by
  have : ((List.range ns.length).map (fun i => ns.getD i 0)).foldl step_dedup [] = firstMet (fun i => ns.getD i 0) ns.length := rfl
  rw [getD_range] at this
  exact (dedup_nd ns [] (by rw [this]; simpa [nDist] using h)).1
theorem meas_true {ds : List D} (h : ∀ e ∈ ds, okP e = true) (hn : (pgs ds).Nodup) : measB (.tup ds) = true := by
  simp only [measB]
  rw [nDist_nd hn, decide_eq_true rfl, Bool.and_true]
  exact List.all_eq_true.mpr h
theorem meas_bad {ds : List D} {e : D} (he : e ∈ ds) (h : okP e = false) : measB (.tup ds) = false := by
  simp only [measB]
  have : ds.all (fun d => pgP d || cpP d) = false := by
    refine Bool.eq_false_iff.mpr fun z => ?_
    have := List.all_eq_true.mp z e he
    unfold okP at h
    rw [h] at this; cases this
  rw [this, Bool.false_and]
theorem meas_twice {ds : List D} (h : ¬ (pgs ds).Nodup) : measB (.tup ds) = false := by
  simp only [measB]
  rw [decide_eq_false (fun z => h (nd_nDist z)), Bool.and_false]
theorem partE_ptok {e : D} (h : PartE e) : PtOk e := by
  rcases h with ⟨p, ws, rfl, h0, h1, hl, hw⟩ | ⟨pr, ws, rfl, hp, hl, hw⟩
  · trivial
  · exact pgB_ok (progs_ok pr hp).2.2.1
theorem partE_sml {e : D} (h : PartE e) : sml e := by
  obtain ⟨k, a, ws, rfl, h1, h2, h3, h4, h5, h6⟩ := part_3 h
  have hk : smal (.str k) := by rcases h6 with ⟨rfl, _⟩ | ⟨rfl, _⟩ <;> exact ⟨by decide +kernel, by decide +kernel⟩
  exact (fit_l (es := [.str k, a, .tup ws]) (by
    intro e he
    simp at he
    rcases he with rfl | rfl | rfl
    · exact hk
    · exact h1
    · exact smal_wds h4 h5) (by simp)).1
theorem partE_cln {e : D} (h : PartE e) : cln e = true := by
  obtain ⟨k, a, ws, rfl, h1, h2, h3, h4, h5, h6⟩ := part_3 h
  simp only [cln, clnL, h2, wds_cln h5]; rfl
theorem sml_l {es : List D} (h : ∀ e ∈ es, sml e) (hl : es.length ≤ 20) : Fit (.tup es) ∧ Fit (.lst es) := by
  have h1 := szL_of (ds := es) (fun e he => (h e he).1)
  have h2 := txbL_of (ws := es) (fun e he => (h e he).2)
  have := Nat.mul_le_mul_left 20000 hl
  exact ⟨fit_of (by simp only [sz]; omega) (by simp only [txb]; exact h2), fit_of (by simp only [sz]; omega) (by simp only [txb]; exact h2)⟩
theorem partR_E {e : D} {ns ns' : List Int} (h : PartR e ns ns') (hb : ∀ n ∈ ns, 0 ≤ n ∧ n < 8) : PartE e := by
  rcases h with ⟨p, _, i, rfl, hi, _, ws, rfl, hl, hw⟩ | ⟨pr, _, rfl, hp, ⟨ws, rfl, hl, hw⟩, _⟩
  · have := hb p (List.mem_of_getElem? hi)
    exact .inl ⟨p, ws, rfl, this.1, this.2, hl, hw⟩
  · exact .inr ⟨pr, ws, rfl, hp, hl, hw⟩
/-- the pages that are there and those that are left are all different -/
theorem partR_nd {e : D} {ds : List D} {ns ns' : List Int} (h : PartR e ns ns') (hn : (pgs ds ++ ns).Nodup) : (pgs (ds ++ [e]) ++ ns').Nodup ∧ (∀ n ∈ ns', n ∈ ns) ∧ ns'.length ≤ ns.length := by
  rcases h with ⟨p, ws, i, rfl, hi, rfl, _⟩ | ⟨pr, ws, rfl, hp, _, rfl⟩
  · refine ⟨?_, fun n h => List.mem_of_mem_eraseIdx h, by rw [List.length_eraseIdx]; split <;> omega⟩
    rw [pgs_app]
    have e1 : pgs [.tup [.str "page", .int p, ws]] = [p] := by simp [pgs, pgO]
    rw [e1]
    obtain ⟨n1, n2, n3⟩ := List.nodup_append.mp hn
    have hp : p ∈ ns := List.mem_of_getElem? hi
    have hx : p ∉ ns.eraseIdx i := by
      intro hm
      obtain ⟨hi', hpi⟩ := List.getElem?_eq_some_iff.mp hi
      obtain ⟨j, hj⟩ := List.mem_iff_getElem?.mp hm
      rw [List.getElem?_eraseIdx] at hj
      split at hj
      · rename_i hlt
        obtain ⟨hj', hpj⟩ := List.getElem?_eq_some_iff.mp hj
        exact List.pairwise_iff_getElem.mp n2 j i hj' hi' hlt (by rw [hpj, hpi])
      · rename_i hge
        obtain ⟨hj', hpj⟩ := List.getElem?_eq_some_iff.mp hj
        exact List.pairwise_iff_getElem.mp n2 i (j + 1) hi' hj' (by omega) (by rw [hpj, hpi])
    rw [List.append_assoc]
    refine List.nodup_append.mpr ⟨n1, List.nodup_cons.mpr ⟨hx, (List.eraseIdx_sublist ..).nodup n2⟩, fun a ha b hb => ?_⟩
    rcases List.mem_cons.mp hb with rfl | hb
    · exact n3 a ha _ hp
    · exact n3 a ha b (List.mem_of_mem_eraseIdx hb)
  · refine ⟨?_, fun n h => h, Nat.le_refl _⟩
    rw [pgs_app]
    have e1 : pgs [.tup [.str "cpu", pr, ws]] = [] := by
      have : ¬ (("cpu" : Str) = "page") := nPC
      simp only [pgs, List.filterMap_cons, List.filterMap_nil]
      have : pgO (.tup [.str "cpu", pr, ws]) = none := by
        unfold pgO
        split
        · rename_i k p r e
          cases e
          exact if_neg nPC
        · rfl
      rw [this]
    rw [e1, List.append_nil]; exact hn
theorem keep3 {C d c l : Addr} {H H' : Hp} {zs : List V} (hD : Dr H d c) (hl : H l = some (.lst zs)) (b : Bu3 d c l H H') : Keep C H H' := by
  obtain ⟨⟨r, m, h1⟩, ns, _, h2⟩ := hD
  exact ⟨fun x _ e => b x _ e (fun z => by rw [z, h1] at e; cases e) (fun z => by rw [z, h2] at e; cases e) (fun z => by rw [z, hl] at e; cases e), fun x _ _ e => b x _ e (fun z => by rw [z, h1] at e; cases e) (fun z => by rw [z, h2] at e; cases e) (fun z => by rw [z, hl] at e; cases e)⟩
theorem keep_lst {C l : Addr} {H : Hp} {zs : List V} {o : HO} (hl : H l = some (.lst zs)) : Keep C H (upd H l o) :=
  ⟨fun x _ e => by rw [upd_ne (fun z => by rw [z, hl] at e; cases e)]; exact e, fun x _ _ e => by rw [upd_ne (fun z => by rw [z, hl] at e; cases e)]; exact e⟩
end Hc

set_option maxHeartbeats 8000000
namespace Hc
open PySem PySem.Spec PyProof.Rows L2 Hr
theorem room24 {k : Nat} {A : Around} (hr : Room k A) : A.units + 64 < cLine := by
  have := hr.un
  omega
def spLaw (K : PySem.W.Frag) : Sp := fun vs H Q _ => ∃ (a : Addr) (ns : List Int), vs = [.ref a] ∧ SqL K H a (ns.map V.int) ∧ ns.length ≤ 1000 ∧ ∀ H', Q (.bl true) H'
section
variable {P : Program} {w : World} {K : PySem.W.Frag} {mg : Str → Option Value} {base : Heap} {f : Addr} {fd : FuncData} {C : Addr}
abbrev s_law : Stmt := top 64
theorem sc_law : FnScope ["script", "draws", "turn", "left", "parts", "k", "at", "pages", "part", "twice"] ["script"] (C8.fnScope s_law) := C8.fnScope_by (by decide +kernel)
theorem fn_law (F : C8.Fun K "law" "law" s_law f fd) (b : Binds K fd ["script"] []) (T : Txt K mg w C)
    (c__law_begin : C8.Cal P w K mg base 1 "_law_begin" (fun vs H Q _ => ∃ (a : Addr) (ns : List Int), vs = [.ref a] ∧ SqL K H a (ns.map V.int) ∧ ns.length ≤ 1000 ∧ ∀ H' d c, Same H H' → H d = none → H c = none → Dr H' d c → Q (.ref d) H') [])
    (c__law_draw : C8.Cal P w K mg base 1 "_law_draw" spDraw []) (c__law_pick : C8.Cal P w K mg base 2 "_law_pick" spPick []) (c__law_part : C8.Cal P w K mg base 8 "_law_part" (spPart C) []) (c__law_told : C8.Cal P w K mg base 7 "_law_told" (spTold C) []) (c__law_right : C8.Cal P w K mg base 26 "_law_right" (spRight C) [])
    (c_is_measure : C8.Cal P w K mg base 6 "is_measure" (spMe C) []) (c__law_wrong : C8.Cal P w K mg base 9 "_law_wrong" (spWr C) []) (c__law_words : C8.Cal P w K mg base 7 "_law_words" (spOne C WdsOk) [])
    (c_first_cpus : C8.Cal P w K mg base 1 "first_cpus" (spFC C) []) (c_first_pages : C8.Cal P w K mg base 1 "first_pages" (spFP C) []) (k_Atom : C8.Mak P w K mg base 5 "Atom" C (spInit C) []) :
    FnOk P w K mg base C8.CX0 27 f fd ["script"] (spLaw K) := by
  refine C8.fn0 F sc_law (fun vs H Q E h => ?_) (fun cdv A outer s H vs Q E hr h => ?_)
  · obtain ⟨a, ns, rfl, _⟩ := h; rfl
  obtain ⟨a, ns, rfl, ha, hns, q⟩ := h
  refine ⟨_, (pss_cons (ps_set (i := 1) sc_law.nd rfl (Or.inr rfl) (C8.pe_c c__law_begin hr (by first | decide | omega) rfl (pa_cons (pv 0) pa_nil)))
      (pss_cons (ps_for PassesOwn.never rfl (pi_range1 rfl T.z_range (pa_cons pe_int pa_nil)) (pg_name (i := 2) sc_law.nd rfl (Or.inl rfl))
      (pss_cons (ps_set (i := 3) sc_law.nd rfl (Or.inr rfl) (pe_lst (pa_cons pe_int (pa_cons pe_int (pa_cons pe_int (pa_cons pe_int (pa_cons pe_int (pa_cons pe_int (pa_cons pe_int (pa_cons pe_int pa_nil))))))))))
      (pss_cons (ps_setLc (i := 4) (own := [("k", 5)]) (te := tCall (spPart C) [] C8.E0 (tCons (tVar 1) (tCons (tVar 3) tNil))) (g := gName 5) rfl sc_law.nd rfl rfl (sw_true rfl rfl rfl rfl) (pi_range1 rfl T.z_range (pa_cons (C8.pe_c c__law_draw hr (by first | decide | omega) rfl (pa_cons (pv 1) (pa_cons pe_int pa_nil))) pa_nil)) (blkOk_by (own := [("k", 5)]) (N := ["script", "draws", "turn", "left", "parts", "k", "at", "pages", "part", "twice"]) (sc := C8.fnScope s_law) (by decide +kernel)) (fun _ _ _ _ _ => (pg_name (i := 5) sc_law.nd rfl (Or.inl rfl))) (fun _ _ _ _ _ => pts_nil) (fun _ _ _ _ _ => (C8.pe_c c__law_part hr (by first | decide | omega) rfl (pa_cons (pv 1) (pa_cons (pv 3) pa_nil)))))
      (pss_cons (ps_if (PW.pt (pw_or (pt_not (pt_val (C8.pe_c c__law_told hr (by first | decide | omega) rfl (pa_cons (pe_callTy call_tuple_of rfl T.z_tuple bt_tuple (pa_cons (pv 4) pa_nil)) (pa_cons pe_bl pa_nil))))) (pw_or (pt_not (pt_val (C8.pe_c c__law_right hr (by first | decide | omega) rfl (pa_cons (pe_callTy call_tuple_of rfl T.z_tuple bt_tuple (pa_cons (pv 4) pa_nil)) pa_nil)))) (pw_or1 (pt_val (C8.pe_c c_is_measure hr (by first | decide | omega) rfl (pa_cons (pe_callTy call_list_of rfl T.z_list bt_list (pa_cons (pv 4) pa_nil)) pa_nil))))))) (pss_one (ps_ret pe_bl)) pss_nil)
      (pss_one (ps_if (pt_truth (pv 4) (fun _ => rfl)) (pss_cons (ps_set (i := 6) sc_law.nd rfl (Or.inl rfl) (C8.pe_c c__law_draw hr (by first | decide | omega) rfl (pa_cons (pv 1) (pa_cons (pe_callB call_lenS rfl T.z_len bt_len (pa_cons (pv 4) pa_nil)) pa_nil))))
      (pss_cons (ps_if (pt_not (pt_val (C8.pe_c c__law_told hr (by first | decide | omega) rfl (pa_cons (pe_callTy call_tuple_of rfl T.z_tuple bt_tuple (pa_cons (pe_op op_cat (pe_op op_cat (pe_slice sl_list (pv 4) po_none (po_some (pv 6))) (pe_lst (pa_cons (C8.pe_c c__law_wrong hr (by first | decide | omega) rfl (pa_cons (pv 1) (pa_cons (pe_ix ix_list (pv 4) (pv 6) (fun _ _ => rfl)) pa_nil))) pa_nil))) (pe_slice sl_list (pv 4) (po_some (pe_op op_add (pv 6) pe_int)) po_none)) pa_nil)) (pa_cons pe_bl pa_nil))))) (pss_one (ps_ret pe_bl)) pss_nil)
      (pss_cons (ps_setLc (i := 7) (own := [("part", 8)]) (te := tVar 8) (tt := tTest (tOp rEq (tOp (rIxT K) (tVar 8) (tC (.int 0))) (tC (.str "page")))) (g := gName 8) rfl sc_law.nd rfl rfl (sw_true rfl rfl rfl rfl) (pi_list (pv 4)) (blkOk_by (own := [("part", 8)]) (N := ["script", "draws", "turn", "left", "parts", "k", "at", "pages", "part", "twice"]) (sc := C8.fnScope s_law) (by decide +kernel)) (fun _ _ _ _ _ => (pg_name (i := 8) sc_law.nd rfl (Or.inl rfl))) (fun _ _ _ _ _ => (pts_one (pt_cmpR op_eq (pe_ix ix_tup (pv 8) pe_int (fun _ _ => rfl)) pe_str (nomark _)))) (fun _ _ _ _ _ => (pv 8)))
      (pss_one (ps_if (pt_truth (pv 7) (fun _ => rfl)) (pss_cons (ps_set (i := 9) sc_law.nd rfl (Or.inl rfl) (pe_tup (pa_cons pe_str (pa_cons (pe_ix ix_tup (C8.pe_c c__law_pick hr (by first | decide | omega) rfl (pa_cons (pv 1) (pa_cons (pv 7) pa_nil))) pe_int (fun _ _ => rfl)) (pa_cons (C8.pe_c c__law_words hr (by first | decide | omega) rfl (pa_cons (pv 1) pa_nil)) pa_nil)))))
      (pss_one (ps_if (pt_not (pt_val (C8.pe_c c__law_told hr (by first | decide | omega) rfl (pa_cons (pe_callTy call_tuple_of rfl T.z_tuple bt_tuple (pa_cons (pe_op op_cat (pe_op op_cat (pe_slice sl_list (pv 4) po_none (po_some (pv 6))) (pe_lst (pa_cons (pv 9) pa_nil))) (pe_slice sl_list (pv 4) (po_some (pv 6)) po_none)) pa_nil)) (pa_cons pe_bl pa_nil))))) (pss_one (ps_ret pe_bl)) pss_nil))) pss_nil))))) pss_nil))))))
      (pss_cons (ps_if (PW.pt (pw_or (pt_not (pt_val (C8.pe_c c__law_told hr (by first | decide | omega) rfl (pa_cons (pe_tup pa_nil) (pa_cons pe_bl pa_nil))))) (pw_or (pt_cmpR (op_neD (room24 hr)) (C8.pe_c c_first_cpus hr (by first | decide | omega) rfl (pa_cons (pe_tup pa_nil) pa_nil)) (pe_tup pa_nil) (nomark _)) (pw_or1 (pt_cmpR (op_neDI hr.units0) (C8.pe_c c_first_pages hr (by first | decide | omega) rfl (pa_cons (pe_tup pa_nil) pa_nil)) pe_dnewK (nomark _)))))) (pss_one (ps_ret pe_bl)) pss_nil)
      (pss_one (ps_ret (C8.pe_c c__law_told hr (by first | decide | omega) rfl (pa_cons (C8.pe_c c__law_pick hr (by first | decide | omega) rfl (pa_cons (pv 1) (pa_cons (pe_lst (pa_cons pe_non (pa_cons pe_int (pa_cons pe_str (pa_cons pe_str (pa_cons pe_dnewK (pa_cons (pe_lst pa_nil) (pa_cons (pe_tup (pa_cons pe_str (pa_cons pe_int (pa_cons (pe_tup (pa_cons pe_int (pa_cons pe_int (pa_cons pe_int (pa_cons pe_int pa_nil))))) pa_nil)))) (pa_cons (pe_tup (pa_cons pe_non pa_nil)) (pa_cons (pe_tup (pa_cons (pe_tup pa_nil) pa_nil)) (pa_cons (C8.pe_mk k_Atom hr (by first | decide | omega) rfl (pa_cons pe_str (pa_cons (pe_tup (pa_cons pe_str (pa_cons pe_int pa_nil))) pa_nil))) pa_nil))))))))))) pa_nil))) (pa_cons pe_bl pa_nil)))))))), ?_⟩
  refine ⟨_, rfl, a, ns, rfl, ha, hns, fun H1 d c s1 hd0 hc0 hD => ?_⟩
  refine ⟨4, rfl, by decide, by decide, ?_⟩
  refine for_it (walk_range (lo := 0) (n := 4)) (fun i σ H' => ∃ v2 v3 v4 v5 v6 v7 v8 v9, σ = [some (.ref a), some (.ref d), v2, v3, v4, v5, v6, v7, v8, v9] ∧ Dr H' d c) ⟨none, none, none, none, none, none, none, none, rfl, hD⟩ (fun _ _ _ _ _ => trivial) ?_ ?_
  · rintro i y σ H4x H4 hi ⟨v2, v3, v4, v5, v6, v7, v8, v9, rfl, hD4⟩ ⟨rfl, rfl⟩
    refine ⟨(by show 8 ≤ sizeLine; decide), fun l hl => ?_⟩
    have sl := same_new (o := .lst [.int 0, .int 1, .int 2, .int 3, .int 4, .int 5, .int 6, .int 7]) hl
    have hoL := hD4.off hl
    have hDl0 := hD4.same sl
    have el : (upd H4 l (.lst [.int 0, .int 1, .int 2, .int 3, .int 4, .int 5, .int 6, .int 7])) l = some (.lst (([0, 1, 2, 3, 4, 5, 6, 7] : List Int).map V.int)) := upd_same
    generalize upd H4 l (.lst [.int 0, .int 1, .int 2, .int 3, .int 4, .int 5, .int 6, .int 7]) = H5 at *
    refine ⟨_, rfl, d, c, 8, rfl, hDl0, by decide, by decide, fun H6 r hD6 b6 r0 r1 => ?_⟩
    have el6 := b6 _ _ el hoL.1 hoL.2
    refine ⟨r, rfl, by omega, by omega, fun Dl hDl => ?_⟩
    have hoD := hD6.off hDl
    have nlD : l ≠ Dl := fun z => by rw [← z, el6] at hDl; cases hDl
    have updD : ∀ {Hx : Hp} {o : HO}, Dr Hx d c → Dr (upd Hx Dl o) d c := fun {Hx o} hx => by
      obtain ⟨⟨r0, m0, f1⟩, n0, hn0, f2⟩ := hx
      exact ⟨⟨r0, m0, by rw [upd_ne hoD.1.symm]; exact f1⟩, n0, hn0, by rw [upd_ne hoD.2.symm]; exact f2⟩
    refine lc_it (walk_range (lo := 0) (n := r.toNat)) (fun i Hx => Dr Hx d c ∧ ∃ (ns : List Int) (acc : List V) (ds : List D), Hx l = some (.lst (ns.map V.int)) ∧ ns.length ≤ 8 ∧ (∀ n ∈ ns, 0 ≤ n ∧ n < 8) ∧ Hx Dl = some (.lst acc) ∧ IsA C Hx acc ds ∧ ds.length = i ∧ (∀ e ∈ ds, PartE e) ∧ (pgs ds ++ ns).Nodup) ⟨updD hD6, [0, 1, 2, 3, 4, 5, 6, 7], [], [], by rw [upd_ne nlD]; exact el6, by decide, by decide, upd_same, .nil, rfl, (fun e he => by cases he), by decide⟩ (fun _ _ _ _ => trivial) ?_ ?_
    · rintro i x Hxx Hx hi ⟨hDx, ns, acc, ds, hlx, hnl, hnb, hax, ia, hdl, hpe, hnd⟩ ⟨rfl, rfl⟩
      refine ⟨rfl, yes ⟨_, rfl, _, rfl, d, c, l, ns, rfl, hDx, hlx, hoL.1, hoL.2, hnl, fun H7 x e ns' hD7 b7 l7 ix hp => ?_⟩⟩
      have h7 := b7 _ _ hax hoD.1 hoD.2 nlD.symm
      have hal := ia.len
      have hE := partR_E hp hnb
      obtain ⟨g1, g2, g3⟩ := partR_nd hp hnd
      have kk := keep3 (C := C) hDx hlx b7
      have k2 : Keep C H7 (upd H7 Dl (.lst (acc ++ [x]))) := keep_lst h7
      refine ⟨acc, h7, small1000 (by omega), updD hD7, ns', acc ++ [x], ds ++ [e], by rw [upd_ne nlD]; exact l7, by omega, fun n hn => hnb n (g2 n hn), upd_same, ?_, by simp [hdl], ?_, g1⟩
      · exact IsA.app (IsA.keep (kk.trans k2) (clnL_iff.mpr fun e he => partE_cln (hpe e he)) ia) (.cons (Is.keep k2 (partE_cln hE) ix) .nil)
      · intro e' he'
        rcases List.mem_append.mp he' with h | h
        · exact hpe e' h
        · simp at h; rw [h]; exact hE
    rintro H7 ⟨hD7, ns, acc, ds, hlx, hnl, hnb, hax, ia, hdl, hpe, hnd⟩
    have hnd := (List.nodup_append.mp hnd).1
    clear hlx hnl hnb
    have hlen : ds.length ≤ 8 := by omega
    have hal := ia.len
    have hok : ∀ e ∈ ds, okP e = true := fun e he => partE_ok (hpe e he)
    have hft := sml_l (es := ds) (fun e he => partE_sml (hpe e he)) (by omega)
    have hme : MeOk (.tup ds) := ⟨by omega, fun e he => partE_ptok (hpe e he)⟩
    refine ⟨_, rfl, Dl, acc, rfl, .inl ⟨SqL.of hax, fun t1 ht1 => ?_⟩⟩
    have s8 := same_new (o := .tup acc) ht1
    refine ⟨.ref t1, .tup ds, true, rfl, .tup upd_same (ia.same s8), hft.1, hme, fun H9 s9 => ⟨_, rfl, bF (by rw [meas_true hok hnd]; rfl) ?_⟩⟩
    have s9 := s8.trans s9
    refine ⟨_, rfl, Dl, acc, rfl, .inl ⟨SqL.of (s9 _ _ hax), fun t2 ht2 => ?_⟩⟩
    have s10 := s9.trans (same_new (o := .tup acc) ht2)
    refine ⟨t2, acc, ds, rfl, upd_same, ia.same s10, hlen, hpe, hnd, fun H11 s11 => ⟨_, rfl, bF rfl ?_⟩⟩
    have s11 := s10.trans s11
    refine ⟨_, rfl, Dl, acc, rfl, .inl (SqL.of (s11 _ _ hax)), fun l3 hl3 => ?_⟩
    have s12 := s11.trans (same_new (o := .lst acc) hl3)
    refine ⟨.ref l3, .lst ds, rfl, .lst upd_same (ia.same s12), hft.2, trivial, fun H13 s13 => ⟨_, rfl, bF rfl ?_⟩⟩
    have s13 := s12.trans s13
    have hD13 := hD7.same s13
    have hax13 := s13 _ _ hax
    have ia13 := ia.same s13
    clear s13 s12 s11 s10 s9 s8 hl3 ht2 ht1
    unfold tNext
    dsimp only
    refine ⟨_, rfl, _, .inl ⟨_, SqL.of hax13, rfl⟩, ?_⟩
    by_cases hns : acc = []
    · subst hns
      exact iteF ⟨_, _, _, _, _, _, _, _, rfl, hD13⟩
    have hpos : 0 < acc.length := List.length_pos_iff.mpr hns
    refine bT (by cases acc <;> first | exact absurd rfl hns | rfl) ?_
    refine ⟨_, rfl, _, rfl, Dl, _, rfl, .inl (SqL.of hax13), d, c, _, rfl, hD13, by omega, by omega, fun H14 j hD14 b14 j0 j1 => ?_⟩
    have hax14 := b14 _ _ hax13 hoD.1 hoD.2
    have ia14 : IsA C H14 acc ds := IsA.keep (hD13.keep b14) (clnL_iff.mpr fun e he => partE_cln (hpe e he)) ia13
    clear hax13 ia13 b14
    obtain ⟨jn, rfl⟩ : ∃ jn : Nat, j = (jn : Int) := ⟨j.toNat, by omega⟩
    have hjn : jn < acc.length := by omega
    obtain ⟨xj, hxj⟩ : ∃ xj, acc[jn]? = some xj := ⟨_, List.getElem?_eq_getElem hjn⟩
    obtain ⟨ej, hej, ixj⟩ := ia14.at hxj
    have hejm := List.mem_of_getElem? hej
    refine ⟨_, rfl, _, rfl, (jn : Int), rfl, Dl, acc, rfl, SqL.of hax14, fun l4 hl4 => ?_⟩
    rw [cut_to]
    have s15 := same_new (o := .lst (acc.take jn)) hl4
    have hax15 := s15 _ _ hax14
    have ia15 := ia14.same s15
    have ixj15 := ixj.same s15
    have hD15 := hD14.same s15
    have el4 : (upd H14 l4 (.lst (acc.take jn))) l4 = some (.lst (acc.take jn)) := upd_same
    have ho4 := hD14.off hl4
    generalize upd H14 l4 (.lst (acc.take jn)) = H15 at *
    refine ⟨_, rfl, _, rfl, _, rfl, Dl, acc, jn, xj, rfl, rfl, SqL.of hax15, atI_nat hxj, ?_⟩
    have hcln : clnL ds = true := clnL_iff.mpr fun e he => partE_cln (hpe e he)
    refine ⟨d, c, xj, ej, rfl, hD15, ixj15, hpe ej hejm, fun H16 z ez hD16 b16 iz hn => ⟨(by show 1 ≤ sizeLine; decide), fun l6 hl6 => ?_⟩⟩
    have hax16 := b16 _ _ hax15 hoD.1 hoD.2
    have ia16 : IsA C H16 acc ds := IsA.keep (hD15.keep b16) hcln ia15
    have el4 := b16 _ _ el4 ho4.1 ho4.2
    have iz := iz.same nw_le
    clear hax14 ia14 hax15 ia15 ixj15 ixj b16 hD14 hD15 s15
    have s17 := same_new (o := .lst [z]) hl6
    have hax17 := s17 _ _ hax16
    have ia17 := ia16.same s17
    have iz := iz.same s17
    have hD17 := hD16.same s17
    have el4 := s17 _ _ el4
    have el6 : (upd H16 l6 (.lst [z])) l6 = some (.lst [z]) := upd_same
    generalize upd H16 l6 (.lst [z]) = H17 at *
    refine ⟨l4, l6, _, _, rfl, rfl, el4, el6, Nat.le_of_lt (small1000 (by simp; omega)), fun l7 hl7 => ?_⟩
    have s18 := same_new (o := .lst (acc.take jn ++ [z])) hl7
    have hax18 := s18 _ _ hax17
    have ia18 := ia17.same s18
    have iz := iz.same s18
    have hD18 := hD17.same s18
    have el7 : (upd H17 l7 (.lst (acc.take jn ++ [z]))) l7 = some (.lst (acc.take jn ++ [z])) := upd_same
    generalize upd H17 l7 (.lst (acc.take jn ++ [z])) = H18 at *
    clear s17 s18 hax16 hax17 ia16 ia17 hD16 hD17 el4 el6
    refine ⟨_, rfl, _, rfl, _, _, rfl, rfl, _, rfl, Dl, acc, rfl, SqL.of hax18, fun l8 hl8 => ?_⟩
    rw [show ((jn : Int) + 1) = ((jn + 1 : Nat) : Int) from rfl, cut_from]
    have s19 := same_new (o := .lst (acc.drop (jn + 1))) hl8
    have hax19 := s19 _ _ hax18
    have ia19 := ia18.same s19
    have iz := iz.same s19
    have hD19 := hD18.same s19
    have el7 := s19 _ _ el7
    have el8 : (upd H18 l8 (.lst (acc.drop (jn + 1)))) l8 = some (.lst (acc.drop (jn + 1))) := upd_same
    generalize upd H18 l8 (.lst (acc.drop (jn + 1))) = H19 at *
    refine ⟨l7, l8, _, _, rfl, rfl, el7, el8, Nat.le_of_lt (small1000 (by simp; omega)), fun l9 hl9 => ?_⟩
    have s20 := same_new (o := .lst (acc.take jn ++ [z] ++ acc.drop (jn + 1))) hl9
    have hax20 := s20 _ _ hax19
    have ia20 := ia19.same s20
    have iz := iz.same s20
    have hD20 := hD19.same s20
    have el9 : (upd H19 l9 (.lst (acc.take jn ++ [z] ++ acc.drop (jn + 1)))) l9 = some (.lst (acc.take jn ++ [z] ++ acc.drop (jn + 1))) := upd_same
    generalize upd H19 l9 (.lst (acc.take jn ++ [z] ++ acc.drop (jn + 1))) = H20 at *
    refine ⟨l9, _, rfl, .inl ⟨SqL.of el9, fun t10 ht10 => ?_⟩⟩
    have s21 := same_new (o := .tup (acc.take jn ++ [z] ++ acc.drop (jn + 1))) ht10
    have hax21 := s21 _ _ hax20
    have ia21 := ia20.same s21
    have iz := iz.same s21
    have hD21 := hD20.same s21
    have e10 : (upd H20 t10 (.tup (acc.take jn ++ [z] ++ acc.drop (jn + 1)))) t10 = some (.tup (acc.take jn ++ [z] ++ acc.drop (jn + 1))) := upd_same
    generalize upd H20 t10 (.tup (acc.take jn ++ [z] ++ acc.drop (jn + 1))) = H21 at *
    clear s19 s20 s21 hax18 hax19 hax20 ia18 ia19 ia20 hD18 hD19 hD20 el7 el8 el9
    have hin : ∀ e ∈ ds.take jn ++ [ez] ++ ds.drop (jn + 1), e = ez ∨ e ∈ ds := by
      intro e he
      rcases List.mem_append.mp he with h | h
      · rcases List.mem_append.mp h with h | h
        · exact .inr (List.mem_of_mem_take h)
        · simp at h; exact .inl h
      · exact .inr (List.mem_of_mem_drop h)
    have hle : (ds.take jn ++ [ez] ++ ds.drop (jn + 1)).length ≤ 10 := by simp; omega
    have ft : Fit (.tup (ds.take jn ++ [ez] ++ ds.drop (jn + 1))) := (sml_l (fun e he => by
      rcases hin e he with rfl | h
      · exact hn.2.1
      · exact partE_sml (hpe e h)) (by omega)).1
    have me : MeOk (.tup (ds.take jn ++ [ez] ++ ds.drop (jn + 1))) := ⟨by omega, fun e he => by
      rcases hin e he with rfl | h
      · exact hn.2.2
      · exact partE_ptok (hpe e h)⟩
    refine ⟨.ref t10, .tup (ds.take jn ++ [ez] ++ ds.drop (jn + 1)), false, rfl, .tup e10 (((isA_take jn ia21).app (.cons iz .nil)).app (isA_drop (jn + 1) ia21)), ft, me, fun H22 s22 => ⟨_, rfl, bF (by rw [meas_bad (e := ez) (by simp) hn.1]; rfl) ?_⟩⟩
    have hax22 := s22 _ _ hax21
    have ia22 := ia21.same s22
    have hD22 := hD21.same s22
    clear s22 hax21 ia21 hD21 iz e10
    clear ft me hle hin hn
    dsimp only
    refine ⟨_, rfl, Dl, rfl, ⟨_, SqL.of hax22⟩, fun D2 hD2 => ?_⟩
    refine lc_it (walk_list (xs := acc)) (fun i H3 => Same H22 H3 ∧ ∃ ys, H3 D2 = some (.lst ys) ∧ ys.length ≤ i ∧ ∀ y ∈ ys, ∃ az p w, y = .ref az ∧ H22 az = some (.tup [.str "page", .int p, w]) ∧ p ∈ pgs ds ∧ 0 ≤ p ∧ p < 8) ⟨same_new hD2, [], upd_same, Nat.le_refl _, fun y hy => by cases hy⟩ (fun i H3 _ h => SqL.of (h.1 _ _ hax22)) ?_ ?_
    · rintro i z H3x H3 hi ⟨s3, ys, hz3, hyl, hys⟩ ⟨rfl, hz⟩
      obtain ⟨e, he, hze⟩ := ia22.at hz
      have hem := List.mem_of_getElem? he
      cases partV (hok e hem) hze with
      | @page az p y ws h1 i1 w1 =>
        have h1' := s3 _ _ h1
        refine ⟨rfl, _, rfl, az, _, 0, _, rfl, rfl, SqT.of h1', atI_nat (j := 0) rfl, rfl, _, rfl, ifT rfl ⟨_, rfl, ys, hz3, small1000 (by omega), same_put s3 hD2, ys ++ [.ref az], upd_same, by simp; omega, fun y' hy' => ?_⟩⟩
        rcases List.mem_append.mp hy' with h | h
        · exact hys y' h
        · simp at h
          have hb : 0 ≤ p ∧ p < 8 := by
            rcases hpe _ hem with ⟨p', ws', e', h0, h1, _⟩ | ⟨pr, ws', e', _⟩
            · cases e'; exact ⟨h0, h1⟩
            · cases e'
          exact ⟨az, p, y, h, h1, List.mem_filterMap.mpr ⟨_, hem, by simp [pgO]⟩, hb⟩
      | @cpu az y z2 pr rg h1 i1 j1 =>
        have h1' := s3 _ _ h1
        exact ⟨rfl, _, rfl, az, _, 0, _, rfl, rfl, SqT.of h1', atI_nat (j := 0) rfl, rfl, _, rfl, ifF (fun z => nPC (V.str.inj z)) ⟨s3, ys, hz3, by omega, hys⟩⟩
    rintro H23 ⟨s23, ys, hz23, hyl, hys⟩
    have hD23 := hD22.same s23
    have hax23 := s23 _ _ hax22
    have ia23 := ia22.same s23
    have ho2 := hD22.off hD2
    refine ⟨_, rfl, _, .inl ⟨_, SqL.of hz23, rfl⟩, ?_⟩
    by_cases hyn : ys = []
    · subst hyn
      exact iteF ⟨_, _, _, _, _, _, _, _, rfl, hD23⟩
    have hpos2 : 0 < ys.length := List.length_pos_iff.mpr hyn
    refine bT (by cases ys <;> first | exact absurd rfl hyn | rfl) ?_
    refine ⟨_, rfl, _, rfl, d, c, D2, ys, rfl, hD23, hz23, ho2.2, hpos2, by omega, fun H24 i2 x hD24 b24 hx => ?_⟩
    obtain ⟨az, p, wz, rfl, hxz, hpp, hp0, hp1⟩ := hys x (List.mem_of_getElem? hx)
    have kk24 := hD23.keep (C := C) b24
    have ex24 := kk24.tup _ _ (s23 _ _ hxz)
    have hax24 := b24 _ _ hax23 hoD.1 hoD.2
    have ia24 := IsA.keep kk24 hcln ia23
    refine ⟨az, _, 1, _, rfl, rfl, SqT.of ex24, atI_nat (j := 1) rfl, ?_⟩
    refine ⟨_, rfl, d, c, rfl, hD24, fun H25 wv we hD25 b25 iw hw => ?_⟩
    obtain ⟨ws, rfl, hwl, hww⟩ := hw
    have hax25 := b25 _ _ hax24 hoD.1 hoD.2
    have ia25 := IsA.keep (hD24.keep b25) hcln ia24
    have iw := iw.same nw_le
    refine ⟨(by show 3 ≤ sizeLine; decide), fun t26 ht26 => ?_⟩
    have s26 := same_new (o := .tup [.str "page", .int p, wv]) ht26
    have it : Is C (upd H25 t26 (.tup [.str "page", .int p, wv])) (.ref t26) (.tup [.str "page", .int p, .tup ws]) := .tup upd_same (.cons (.str _) (.cons (.int _) (.cons (iw.same s26) .nil)))
    have hpE : PartE (.tup [.str "page", .int p, .tup ws]) := .inl ⟨p, ws, rfl, hp0, hp1, hwl, hww⟩
    have hax26 := s26 _ _ hax25
    have ia26 := ia25.same s26
    have hD26 := hD25.same s26
    generalize upd H25 t26 (.tup [.str "page", .int p, wv]) = H26 at *
    clear s26 hax25 hax24 hax23 hax22 ia25 ia24 ia23 ia22 hD25 hD24 hD23 hD22 b25 b24 iw ex24 kk24 hxz
    refine ⟨_, rfl, _, rfl, (jn : Int), rfl, Dl, acc, rfl, SqL.of hax26, fun l4 hl4 => ?_⟩
    rw [cut_to]
    have s15 := same_new (o := .lst (acc.take jn)) hl4
    have hax15 := s15 _ _ hax26
    have ia15 := ia26.same s15
    have it := it.same s15
    have hD15 := hD26.same s15
    have el4 : (upd H26 l4 (.lst (acc.take jn))) l4 = some (.lst (acc.take jn)) := upd_same
    generalize upd H26 l4 (.lst (acc.take jn)) = H15 at *
    refine ⟨_, rfl, (by show 1 ≤ sizeLine; decide), fun l6 hl6 => ?_⟩
    have s17 := same_new (o := .lst [.ref t26]) hl6
    have hax17 := s17 _ _ hax15
    have ia17 := ia15.same s17
    have iz := it.same s17
    have hD17 := hD15.same s17
    have el4 := s17 _ _ el4
    have el6 : (upd H15 l6 (.lst [.ref t26])) l6 = some (.lst [.ref t26]) := upd_same
    generalize upd H15 l6 (.lst [.ref t26]) = H17 at *
    refine ⟨l4, l6, _, _, rfl, rfl, el4, el6, Nat.le_of_lt (small1000 (by simp; omega)), fun l7 hl7 => ?_⟩
    have s18 := same_new (o := .lst (acc.take jn ++ [.ref t26])) hl7
    have hax18 := s18 _ _ hax17
    have ia18 := ia17.same s18
    have iz := iz.same s18
    have hD18 := hD17.same s18
    have el7 : (upd H17 l7 (.lst (acc.take jn ++ [.ref t26]))) l7 = some (.lst (acc.take jn ++ [.ref t26])) := upd_same
    generalize upd H17 l7 (.lst (acc.take jn ++ [.ref t26])) = H18 at *
    refine ⟨_, rfl, _, rfl, (jn : Int), rfl, Dl, acc, rfl, SqL.of hax18, fun l8 hl8 => ?_⟩
    rw [cut_from]
    have s19 := same_new (o := .lst (acc.drop jn)) hl8
    have hax19 := s19 _ _ hax18
    have ia19 := ia18.same s19
    have iz := iz.same s19
    have hD19 := hD18.same s19
    have el7 := s19 _ _ el7
    have el8 : (upd H18 l8 (.lst (acc.drop jn))) l8 = some (.lst (acc.drop jn)) := upd_same
    generalize upd H18 l8 (.lst (acc.drop jn)) = H19 at *
    refine ⟨l7, l8, _, _, rfl, rfl, el7, el8, Nat.le_of_lt (small1000 (by simp; omega)), fun l9 hl9 => ?_⟩
    have s20 := same_new (o := .lst (acc.take jn ++ [.ref t26] ++ acc.drop jn)) hl9
    have ia20 := ia19.same s20
    have iz := iz.same s20
    have hD20 := hD19.same s20
    have el9 : (upd H19 l9 (.lst (acc.take jn ++ [.ref t26] ++ acc.drop jn))) l9 = some (.lst (acc.take jn ++ [.ref t26] ++ acc.drop jn)) := upd_same
    generalize upd H19 l9 (.lst (acc.take jn ++ [.ref t26] ++ acc.drop jn)) = H20 at *
    refine ⟨l9, _, rfl, .inl ⟨SqL.of el9, fun t10 ht10 => ?_⟩⟩
    have s21 := same_new (o := .tup (acc.take jn ++ [.ref t26] ++ acc.drop jn)) ht10
    have ia21 := ia20.same s21
    have iz := iz.same s21
    have hD21 := hD20.same s21
    have e10 : (upd H20 t10 (.tup (acc.take jn ++ [.ref t26] ++ acc.drop jn))) t10 = some (.tup (acc.take jn ++ [.ref t26] ++ acc.drop jn)) := upd_same
    generalize upd H20 t10 (.tup (acc.take jn ++ [.ref t26] ++ acc.drop jn)) = H21 at *
    clear s15 s17 s18 s19 s20 s21
    have hin : ∀ e ∈ ds.take jn ++ [(.tup [.str "page", .int p, .tup ws] : D)] ++ ds.drop jn, PartE e := by
      intro e he
      rcases List.mem_append.mp he with h | h
      · rcases List.mem_append.mp h with h | h
        · exact hpe e (List.mem_of_mem_take h)
        · simp at h; rw [h]; exact hpE
      · exact hpe e (List.mem_of_mem_drop h)
    have hle : (ds.take jn ++ [(.tup [.str "page", .int p, .tup ws] : D)] ++ ds.drop jn).length ≤ 10 := by simp; omega
    have ft := (sml_l (es := ds.take jn ++ [.tup [.str "page", .int p, .tup ws]] ++ ds.drop jn) (fun e he => partE_sml (hin e he)) (by omega)).1
    have me : MeOk (.tup (ds.take jn ++ [.tup [.str "page", .int p, .tup ws]] ++ ds.drop jn)) := ⟨by omega, fun e he => partE_ptok (hin e he)⟩
    have tw : measB (.tup (ds.take jn ++ [.tup [.str "page", .int p, .tup ws]] ++ ds.drop jn)) = false := by
      refine meas_twice fun z => ?_
      rw [pgs_app, pgs_app] at z
      have e1 : pgs [(.tup [.str "page", .int p, .tup ws] : D)] = [p] := by simp [pgs, pgO]
      rw [e1] at z
      have hp2 : p ∈ pgs (ds.take jn) ++ pgs (ds.drop jn) := by rw [← pgs_app, List.take_append_drop]; exact hpp
      obtain ⟨z1, z2, z3⟩ := List.nodup_append.mp z
      rcases List.mem_append.mp hp2 with h | h
      · exact (List.nodup_append.mp z1).2.2 p h p (by simp) rfl
      · exact z3 p (by simp) p h rfl
    refine ⟨.ref t10, _, false, rfl, .tup e10 (((isA_take jn ia21).app (.cons iz .nil)).app (isA_drop jn ia21)), ft, me, fun H22 s22 => ⟨_, rfl, bF (by rw [tw]; rfl) ?_⟩⟩
    exact ⟨_, _, _, _, _, _, _, _, rfl, hD21.same s22⟩
  · rintro σ H4 ⟨v2, v3, v4, v5, v6, v7, v8, v9, rfl, hD4⟩
    refine ⟨(by show 0 ≤ sizeLine; decide), fun t1 ht1 => ?_⟩
    have s5 := same_new (o := .tup []) ht1
    refine ⟨.ref t1, .tup [], true, rfl, .tup upd_same .nil, fit_of (by decide) (by decide), ⟨Nat.zero_le _, fun e he => by cases he⟩, fun H6 s6 => ⟨_, rfl, bF (by rw [meas_true (ds := []) (fun e he => by cases he) List.nodup_nil]; rfl) ?_⟩⟩
    have hD6 := (hD4.same s5).same s6
    refine ⟨(by show 0 ≤ sizeLine; decide), fun t2 ht2 => ?_⟩
    have s7 := same_new (o := .tup []) ht2
    refine ⟨t2, [], [], rfl, upd_same, .nil, Nat.zero_le _, (fun e he => by cases he), fun H8 q8 s8 i8 => ?_⟩
    have hD8 := (hD6.same s7).same s8
    refine ⟨(by show 0 ≤ sizeLine; decide), fun t3 ht3 => ?_⟩
    have s9 := same_new (o := .tup []) ht3
    obtain ⟨e8⟩ : H8 q8 = some (.tup []) ∧ True := by
      cases i8 with
      | tup h1 h2 => cases h2; exact ⟨h1, trivial⟩
    refine ⟨.tuple [], .tuple [], .tup (SqT.of (s9 _ _ e8)) .nil, .tup (SqT.of upd_same) .nil, rfl, rfl, _, rfl, bF (by simp [PyData.eqv, PyData.eqvAll]) ?_⟩
    have hD9 := hD8.same s9
    generalize upd H8 t3 (.tup []) = H9 at *
    refine ⟨(by show 0 ≤ sizeLine; decide), fun t4 ht4 => ?_⟩
    have s10 := same_new (o := .tup []) ht4
    refine ⟨t4, [], [], rfl, upd_same, .nil, Nat.zero_le _, (fun e he => by cases he), List.nodup_nil, fun H11 q11 s11 hq0 hq => ?_⟩
    have hD11 := (hD9.same s10).same s11
    intro t5 ht5
    have s12 := same_new (o := .dK []) ht5
    refine ⟨q11, t5, [], [], rfl, rfl, s12 _ _ hq, upd_same, rfl, (fun p hp => by cases hp), _, rfl, bF rfl ?_⟩
    have hD := hD11.same s12
    generalize upd H11 t5 (.dK []) = Hn at *
    clear hD4 hD6 hD8 hD9 hD11 s5 s6 s7 s8 s9 s10 s11 s12 hq hq0 ht1 ht2 ht3 ht4 ht5
    have st := Same.refl Hn
    refine ⟨_, rfl, ?_⟩
    intro a0 h_a0
    obtain ⟨st, e_a0, m_a0⟩ := newF (o := .dK []) hD st h_a0
    have i_a0 : Is C (nw Hn (upd Hn a0 (.dK []))) (.ref a0) .dct := .dct e_a0
    generalize upd Hn a0 (.dK []) = G1 at *
    refine ⟨(by show 0 ≤ sizeLine; decide), fun a1 h_a1 => ?_⟩
    obtain ⟨st, e_a1, m_a1⟩ := newF (o := .lst []) hD st h_a1
    have i_a1 : Is C (nw Hn (upd G1 a1 (.lst []))) (.ref a1) (.lst []) := .lst e_a1 .nil
    have i_a0 := i_a0.same m_a1
    generalize upd G1 a1 (.lst []) = G2 at *
    refine ⟨(by show 4 ≤ sizeLine; decide), fun a2 h_a2 => ?_⟩
    obtain ⟨st, e_a2, m_a2⟩ := newF (o := .tup [.int 0, .int 0, .int 0, .int 0]) hD st h_a2
    have i_a2 : Is C (nw Hn (upd G2 a2 (.tup [.int 0, .int 0, .int 0, .int 0]))) (.ref a2) (.tup [.int 0, .int 0, .int 0, .int 0]) := .tup e_a2 (.cons (.int _) (.cons (.int _) (.cons (.int _) (.cons (.int _) .nil))))
    have i_a0 := i_a0.same m_a2
    have i_a1 := i_a1.same m_a2
    generalize upd G2 a2 (.tup [.int 0, .int 0, .int 0, .int 0]) = G3 at *
    refine ⟨(by show 3 ≤ sizeLine; decide), fun a3 h_a3 => ?_⟩
    obtain ⟨st, e_a3, m_a3⟩ := newF (o := .tup [.str "page", .int 0, .ref a2]) hD st h_a3
    have i_a3 : Is C (nw Hn (upd G3 a3 (.tup [.str "page", .int 0, .ref a2]))) (.ref a3) (.tup [.str "page", .int 0, .tup [.int 0, .int 0, .int 0, .int 0]]) := .tup e_a3 (.cons (.str _) (.cons (.int _) (.cons (i_a2.same m_a3) .nil)))
    clear i_a2
    have i_a0 := i_a0.same m_a3
    have i_a1 := i_a1.same m_a3
    generalize upd G3 a3 (.tup [.str "page", .int 0, .ref a2]) = G4 at *
    refine ⟨(by show 1 ≤ sizeLine; decide), fun a4 h_a4 => ?_⟩
    obtain ⟨st, e_a4, m_a4⟩ := newF (o := .tup [.non]) hD st h_a4
    have i_a4 : Is C (nw Hn (upd G4 a4 (.tup [.non]))) (.ref a4) (.tup [.non]) := .tup e_a4 (.cons .non .nil)
    have i_a0 := i_a0.same m_a4
    have i_a1 := i_a1.same m_a4
    have i_a3 := i_a3.same m_a4
    generalize upd G4 a4 (.tup [.non]) = G5 at *
    refine ⟨(by show 0 ≤ sizeLine; decide), fun a5 h_a5 => ?_⟩
    obtain ⟨st, e_a5, m_a5⟩ := newF (o := .tup []) hD st h_a5
    have i_a5 : Is C (nw Hn (upd G5 a5 (.tup []))) (.ref a5) (.tup []) := .tup e_a5 .nil
    have i_a0 := i_a0.same m_a5
    have i_a1 := i_a1.same m_a5
    have i_a3 := i_a3.same m_a5
    have i_a4 := i_a4.same m_a5
    generalize upd G5 a5 (.tup []) = G6 at *
    refine ⟨(by show 1 ≤ sizeLine; decide), fun a6 h_a6 => ?_⟩
    obtain ⟨st, e_a6, m_a6⟩ := newF (o := .tup [.ref a5]) hD st h_a6
    have i_a6 : Is C (nw Hn (upd G6 a6 (.tup [.ref a5]))) (.ref a6) (.tup [.tup []]) := .tup e_a6 (.cons (i_a5.same m_a6) .nil)
    clear i_a5
    have i_a0 := i_a0.same m_a6
    have i_a1 := i_a1.same m_a6
    have i_a3 := i_a3.same m_a6
    have i_a4 := i_a4.same m_a6
    generalize upd G6 a6 (.tup [.ref a5]) = G7 at *
    refine ⟨(by show 2 ≤ sizeLine; decide), fun a7 h_a7 => ?_⟩
    obtain ⟨st, e_a7, m_a7⟩ := newF (o := .tup [.str "v", .int 0]) hD st h_a7
    have i_a7 : Is C (nw Hn (upd G7 a7 (.tup [.str "v", .int 0]))) (.ref a7) (.tup [.str "v", .int 0]) := .tup e_a7 (.cons (.str _) (.cons (.int _) .nil))
    have i_a0 := i_a0.same m_a7
    have i_a1 := i_a1.same m_a7
    have i_a3 := i_a3.same m_a7
    have i_a4 := i_a4.same m_a7
    have i_a6 := i_a6.same m_a7
    generalize upd G7 a7 (.tup [.str "v", .int 0]) = G8 at *
    refine ?_; intro a8 d_a8 h_a8 hd_a8 _
    have s2 : Same G8 (upd (upd G8 d_a8 (.own a8)) a8 (.ins C d_a8 [])) := same_put (same_new hd_a8) h_a8
    refine ⟨a8, d_a8, "challenge", a7, [.str "v", .int 0], rfl, upd_same, (i_a7.same nw_le).same s2, (okCh).1, (okCh).2.1, (okCh).2.2, fun G9 hat oth => ⟨rfl, ?_⟩⟩
    have z_a8 : Same G8 G9 := fun b u e => oth b u (s2 _ _ e) (ne_of_none e h_a8)
    have st := st.trans z_a8
    have m_a8 : Same (nw Hn G8) (nw Hn G9) := nw_bu hD (Bu2.of z_a8)
    have i_a8 : Is C (nw Hn G9) (.ref a8) (.atom "challenge" [.str "v", .int 0]) := Is.nw (LDk.of st) (show cln (.atom "challenge" [.str "v", .int 0]) = true by decide +kernel) (at_of hat ((i_a7.same nw_le).same z_a8))
    clear i_a7
    have i_a0 := i_a0.same m_a8
    have i_a1 := i_a1.same m_a8
    have i_a3 := i_a3.same m_a8
    have i_a4 := i_a4.same m_a8
    have i_a6 := i_a6.same m_a8
    clear s2 hat oth
    refine ⟨(by show 10 ≤ sizeLine; decide), fun l hl => ?_⟩
    have ia : IsA C (nw Hn G9) [.non, .int 5, .str "page", .str "", .ref a0, .ref a1, .ref a3, .ref a4, .ref a6, .ref a8] [.non, .int 5, .str "page", .str "", .dct, .lst [], .tup [.str "page", .int 0, .tup [.int 0, .int 0, .int 0, .int 0]], .tup [.non], .tup [.tup []], .atom "challenge" [.str "v", .int 0]] := (.cons .non (.cons (.int _) (.cons (.str _) (.cons (.str _) (.cons i_a0 (.cons i_a1 (.cons i_a3 (.cons i_a4 (.cons i_a6 (.cons i_a8 .nil))))))))))
    refine pick_new (hD.same st) hl (by show 0 < 10; decide) (by show 10 < 1000000; decide) fun H' x hD' b' hx => ?_
    obtain ⟨e, he, ie⟩ := isA_mem ia hx
    have ie := (ie.same (nw_bu hD b')).same nw_le
    have hE : sml e ∧ measB e = false ∧ MeOk e := by
      simp only [List.mem_cons, List.not_mem_nil, or_false] at he
      rcases he with rfl | rfl | rfl | rfl | rfl | rfl | rfl | rfl | rfl | rfl <;> refine ⟨⟨by decide +kernel, by decide +kernel⟩, by decide +kernel, ?_⟩ <;> first
        | trivial
        | exact ⟨by decide, fun e he => by
            simp only [List.mem_cons, List.not_mem_nil, or_false] at he
            rcases he with rfl | rfl | rfl <;> trivial⟩
        | exact ⟨by decide, fun e he => by
            simp only [List.mem_cons, List.not_mem_nil, or_false] at he
            rcases he with rfl <;> trivial⟩
    refine ⟨x, e, false, rfl, ie, fit_of (Nat.le_trans hE.1.1 (by decide)) hE.1.2, hE.2.2, fun H2 s2 => ?_⟩
    rw [hE.2.1]
    exact q H2
end
end Hc

namespace Hc
open PySem PySem.Spec PyProof.Rows L2 Hr
theorem all_mk {l : PySem.W.OpenLaw} {w : World} {K : PySem.W.Frag} {h : Heap} {mg : Str → Option Value} {fa C Fo tt1 tt2 tt3 tt4 tt5 kf0_0 kf0_1 kf0_2 kf0_3 kf0_4 kf0_5 kf0_6 kf0_7 kf0_8 kf0_9 kf0_10 kf0_11 Kf0 f1 f2 f3 f4 f5 f6 f7 f8 f9 f10 f11 f12 f13 f14 f15 f16 f17 f18 f19 f20 f21 f22 f23 f24 f25 f26 f27 f28 f29 f30 f31 f32 f33 f34 f35 f36 f37 f38 f39 f40 f41 f42 : Addr} (X : K.In h) (G : h.Ns mainGlobals mg) (hfa : mg "law" = some (.ref fa))
    {od1 od2 od3 od4 od5 od6 od7 od8 od9 od10 od11 od12 od13 od14 od15 od16 od17 od18 od19 od20 od21 od22 od23 od24 od25 od26 od27 od28 od29 od30 od31 od32 od33 od34 od35 od36 od37 od38 od39 od40 od41 od42 an1 an2 an3 an4 an5 an6 an7 an8 an9 an10 an11 an12 an13 an14 an15 an16 an17 an18 an19 an20 an21 an22 an23 an24 an25 an26 an27 an28 an29 an30 an31 an32 an33 an34 an35 an36 an37 an38 an39 an40 an41 an42 : Option Addr} {sl1 sl2 sl3 sl4 sl5 sl6 sl7 sl8 sl9 sl10 sl11 sl12 sl13 sl14 sl15 sl16 sl17 sl18 sl19 sl20 sl21 sl22 sl23 sl24 sl25 sl26 sl27 sl28 sl29 sl30 sl31 sl32 sl33 sl34 sl35 sl36 sl37 sl38 sl39 sl40 sl41 sl42 : Array (Option Value)} {oc1 oc2 oc3 oc4 oc5 oc6 oc7 oc8 oc9 oc10 oc11 oc12 oc13 oc14 oc15 oc16 oc17 oc18 oc19 oc20 oc21 oc22 oc23 oc24 oc25 oc26 oc27 oc28 oc29 oc30 oc31 oc32 oc33 oc34 oc35 oc36 oc37 oc38 oc39 oc40 oc41 oc42 kV1 kV2 kV3 kV4 kV5 kV6 kV7 kV8 kV9 kV10 kV11 kV12 kV13 kV14 kV15 kV16 kV17 kV18 kV19 kV20 kV21 kV22 kV23 kV24 kV25 kV26 kV27 kV28 kV29 kV30 kV31 kV32 kV33 kV34 kV35 kV36 kV37 kV38 kV39 kV40 kV41 kV42 dc1 dc2 dc3 dc4 dc5 dc6 dc7 dc8 dc9 dc10 dc11 dc12 dc13 dc14 dc15 dc16 dc17 dc18 dc19 dc20 dc21 dc22 dc23 dc24 dc25 dc26 dc27 dc28 dc29 dc30 dc31 dc32 dc33 dc34 dc35 dc36 dc37 dc38 dc39 dc40 dc41 dc42 pm1 pm2 pm3 pm4 pm5 pm6 pm7 pm8 pm9 pm10 pm11 pm12 pm13 pm14 pm15 pm16 pm17 pm18 pm19 pm20 pm21 pm22 pm23 pm24 pm25 pm26 pm27 pm28 pm29 pm30 pm31 pm32 pm33 pm34 pm35 pm36 pm37 pm38 pm39 pm40 pm41 pm42 cd1 cd2 cd3 cd4 cd5 cd6 cd7 cd8 cd9 cd10 cd11 cd12 cd13 cd14 cd15 cd16 cd17 cd18 cd19 cd20 cd21 cd22 cd23 cd24 cd25 cd26 cd27 cd28 cd29 cd30 cd31 cd32 cd33 cd34 cd35 cd36 cd37 cd38 cd39 cd40 cd41 cd42 ct1 ct2 ct3 ct4 ct5 ct6 ct7 ct8 ct9 ct10 ct11 ct12 ct13 ct14 ct15 ct16 ct17 ct18 ct19 ct20 ct21 ct22 ct23 ct24 ct25 ct26 ct27 ct28 ct29 ct30 ct31 ct32 ct33 ct34 ct35 ct36 ct37 ct38 ct39 ct40 ct41 ct42 : Value}
    {tLEAST tGREATEST tMOST_CHARACTERS tMOST_DEEP tMOST_DEEP_HOST tMOST_RANK tMOST_RANK_HOST tWORDS tPAGES tFIRST_SHARED tMOST_INSTRUCTIONS tREGISTERS : Tok} {esF esK0 : Array DictEntry} {nF nK0 : Nat}
    {utt1_0 utt1_1 utt1_2 utt2_0 utt2_1 utt3_0 utt3_1 utt3_2 utt3_3 utt4_0 utt4_1 utt4_2 utt4_3 utt5_0 utt5_1 utt5_2 utt5_3 utt5_4 utt5_5 ukf0_0_0 ukf0_0_1 ukf0_1_0 ukf0_1_1 ukf0_2_0 ukf0_2_1 ukf0_2_2 ukf0_3_0 ukf0_3_1 ukf0_3_2 ukf0_4_0 ukf0_4_1 ukf0_4_2 ukf0_5_0 ukf0_5_1 ukf0_6_0 ukf0_7_0 ukf0_7_1 ukf0_7_2 ukf0_8_0 ukf0_8_1 ukf0_8_2 ukf0_9_0 ukf0_9_1 ukf0_10_0 ukf0_10_1 : Tok} {ntt1 ntt2 ntt3 ntt4 ntt5 nkf0_0 nkf0_1 nkf0_2 nkf0_3 nkf0_4 nkf0_5 nkf0_6 nkf0_7 nkf0_8 nkf0_9 nkf0_10 nkf0_11 : Nat} {dtt1 dtt2 dtt3 dtt4 dtt5 dkf0_0 dkf0_1 dkf0_2 dkf0_3 dkf0_4 dkf0_5 dkf0_6 dkf0_7 dkf0_8 dkf0_9 dkf0_10 dkf0_11 : Option Addr} {stt1 stt2 stt3 stt4 stt5 skf0_0 skf0_1 skf0_2 skf0_3 skf0_4 skf0_5 skf0_6 skf0_7 skf0_8 skf0_9 skf0_10 skf0_11 : Array (Option Value)}
    (a1 : PySem.W.nsIn K mainGlobals "is_number" = some (some (.ref f1)))
    (l1 : K.lookup f1 = some ⟨oc1, od1, .func (PySem.W.fnOf "is_number" "is_number" (C8.fnArgs s_is_number) (C8.fnBody s_is_number) (C8.fnScope s_is_number) .none kV1 dc1 pm1 an1 cd1 ct1), sl1⟩)
    (c1 : PySem.W.codeIn K cd1 "is_number" = true)
    (k1 : PySem.W.keepIn K (.ref f1) = true)
    (a2 : PySem.W.nsIn K mainGlobals "is_text" = some (some (.ref f2)))
    (l2 : K.lookup f2 = some ⟨oc2, od2, .func (PySem.W.fnOf "is_text" "is_text" (C8.fnArgs s_is_text) (C8.fnBody s_is_text) (C8.fnScope s_is_text) .none kV2 dc2 pm2 an2 cd2 ct2), sl2⟩)
    (c2 : PySem.W.codeIn K cd2 "is_text" = true)
    (k2 : PySem.W.keepIn K (.ref f2) = true)
    (a3 : PySem.W.nsIn K mainGlobals "_is_within" = some (some (.ref f3)))
    (l3 : K.lookup f3 = some ⟨oc3, od3, .func (PySem.W.fnOf "_is_within" "_is_within" (C8.fnArgs s__is_within) (C8.fnBody s__is_within) (C8.fnScope s__is_within) .none kV3 dc3 pm3 an3 cd3 ct3), sl3⟩)
    (c3 : PySem.W.codeIn K cd3 "_is_within" = true)
    (k3 : PySem.W.keepIn K (.ref f3) = true)
    (a4 : PySem.W.nsIn K mainGlobals "is_word" = some (some (.ref f4)))
    (l4 : K.lookup f4 = some ⟨oc4, od4, .func (PySem.W.fnOf "is_word" "is_word" (C8.fnArgs s_is_word) (C8.fnBody s_is_word) (C8.fnScope s_is_word) .none kV4 dc4 pm4 an4 cd4 ct4), sl4⟩)
    (c4 : PySem.W.codeIn K cd4 "is_word" = true)
    (k4 : PySem.W.keepIn K (.ref f4) = true)
    (a5 : PySem.W.nsIn K mainGlobals "is_host_word" = some (some (.ref f5)))
    (l5 : K.lookup f5 = some ⟨oc5, od5, .func (PySem.W.fnOf "is_host_word" "is_host_word" (C8.fnArgs s_is_host_word) (C8.fnBody s_is_host_word) (C8.fnScope s_is_host_word) .none kV5 dc5 pm5 an5 cd5 ct5), sl5⟩)
    (c5 : PySem.W.codeIn K cd5 "is_host_word" = true)
    (k5 : PySem.W.keepIn K (.ref f5) = true)
    (a6 : PySem.W.nsIn K mainGlobals "_places_of_atoms" = some (some (.ref f6)))
    (l6 : K.lookup f6 = some ⟨oc6, od6, .func (PySem.W.fnOf "_places_of_atoms" "_places_of_atoms" (C8.fnArgs s__places_of_atoms) (C8.fnBody s__places_of_atoms) (C8.fnScope s__places_of_atoms) .none kV6 dc6 pm6 an6 cd6 ct6), sl6⟩)
    (c6 : PySem.W.codeIn K cd6 "_places_of_atoms" = true)
    (k6 : PySem.W.keepIn K (.ref f6) = true)
    (a7 : PySem.W.nsIn K mainGlobals "rank_of" = some (some (.ref f7)))
    (l7 : K.lookup f7 = some ⟨oc7, od7, .func (PySem.W.fnOf "rank_of" "rank_of" (C8.fnArgs s_rank_of) (C8.fnBody s_rank_of) (C8.fnScope s_rank_of) .none kV7 dc7 pm7 an7 cd7 ct7), sl7⟩)
    (c7 : PySem.W.codeIn K cd7 "rank_of" = true)
    (k7 : PySem.W.keepIn K (.ref f7) = true)
    (a8 : PySem.W.nsIn K mainGlobals "_rank_of_atom" = some (some (.ref f8)))
    (l8 : K.lookup f8 = some ⟨oc8, od8, .func (PySem.W.fnOf "_rank_of_atom" "_rank_of_atom" (C8.fnArgs s__rank_of_atom) (C8.fnBody s__rank_of_atom) (C8.fnScope s__rank_of_atom) .none kV8 dc8 pm8 an8 cd8 ct8), sl8⟩)
    (c8 : PySem.W.codeIn K cd8 "_rank_of_atom" = true)
    (k8 : PySem.W.keepIn K (.ref f8) = true)
    (a9 : PySem.W.nsIn K mainGlobals "_most_rank" = some (some (.ref f9)))
    (l9 : K.lookup f9 = some ⟨oc9, od9, .func (PySem.W.fnOf "_most_rank" "_most_rank" (C8.fnArgs s__most_rank) (C8.fnBody s__most_rank) (C8.fnScope s__most_rank) .none kV9 dc9 pm9 an9 cd9 ct9), sl9⟩)
    (c9 : PySem.W.codeIn K cd9 "_most_rank" = true)
    (k9 : PySem.W.keepIn K (.ref f9) = true)
    (a10 : PySem.W.nsIn K mainGlobals "has_form_words" = some (some (.ref f10)))
    (l10 : K.lookup f10 = some ⟨oc10, od10, .func (PySem.W.fnOf "_has_form" "_has_form" (C8.fnArgs s_has_form_words) (C8.fnBody s_has_form_words) (C8.fnScope s_has_form_words) .none kV10 dc10 pm10 an10 cd10 ct10), sl10⟩)
    (c10 : PySem.W.codeIn K cd10 "_has_form" = true)
    (k10 : PySem.W.keepIn K (.ref f10) = true)
    (a11 : PySem.W.nsIn K mainGlobals "_is_term" = some (some (.ref f11)))
    (l11 : K.lookup f11 = some ⟨oc11, od11, .func (PySem.W.fnOf "_is_term" "_is_term" (C8.fnArgs s__is_term) (C8.fnBody s__is_term) (C8.fnScope s__is_term) .none kV11 dc11 pm11 an11 cd11 ct11), sl11⟩)
    (c11 : PySem.W.codeIn K cd11 "_is_term" = true)
    (k11 : PySem.W.keepIn K (.ref f11) = true)
    (a12 : PySem.W.nsIn K mainGlobals "_are_equal" = some (some (.ref f12)))
    (l12 : K.lookup f12 = some ⟨oc12, od12, .func (PySem.W.fnOf "_are_equal" "_are_equal" (C8.fnArgs s__are_equal) (C8.fnBody s__are_equal) (C8.fnScope s__are_equal) .none kV12 dc12 pm12 an12 cd12 ct12), sl12⟩)
    (c12 : PySem.W.codeIn K cd12 "_are_equal" = true)
    (k12 : PySem.W.keepIn K (.ref f12) = true)
    (a13 : PySem.W.nsIn K mainGlobals "is_form" = some (some (.ref f13)))
    (l13 : K.lookup f13 = some ⟨oc13, od13, .func (PySem.W.fnOf "is_form" "is_form" (C8.fnArgs s_is_form) (C8.fnBody s_is_form) (C8.fnScope s_is_form) .none kV13 dc13 pm13 an13 cd13 ct13), sl13⟩)
    (c13 : PySem.W.codeIn K cd13 "is_form" = true)
    (k13 : PySem.W.keepIn K (.ref f13) = true)
    (a14 : PySem.W.nsIn K mainGlobals "has_name" = some (some (.ref f14)))
    (l14 : K.lookup f14 = some ⟨oc14, od14, .func (PySem.W.fnOf "has_name" "has_name" (C8.fnArgs s_has_name) (C8.fnBody s_has_name) (C8.fnScope s_has_name) .none kV14 dc14 pm14 an14 cd14 ct14), sl14⟩)
    (c14 : PySem.W.codeIn K cd14 "has_name" = true)
    (k14 : PySem.W.keepIn K (.ref f14) = true)
    (a15 : PySem.W.nsIn K mainGlobals "_is_below" = some (some (.ref f15)))
    (l15 : K.lookup f15 = some ⟨oc15, od15, .func (PySem.W.fnOf "_is_below" "_is_below" (C8.fnArgs s__is_below) (C8.fnBody s__is_below) (C8.fnScope s__is_below) .none kV15 dc15 pm15 an15 cd15 ct15), sl15⟩)
    (c15 : PySem.W.codeIn K cd15 "_is_below" = true)
    (k15 : PySem.W.keepIn K (.ref f15) = true)
    (a16 : PySem.W.nsIn K mainGlobals "is_page" = some (some (.ref f16)))
    (l16 : K.lookup f16 = some ⟨oc16, od16, .func (PySem.W.fnOf "is_page" "is_page" (C8.fnArgs s_is_page) (C8.fnBody s_is_page) (C8.fnScope s_is_page) .none kV16 dc16 pm16 an16 cd16 ct16), sl16⟩)
    (c16 : PySem.W.codeIn K cd16 "is_page" = true)
    (k16 : PySem.W.keepIn K (.ref f16) = true)
    (a17 : PySem.W.nsIn K mainGlobals "has_form_machine" = some (some (.ref f17)))
    (l17 : K.lookup f17 = some ⟨oc17, od17, .func (PySem.W.fnOf "_has_form" "_has_form" (C8.fnArgs s_has_form_machine) (C8.fnBody s_has_form_machine) (C8.fnScope s_has_form_machine) .none kV17 dc17 pm17 an17 cd17 ct17), sl17⟩)
    (c17 : PySem.W.codeIn K cd17 "_has_form" = true)
    (k17 : PySem.W.keepIn K (.ref f17) = true)
    (a18 : PySem.W.nsIn K mainGlobals "_is_instruction" = some (some (.ref f18)))
    (l18 : K.lookup f18 = some ⟨oc18, od18, .func (PySem.W.fnOf "_is_instruction" "_is_instruction" (C8.fnArgs s__is_instruction) (C8.fnBody s__is_instruction) (C8.fnScope s__is_instruction) .none kV18 dc18 pm18 an18 cd18 ct18), sl18⟩)
    (c18 : PySem.W.codeIn K cd18 "_is_instruction" = true)
    (k18 : PySem.W.keepIn K (.ref f18) = true)
    (a19 : PySem.W.nsIn K mainGlobals "is_program" = some (some (.ref f19)))
    (l19 : K.lookup f19 = some ⟨oc19, od19, .func (PySem.W.fnOf "is_program" "is_program" (C8.fnArgs s_is_program) (C8.fnBody s_is_program) (C8.fnScope s_is_program) .none kV19 dc19 pm19 an19 cd19 ct19), sl19⟩)
    (c19 : PySem.W.codeIn K cd19 "is_program" = true)
    (k19 : PySem.W.keepIn K (.ref f19) = true)
    (a20 : PySem.W.nsIn K mainGlobals "is_registers" = some (some (.ref f20)))
    (l20 : K.lookup f20 = some ⟨oc20, od20, .func (PySem.W.fnOf "is_registers" "is_registers" (C8.fnArgs s_is_registers) (C8.fnBody s_is_registers) (C8.fnScope s_is_registers) .none kV20 dc20 pm20 an20 cd20 ct20), sl20⟩)
    (c20 : PySem.W.codeIn K cd20 "is_registers" = true)
    (k20 : PySem.W.keepIn K (.ref f20) = true)
    (a21 : PySem.W.nsIn K mainGlobals "is_measure" = some (some (.ref f21)))
    (l21 : K.lookup f21 = some ⟨oc21, od21, .func (PySem.W.fnOf "is_measure" "is_measure" (C8.fnArgs s_is_measure) (C8.fnBody s_is_measure) (C8.fnScope s_is_measure) .none kV21 dc21 pm21 an21 cd21 ct21), sl21⟩)
    (c21 : PySem.W.codeIn K cd21 "is_measure" = true)
    (k21 : PySem.W.keepIn K (.ref f21) = true)
    (a22 : PySem.W.nsIn K mainGlobals "first_pages" = some (some (.ref f22)))
    (l22 : K.lookup f22 = some ⟨oc22, od22, .func (PySem.W.fnOf "first_pages" "first_pages" (C8.fnArgs s_first_pages) (C8.fnBody s_first_pages) (C8.fnScope s_first_pages) .none kV22 dc22 pm22 an22 cd22 ct22), sl22⟩)
    (c22 : PySem.W.codeIn K cd22 "first_pages" = true)
    (k22 : PySem.W.keepIn K (.ref f22) = true)
    (a23 : PySem.W.nsIn K mainGlobals "first_cpus" = some (some (.ref f23)))
    (l23 : K.lookup f23 = some ⟨oc23, od23, .func (PySem.W.fnOf "first_cpus" "first_cpus" (C8.fnArgs s_first_cpus) (C8.fnBody s_first_cpus) (C8.fnScope s_first_cpus) .none kV23 dc23 pm23 an23 cd23 ct23), sl23⟩)
    (c23 : PySem.W.codeIn K cd23 "first_cpus" = true)
    (k23 : PySem.W.keepIn K (.ref f23) = true)
    (a24 : PySem.W.nsIn K mainGlobals "_is_page_part" = some (some (.ref f24)))
    (l24 : K.lookup f24 = some ⟨oc24, od24, .func (PySem.W.fnOf "_is_page_part" "_is_page_part" (C8.fnArgs s__is_page_part) (C8.fnBody s__is_page_part) (C8.fnScope s__is_page_part) .none kV24 dc24 pm24 an24 cd24 ct24), sl24⟩)
    (c24 : PySem.W.codeIn K cd24 "_is_page_part" = true)
    (k24 : PySem.W.keepIn K (.ref f24) = true)
    (a25 : PySem.W.nsIn K mainGlobals "_is_cpu_part" = some (some (.ref f25)))
    (l25 : K.lookup f25 = some ⟨oc25, od25, .func (PySem.W.fnOf "_is_cpu_part" "_is_cpu_part" (C8.fnArgs s__is_cpu_part) (C8.fnBody s__is_cpu_part) (C8.fnScope s__is_cpu_part) .none kV25 dc25 pm25 an25 cd25 ct25), sl25⟩)
    (c25 : PySem.W.codeIn K cd25 "_is_cpu_part" = true)
    (k25 : PySem.W.keepIn K (.ref f25) = true)
    (a26 : PySem.W.nsIn K mainGlobals "_law_begin" = some (some (.ref f26)))
    (l26 : K.lookup f26 = some ⟨oc26, od26, .func (PySem.W.fnOf "_law_begin" "_law_begin" (C8.fnArgs s__law_begin) (C8.fnBody s__law_begin) (C8.fnScope s__law_begin) .none kV26 dc26 pm26 an26 cd26 ct26), sl26⟩)
    (c26 : PySem.W.codeIn K cd26 "_law_begin" = true)
    (k26 : PySem.W.keepIn K (.ref f26) = true)
    (a27 : PySem.W.nsIn K mainGlobals "_law_draw" = some (some (.ref f27)))
    (l27 : K.lookup f27 = some ⟨oc27, od27, .func (PySem.W.fnOf "_law_draw" "_law_draw" (C8.fnArgs s__law_draw) (C8.fnBody s__law_draw) (C8.fnScope s__law_draw) .none kV27 dc27 pm27 an27 cd27 ct27), sl27⟩)
    (c27 : PySem.W.codeIn K cd27 "_law_draw" = true)
    (k27 : PySem.W.keepIn K (.ref f27) = true)
    (a28 : PySem.W.nsIn K mainGlobals "_law_pick" = some (some (.ref f28)))
    (l28 : K.lookup f28 = some ⟨oc28, od28, .func (PySem.W.fnOf "_law_pick" "_law_pick" (C8.fnArgs s__law_pick) (C8.fnBody s__law_pick) (C8.fnScope s__law_pick) .none kV28 dc28 pm28 an28 cd28 ct28), sl28⟩)
    (c28 : PySem.W.codeIn K cd28 "_law_pick" = true)
    (k28 : PySem.W.keepIn K (.ref f28) = true)
    (a29 : PySem.W.nsIn K mainGlobals "_law_deep" = some (some (.ref f29)))
    (l29 : K.lookup f29 = some ⟨oc29, od29, .func (PySem.W.fnOf "_law_deep" "_law_deep" (C8.fnArgs s__law_deep) (C8.fnBody s__law_deep) (C8.fnScope s__law_deep) .none kV29 dc29 pm29 an29 cd29 ct29), sl29⟩)
    (c29 : PySem.W.codeIn K cd29 "_law_deep" = true)
    (k29 : PySem.W.keepIn K (.ref f29) = true)
    (a30 : PySem.W.nsIn K mainGlobals "_law_words" = some (some (.ref f30)))
    (l30 : K.lookup f30 = some ⟨oc30, od30, .func (PySem.W.fnOf "_law_words" "_law_words" (C8.fnArgs s__law_words) (C8.fnBody s__law_words) (C8.fnScope s__law_words) .none kV30 dc30 pm30 an30 cd30 ct30), sl30⟩)
    (c30 : PySem.W.codeIn K cd30 "_law_words" = true)
    (k30 : PySem.W.keepIn K (.ref f30) = true)
    (a31 : PySem.W.nsIn K mainGlobals "_law_no_word" = some (some (.ref f31)))
    (l31 : K.lookup f31 = some ⟨oc31, od31, .func (PySem.W.fnOf "_law_no_word" "_law_no_word" (C8.fnArgs s__law_no_word) (C8.fnBody s__law_no_word) (C8.fnScope s__law_no_word) .none kV31 dc31 pm31 an31 cd31 ct31), sl31⟩)
    (c31 : PySem.W.codeIn K cd31 "_law_no_word" = true)
    (k31 : PySem.W.keepIn K (.ref f31) = true)
    (a32 : PySem.W.nsIn K mainGlobals "_law_no_words" = some (some (.ref f32)))
    (l32 : K.lookup f32 = some ⟨oc32, od32, .func (PySem.W.fnOf "_law_no_words" "_law_no_words" (C8.fnArgs s__law_no_words) (C8.fnBody s__law_no_words) (C8.fnScope s__law_no_words) .none kV32 dc32 pm32 an32 cd32 ct32), sl32⟩)
    (c32 : PySem.W.codeIn K cd32 "_law_no_words" = true)
    (k32 : PySem.W.keepIn K (.ref f32) = true)
    (a33 : PySem.W.nsIn K mainGlobals "_law_program" = some (some (.ref f33)))
    (l33 : K.lookup f33 = some ⟨oc33, od33, .func (PySem.W.fnOf "_law_program" "_law_program" (C8.fnArgs s__law_program) (C8.fnBody s__law_program) (C8.fnScope s__law_program) .none kV33 dc33 pm33 an33 cd33 ct33), sl33⟩)
    (c33 : PySem.W.codeIn K cd33 "_law_program" = true)
    (k33 : PySem.W.keepIn K (.ref f33) = true)
    (a34 : PySem.W.nsIn K mainGlobals "_law_no_program" = some (some (.ref f34)))
    (l34 : K.lookup f34 = some ⟨oc34, od34, .func (PySem.W.fnOf "_law_no_program" "_law_no_program" (C8.fnArgs s__law_no_program) (C8.fnBody s__law_no_program) (C8.fnScope s__law_no_program) .none kV34 dc34 pm34 an34 cd34 ct34), sl34⟩)
    (c34 : PySem.W.codeIn K cd34 "_law_no_program" = true)
    (k34 : PySem.W.keepIn K (.ref f34) = true)
    (a35 : PySem.W.nsIn K mainGlobals "_law_part" = some (some (.ref f35)))
    (l35 : K.lookup f35 = some ⟨oc35, od35, .func (PySem.W.fnOf "_law_part" "_law_part" (C8.fnArgs s__law_part) (C8.fnBody s__law_part) (C8.fnScope s__law_part) .none kV35 dc35 pm35 an35 cd35 ct35), sl35⟩)
    (c35 : PySem.W.codeIn K cd35 "_law_part" = true)
    (k35 : PySem.W.keepIn K (.ref f35) = true)
    (a36 : PySem.W.nsIn K mainGlobals "_law_wrong" = some (some (.ref f36)))
    (l36 : K.lookup f36 = some ⟨oc36, od36, .func (PySem.W.fnOf "_law_wrong" "_law_wrong" (C8.fnArgs s__law_wrong) (C8.fnBody s__law_wrong) (C8.fnScope s__law_wrong) .none kV36 dc36 pm36 an36 cd36 ct36), sl36⟩)
    (c36 : PySem.W.codeIn K cd36 "_law_wrong" = true)
    (k36 : PySem.W.keepIn K (.ref f36) = true)
    (a37 : PySem.W.nsIn K mainGlobals "_law_told" = some (some (.ref f37)))
    (l37 : K.lookup f37 = some ⟨oc37, od37, .func (PySem.W.fnOf "_law_told" "_law_told" (C8.fnArgs s__law_told) (C8.fnBody s__law_told) (C8.fnScope s__law_told) .none kV37 dc37 pm37 an37 cd37 ct37), sl37⟩)
    (c37 : PySem.W.codeIn K cd37 "_law_told" = true)
    (k37 : PySem.W.keepIn K (.ref f37) = true)
    (a38 : PySem.W.nsIn K mainGlobals "_law_right" = some (some (.ref f38)))
    (l38 : K.lookup f38 = some ⟨oc38, od38, .func (PySem.W.fnOf "_law_right" "_law_right" (C8.fnArgs s__law_right) (C8.fnBody s__law_right) (C8.fnScope s__law_right) .none kV38 dc38 pm38 an38 cd38 ct38), sl38⟩)
    (c38 : PySem.W.codeIn K cd38 "_law_right" = true)
    (k38 : PySem.W.keepIn K (.ref f38) = true)
    (a39 : PySem.W.nsIn K mainGlobals "law" = some (some (.ref f39)))
    (l39 : K.lookup f39 = some ⟨oc39, od39, .func (PySem.W.fnOf "law" "law" (C8.fnArgs s_law) (C8.fnBody s_law) (C8.fnScope s_law) .none kV39 dc39 pm39 an39 cd39 ct39), sl39⟩)
    (c39 : PySem.W.codeIn K cd39 "law" = true)
    (k39 : PySem.W.keepIn K (.ref f39) = true)
    (aC : PySem.W.nsIn K mainGlobals "Atom" = some (some (.ref C)))
    (onn : PySem.W.findIn K (.ref C) "__ne__" = some (some (.builtin "object.__ne__")))
    (oNoneType : PySem.W.subIn K (.ref C) (.type "NoneType") = some false)
    (oint : PySem.W.subIn K (.ref C) (.type "int") = some false)
    (ostr : PySem.W.subIn K (.ref C) (.type "str") = some false)
    (otuple : PySem.W.subIn K (.ref C) (.type "tuple") = some false)
    (a40 : PySem.W.findIn K (.ref C) "__init__" = some (some (.ref f40)))
    (i40 : PySem.W.isFn K (.ref f40) = true)
    (l40 : K.lookup f40 = some ⟨oc40, od40, .func (PySem.W.fnOf "__init__" "Atom.__init__" (C8.fnArgs s_Atom___init__) (C8.fnBody s_Atom___init__) (C8.fnScope s_Atom___init__) .none kV40 dc40 pm40 an40 cd40 ct40), sl40⟩)
    (c40 : PySem.W.codeIn K cd40 "Atom.__init__" = true)
    (k40 : PySem.W.keepIn K (.ref f40) = true)
    (a41 : PySem.W.findIn K (.ref C) "__eq__" = some (some (.ref f41)))
    (i41 : PySem.W.isFn K (.ref f41) = true)
    (l41 : K.lookup f41 = some ⟨oc41, od41, .func (PySem.W.fnOf "__eq__" "Atom.__eq__" (C8.fnArgs s_Atom___eq__) (C8.fnBody s_Atom___eq__) (C8.fnScope s_Atom___eq__) .none kV41 dc41 pm41 an41 cd41 ct41), sl41⟩)
    (c41 : PySem.W.codeIn K cd41 "Atom.__eq__" = true)
    (k41 : PySem.W.keepIn K (.ref f41) = true)
    (a42 : PySem.W.findIn K (.ref C) "is_same" = some (some (.ref f42)))
    (i42 : PySem.W.isFn K (.ref f42) = true)
    (l42 : K.lookup f42 = some ⟨oc42, od42, .func (PySem.W.fnOf "is_same" "Atom.is_same" (C8.fnArgs s_Atom_is_same) (C8.fnBody s_Atom_is_same) (C8.fnScope s_Atom_is_same) .none kV42 dc42 pm42 an42 cd42 ct42), sl42⟩)
    (c42 : PySem.W.codeIn K cd42 "Atom.is_same" = true)
    (k42 : PySem.W.keepIn K (.ref f42) = true)
    (pgC : PySem.W.plainGet K C Str.empty = true)
    (hdC : PySem.W.hasDictIn K C = true)
    (poC : PySem.W.plainOver K C = true)
    (saC : PySem.W.findIn K (.ref C) "__setattr__" = some (some (.builtin "object.__setattr__")))
    (mkC : PySem.W.makesIn K C = true)
    (kcC : PySem.W.keepIn K (.ref C) = true)
    (ha : PySem.W.findIn K (.ref C) "__class__" = some (some (.builtin "object.__class__")))
    (hn : PySem.W.specialIn K (.builtin "object.__class__") "__get__" = some (some (.builtin "getset_descriptor.__get__")))
    (htk : PySem.W.takesIn K (.builtin "object.__class__") = some true)
    (hm : PySem.W.mroIn K C (.type "object") = some true)
    (me : PySem.W.kitOne K (.ref C) (.ref C) = some true)
    (nakind : PySem.W.findIn K (.ref C) "kind" = some none)
    (naterm : PySem.W.findIn K (.ref C) "term" = some none)
    (narank : PySem.W.findIn K (.ref C) "rank" = some none)
    (na_stripped : PySem.W.findIn K (.ref C) "_stripped" = some none)
    (qint : PySem.W.kitOne K (.ref C) (.type "int") = some false)
    (qstr : PySem.W.kitOne K (.ref C) (.type "str") = some false)
    (qtuple : PySem.W.kitOne K (.ref C) (.type "tuple") = some false)
    (qbool : PySem.W.kitOne K (.ref C) (.type "bool") = some false)
    (qlist : PySem.W.kitOne K (.ref C) (.type "list") = some false)
    (qdict : PySem.W.kitOne K (.ref C) (.type "dict") = some false)
    (rNoneType : PySem.W.kitOne K (.type "NoneType") (.ref C) = some false)
    (rbool : PySem.W.kitOne K (.type "bool") (.ref C) = some false)
    (rint : PySem.W.kitOne K (.type "int") (.ref C) = some false)
    (rstr : PySem.W.kitOne K (.type "str") (.ref C) = some false)
    (rtuple : PySem.W.kitOne K (.type "tuple") (.ref C) = some false)
    (rlist : PySem.W.kitOne K (.type "list") (.ref C) = some false)
    (rdict : PySem.W.kitOne K (.type "dict") (.ref C) = some false)
    (nLEAST : PySem.W.nsIn K mainGlobals "LEAST" = some (some (.int (-2147483648) tLEAST)))
    (nGREATEST : PySem.W.nsIn K mainGlobals "GREATEST" = some (some (.int (2147483647) tGREATEST)))
    (nMOST_CHARACTERS : PySem.W.nsIn K mainGlobals "MOST_CHARACTERS" = some (some (.int (24) tMOST_CHARACTERS)))
    (nMOST_DEEP : PySem.W.nsIn K mainGlobals "MOST_DEEP" = some (some (.int (40) tMOST_DEEP)))
    (nMOST_DEEP_HOST : PySem.W.nsIn K mainGlobals "MOST_DEEP_HOST" = some (some (.int (10) tMOST_DEEP_HOST)))
    (nMOST_RANK : PySem.W.nsIn K mainGlobals "MOST_RANK" = some (some (.int (40) tMOST_RANK)))
    (nMOST_RANK_HOST : PySem.W.nsIn K mainGlobals "MOST_RANK_HOST" = some (some (.int (36) tMOST_RANK_HOST)))
    (nWORDS : PySem.W.nsIn K mainGlobals "WORDS" = some (some (.int (4) tWORDS)))
    (nPAGES : PySem.W.nsIn K mainGlobals "PAGES" = some (some (.int (16) tPAGES)))
    (nFIRST_SHARED : PySem.W.nsIn K mainGlobals "FIRST_SHARED" = some (some (.int (8) tFIRST_SHARED)))
    (nMOST_INSTRUCTIONS : PySem.W.nsIn K mainGlobals "MOST_INSTRUCTIONS" = some (some (.int (24) tMOST_INSTRUCTIONS)))
    (nREGISTERS : PySem.W.nsIn K mainGlobals "REGISTERS" = some (some (.int (4) tREGISTERS)))
    (ztype : PySem.W.nsIn K mainGlobals "type" = some none)
    (zint : PySem.W.nsIn K mainGlobals "int" = some none)
    (zstr : PySem.W.nsIn K mainGlobals "str" = some none)
    (zbool : PySem.W.nsIn K mainGlobals "bool" = some none)
    (ztuple : PySem.W.nsIn K mainGlobals "tuple" = some none)
    (zlist : PySem.W.nsIn K mainGlobals "list" = some none)
    (zdict : PySem.W.nsIn K mainGlobals "dict" = some none)
    (zrange : PySem.W.nsIn K mainGlobals "range" = some none)
    (zzip : PySem.W.nsIn K mainGlobals "zip" = some none)
    (zset : PySem.W.nsIn K mainGlobals "set" = some none)
    (zlen : PySem.W.nsIn K mainGlobals "len" = some none)
    (zall : PySem.W.nsIn K mainGlobals "all" = some none)
    (zmax : PySem.W.nsIn K mainGlobals "max" = some none)
    (zisinstance : PySem.W.nsIn K mainGlobals "isinstance" = some none)
    (zabs : PySem.W.nsIn K mainGlobals "abs" = some none)
    (aF : PySem.W.nsIn K mainGlobals "FORMS_words" = some (some (.ref Fo)))
    (lF : K.lookup Fo = some ⟨.type "dict", none, .dict esF nF, #[]⟩)
    (kF : PySem.W.KeysLit w.params esF.toList)
    (oF : (Fo == sysModules) = false)
    (vtt1 : PySem.W.nsIn K Fo "token" = some (some (.ref tt1)))
    (wtt1 : K.lookup tt1 = some ⟨.type "tuple", dtt1, .seq #[.str "text" utt1_0, .str "tuple" utt1_1, .str "word" utt1_2] ntt1, stt1⟩)
    (vtt2 : PySem.W.nsIn K Fo "challenge" = some (some (.ref tt2)))
    (wtt2 : K.lookup tt2 = some ⟨.type "tuple", dtt2, .seq #[.str "text" utt2_0, .str "number" utt2_1] ntt2, stt2⟩)
    (vtt3 : PySem.W.nsIn K Fo "seal" = some (some (.ref tt3)))
    (wtt3 : K.lookup tt3 = some ⟨.type "tuple", dtt3, .seq #[.str "text" utt3_0, .str "number" utt3_1, .str "number" utt3_2, .str "hidden" utt3_3] ntt3, stt3⟩)
    (vtt4 : PySem.W.nsIn K Fo "page" = some (some (.ref tt4)))
    (wtt4 : K.lookup tt4 = some ⟨.type "tuple", dtt4, .seq #[.str "text" utt4_0, .str "number" utt4_1, .str "number" utt4_2, .str "hidden" utt4_3] ntt4, stt4⟩)
    (vtt5 : PySem.W.nsIn K Fo "ticket" = some (some (.ref tt5)))
    (wtt5 : K.lookup tt5 = some ⟨.type "tuple", dtt5, .seq #[.str "text" utt5_0, .str "number" utt5_1, .str "text" utt5_2, .str "tuple" utt5_3, .str "pages" utt5_4, .str "tuple" utt5_5] ntt5, stt5⟩)
    (vkey : PySem.W.nsIn K Fo "key" = some none)
    (aK0 : PySem.W.nsIn K mainGlobals "FORMS_machine" = some (some (.ref Kf0)))
    (lK0 : K.lookup Kf0 = some ⟨.type "dict", none, .dict esK0 nK0, #[]⟩)
    (kK0 : PySem.W.KeysLit w.params esK0.toList)
    (oK0 : (Kf0 == sysModules) = false)
    (vkf0_0 : PySem.W.nsIn K Kf0 "set" = some (some (.ref kf0_0)))
    (wkf0_0 : K.lookup kf0_0 = some ⟨.type "tuple", dkf0_0, .seq #[.str "register" ukf0_0_0, .str "number" ukf0_0_1] nkf0_0, skf0_0⟩)
    (vkf0_1 : PySem.W.nsIn K Kf0 "copy" = some (some (.ref kf0_1)))
    (wkf0_1 : K.lookup kf0_1 = some ⟨.type "tuple", dkf0_1, .seq #[.str "register" ukf0_1_0, .str "register" ukf0_1_1] nkf0_1, skf0_1⟩)
    (vkf0_2 : PySem.W.nsIn K Kf0 "add" = some (some (.ref kf0_2)))
    (wkf0_2 : K.lookup kf0_2 = some ⟨.type "tuple", dkf0_2, .seq #[.str "register" ukf0_2_0, .str "register" ukf0_2_1, .str "register" ukf0_2_2] nkf0_2, skf0_2⟩)
    (vkf0_3 : PySem.W.nsIn K Kf0 "less" = some (some (.ref kf0_3)))
    (wkf0_3 : K.lookup kf0_3 = some ⟨.type "tuple", dkf0_3, .seq #[.str "register" ukf0_3_0, .str "register" ukf0_3_1, .str "register" ukf0_3_2] nkf0_3, skf0_3⟩)
    (vkf0_4 : PySem.W.nsIn K Kf0 "same" = some (some (.ref kf0_4)))
    (wkf0_4 : K.lookup kf0_4 = some ⟨.type "tuple", dkf0_4, .seq #[.str "register" ukf0_4_0, .str "register" ukf0_4_1, .str "register" ukf0_4_2] nkf0_4, skf0_4⟩)
    (vkf0_5 : PySem.W.nsIn K Kf0 "zero" = some (some (.ref kf0_5)))
    (wkf0_5 : K.lookup kf0_5 = some ⟨.type "tuple", dkf0_5, .seq #[.str "register" ukf0_5_0, .str "place" ukf0_5_1] nkf0_5, skf0_5⟩)
    (vkf0_6 : PySem.W.nsIn K Kf0 "jump" = some (some (.ref kf0_6)))
    (wkf0_6 : K.lookup kf0_6 = some ⟨.type "tuple", dkf0_6, .seq #[.str "place" ukf0_6_0] nkf0_6, skf0_6⟩)
    (vkf0_7 : PySem.W.nsIn K Kf0 "load" = some (some (.ref kf0_7)))
    (wkf0_7 : K.lookup kf0_7 = some ⟨.type "tuple", dkf0_7, .seq #[.str "register" ukf0_7_0, .str "register" ukf0_7_1, .str "register" ukf0_7_2] nkf0_7, skf0_7⟩)
    (vkf0_8 : PySem.W.nsIn K Kf0 "store" = some (some (.ref kf0_8)))
    (wkf0_8 : K.lookup kf0_8 = some ⟨.type "tuple", dkf0_8, .seq #[.str "register" ukf0_8_0, .str "register" ukf0_8_1, .str "register" ukf0_8_2] nkf0_8, skf0_8⟩)
    (vkf0_9 : PySem.W.nsIn K Kf0 "tell" = some (some (.ref kf0_9)))
    (wkf0_9 : K.lookup kf0_9 = some ⟨.type "tuple", dkf0_9, .seq #[.str "register" ukf0_9_0, .str "register" ukf0_9_1] nkf0_9, skf0_9⟩)
    (vkf0_10 : PySem.W.nsIn K Kf0 "token" = some (some (.ref kf0_10)))
    (wkf0_10 : K.lookup kf0_10 = some ⟨.type "tuple", dkf0_10, .seq #[.str "register" ukf0_10_0, .str "register" ukf0_10_1] nkf0_10, skf0_10⟩)
    (vkf0_11 : PySem.W.nsIn K Kf0 "end" = some (some (.ref kf0_11)))
    (wkf0_11 : K.lookup kf0_11 = some ⟨.type "tuple", dkf0_11, .seq #[] nkf0_11, skf0_11⟩)
    (vn0_0 : PySem.W.nsIn K Kf0 "nope" = some none)
    : ∃ fd : FuncData, (∀ (s : Shared) (v : Value), BindsTo s fd ⟨[v], []⟩ [("script", v)]) ∧ ∀ base : Heap, K.In base → base.Ns mainGlobals mg → FnOk l.prog w K mg base C8.CX0 27 fa fd ["script"] (spLaw K) := by
  have e := hfa.symm.trans (PySem.W.mg_of X G a39)
  cases e
  have clsC : Cls K C := ⟨pgC, hdC, poC, saC⟩
  have cl : Cl K C := ⟨clsC, ha, hn, htk, hm, me, mkC, nakind, naterm, narank, na_stripped⟩
  have kttt1 : KTup K tt1 ["text", "tuple", "word"] := fun H => .inr ⟨_, _, _, wtt1, rfl, rfl, (by show 3 ≤ sizeLine; decide), (.cons ⟨_, rfl⟩ (.cons ⟨_, rfl⟩ (.cons ⟨_, rfl⟩ .nil)))⟩
  have kttt2 : KTup K tt2 ["text", "number"] := fun H => .inr ⟨_, _, _, wtt2, rfl, rfl, (by show 2 ≤ sizeLine; decide), (.cons ⟨_, rfl⟩ (.cons ⟨_, rfl⟩ .nil))⟩
  have kttt3 : KTup K tt3 ["text", "number", "number", "hidden"] := fun H => .inr ⟨_, _, _, wtt3, rfl, rfl, (by show 4 ≤ sizeLine; decide), (.cons ⟨_, rfl⟩ (.cons ⟨_, rfl⟩ (.cons ⟨_, rfl⟩ (.cons ⟨_, rfl⟩ .nil))))⟩
  have kttt4 : KTup K tt4 ["text", "number", "number", "hidden"] := fun H => .inr ⟨_, _, _, wtt4, rfl, rfl, (by show 4 ≤ sizeLine; decide), (.cons ⟨_, rfl⟩ (.cons ⟨_, rfl⟩ (.cons ⟨_, rfl⟩ (.cons ⟨_, rfl⟩ .nil))))⟩
  have kttt5 : KTup K tt5 ["text", "number", "text", "tuple", "pages", "tuple"] := fun H => .inr ⟨_, _, _, wtt5, rfl, rfl, (by show 6 ≤ sizeLine; decide), (.cons ⟨_, rfl⟩ (.cons ⟨_, rfl⟩ (.cons ⟨_, rfl⟩ (.cons ⟨_, rfl⟩ (.cons ⟨_, rfl⟩ (.cons ⟨_, rfl⟩ .nil))))))⟩
  have ktkf0_0 : KTup K kf0_0 ["register", "number"] := fun H => .inr ⟨_, _, _, wkf0_0, rfl, rfl, (by show 2 ≤ sizeLine; decide), (.cons ⟨_, rfl⟩ (.cons ⟨_, rfl⟩ .nil))⟩
  have ktkf0_1 : KTup K kf0_1 ["register", "register"] := fun H => .inr ⟨_, _, _, wkf0_1, rfl, rfl, (by show 2 ≤ sizeLine; decide), (.cons ⟨_, rfl⟩ (.cons ⟨_, rfl⟩ .nil))⟩
  have ktkf0_2 : KTup K kf0_2 ["register", "register", "register"] := fun H => .inr ⟨_, _, _, wkf0_2, rfl, rfl, (by show 3 ≤ sizeLine; decide), (.cons ⟨_, rfl⟩ (.cons ⟨_, rfl⟩ (.cons ⟨_, rfl⟩ .nil)))⟩
  have ktkf0_3 : KTup K kf0_3 ["register", "register", "register"] := fun H => .inr ⟨_, _, _, wkf0_3, rfl, rfl, (by show 3 ≤ sizeLine; decide), (.cons ⟨_, rfl⟩ (.cons ⟨_, rfl⟩ (.cons ⟨_, rfl⟩ .nil)))⟩
  have ktkf0_4 : KTup K kf0_4 ["register", "register", "register"] := fun H => .inr ⟨_, _, _, wkf0_4, rfl, rfl, (by show 3 ≤ sizeLine; decide), (.cons ⟨_, rfl⟩ (.cons ⟨_, rfl⟩ (.cons ⟨_, rfl⟩ .nil)))⟩
  have ktkf0_5 : KTup K kf0_5 ["register", "place"] := fun H => .inr ⟨_, _, _, wkf0_5, rfl, rfl, (by show 2 ≤ sizeLine; decide), (.cons ⟨_, rfl⟩ (.cons ⟨_, rfl⟩ .nil))⟩
  have ktkf0_6 : KTup K kf0_6 ["place"] := fun H => .inr ⟨_, _, _, wkf0_6, rfl, rfl, (by show 1 ≤ sizeLine; decide), (.cons ⟨_, rfl⟩ .nil)⟩
  have ktkf0_7 : KTup K kf0_7 ["register", "register", "register"] := fun H => .inr ⟨_, _, _, wkf0_7, rfl, rfl, (by show 3 ≤ sizeLine; decide), (.cons ⟨_, rfl⟩ (.cons ⟨_, rfl⟩ (.cons ⟨_, rfl⟩ .nil)))⟩
  have ktkf0_8 : KTup K kf0_8 ["register", "register", "register"] := fun H => .inr ⟨_, _, _, wkf0_8, rfl, rfl, (by show 3 ≤ sizeLine; decide), (.cons ⟨_, rfl⟩ (.cons ⟨_, rfl⟩ (.cons ⟨_, rfl⟩ .nil)))⟩
  have ktkf0_9 : KTup K kf0_9 ["register", "register"] := fun H => .inr ⟨_, _, _, wkf0_9, rfl, rfl, (by show 2 ≤ sizeLine; decide), (.cons ⟨_, rfl⟩ (.cons ⟨_, rfl⟩ .nil))⟩
  have ktkf0_10 : KTup K kf0_10 ["register", "register"] := fun H => .inr ⟨_, _, _, wkf0_10, rfl, rfl, (by show 2 ≤ sizeLine; decide), (.cons ⟨_, rfl⟩ (.cons ⟨_, rfl⟩ .nil))⟩
  have ktkf0_11 : KTup K kf0_11 [] := fun H => .inr ⟨_, _, _, wkf0_11, rfl, rfl, (by show 0 ≤ sizeLine; decide), .nil⟩
  have kit : ∀ (d : D) (n : String), n ∈ ["int", "str", "tuple", "bool", "list", "dict"] → PySem.W.kitOne K (kyU C d) (.type n) = some (match d with | .int _ => n == "int" | .bl _ => n == "int" || n == "bool" | .str _ => n == "str" | .tup _ => n == "tuple" | .lst _ => n == "list" | .dct => n == "dict" | _ => false) := fun d n hn => by
    simp only [List.mem_cons, List.not_mem_nil, or_false] at hn
    rcases hn with rfl | rfl | rfl | rfl | rfl | rfl <;> cases d <;> dsimp only [kyU] <;> first
      | exact kit_ty (by decide +kernel)
      | exact qint
      | exact qstr
      | exact qtuple
      | exact qbool
      | exact qlist
      | exact qdict
  have kitC : ∀ d : D, PySem.W.kitOne K (kyU C d) (.ref C) = some (match d with | .atom _ _ => true | _ => false) := fun d => by
    cases d <;> first
      | exact me
      | exact rNoneType
      | exact rbool
      | exact rint
      | exact rstr
      | exact rtuple
      | exact rlist
      | exact rdict
  have KD : KDict K w Fo esF nF := ⟨lF, kF, oF⟩
  have KD0 : KDict K w Kf0 esK0 nK0 := ⟨lK0, kK0, oK0⟩
  have KF0 : KForms K mg w "FORMS_machine" progF ["nope"] := ⟨Kf0, esK0, nK0, ⟨_, PySem.W.mg_of X G aK0, rfl⟩, KD0, fun p hp => by
    simp only [progF, List.mem_cons, List.not_mem_nil, or_false] at hp
    rcases hp with rfl | rfl | rfl | rfl | rfl | rfl | rfl | rfl | rfl | rfl | rfl | rfl
    · exact ⟨kf0_0, vkf0_0, ktkf0_0⟩
    · exact ⟨kf0_1, vkf0_1, ktkf0_1⟩
    · exact ⟨kf0_2, vkf0_2, ktkf0_2⟩
    · exact ⟨kf0_3, vkf0_3, ktkf0_3⟩
    · exact ⟨kf0_4, vkf0_4, ktkf0_4⟩
    · exact ⟨kf0_5, vkf0_5, ktkf0_5⟩
    · exact ⟨kf0_6, vkf0_6, ktkf0_6⟩
    · exact ⟨kf0_7, vkf0_7, ktkf0_7⟩
    · exact ⟨kf0_8, vkf0_8, ktkf0_8⟩
    · exact ⟨kf0_9, vkf0_9, ktkf0_9⟩
    · exact ⟨kf0_10, vkf0_10, ktkf0_10⟩
    · exact ⟨kf0_11, vkf0_11, ktkf0_11⟩, fun k hk => by
    simp only [List.mem_cons, List.not_mem_nil, or_false] at hk
    rw [hk]; exact vn0_0⟩
  have T : Txt K mg w C := ⟨cl, PySem.W.mg_of X G aC, PySem.W.mg_none_of X G ztype, PySem.W.mg_none_of X G zint, PySem.W.mg_none_of X G zstr, PySem.W.mg_none_of X G zbool, PySem.W.mg_none_of X G ztuple, PySem.W.mg_none_of X G zlist, PySem.W.mg_none_of X G zdict, PySem.W.mg_none_of X G zrange, PySem.W.mg_none_of X G zzip, PySem.W.mg_none_of X G zset, PySem.W.mg_none_of X G zlen, PySem.W.mg_none_of X G zall, PySem.W.mg_none_of X G zmax, PySem.W.mg_none_of X G zisinstance, PySem.W.mg_none_of X G zabs, ⟨_, PySem.W.mg_of X G nLEAST, ⟨_, rfl⟩⟩, ⟨_, PySem.W.mg_of X G nGREATEST, ⟨_, rfl⟩⟩, ⟨_, PySem.W.mg_of X G nMOST_CHARACTERS, ⟨_, rfl⟩⟩, ⟨_, PySem.W.mg_of X G nMOST_DEEP, ⟨_, rfl⟩⟩, ⟨_, PySem.W.mg_of X G nMOST_DEEP_HOST, ⟨_, rfl⟩⟩, ⟨_, PySem.W.mg_of X G nMOST_RANK, ⟨_, rfl⟩⟩, ⟨_, PySem.W.mg_of X G nMOST_RANK_HOST, ⟨_, rfl⟩⟩, ⟨_, PySem.W.mg_of X G nWORDS, ⟨_, rfl⟩⟩, ⟨_, PySem.W.mg_of X G nPAGES, ⟨_, rfl⟩⟩, ⟨_, PySem.W.mg_of X G nFIRST_SHARED, ⟨_, rfl⟩⟩, ⟨_, PySem.W.mg_of X G nMOST_INSTRUCTIONS, ⟨_, rfl⟩⟩, ⟨_, PySem.W.mg_of X G nREGISTERS, ⟨_, rfl⟩⟩, ⟨Fo, tt1, tt2, tt3, tt4, tt5, ⟨_, PySem.W.mg_of X G aF, rfl⟩, ⟨esF, nF, KD⟩, ⟨esF, nF, _, lF, kF, vtt1, rfl⟩, ⟨esF, nF, _, lF, kF, vtt2, rfl⟩, ⟨esF, nF, _, lF, kF, vtt3, rfl⟩, ⟨esF, nF, _, lF, kF, vtt4, rfl⟩, ⟨esF, nF, _, lF, kF, vtt5, rfl⟩, vkey, kttt1, kttt2, kttt3, kttt4, kttt5⟩, KF0, kit, kitC⟩
  have oth : Oth K C := ⟨hm, onn, oNoneType, oint, ostr, otuple⟩
  have F1 : C8.Def K mg "is_number" s_is_number f1 _ := ⟨⟨⟨oc1, od1, .none, kV1, dc1, pm1, an1, cd1, ct1, sl1, rfl, l1, c1⟩⟩, PySem.W.mg_of X G a1, k1⟩
  have b1 : Binds K _ ["value"] [] := F1.fn.binds rfl (ps := ["value"]) fun _ _ _ _ _ _ us hl => match us, hl with | [_], _ => rfl
  have F2 : C8.Def K mg "is_text" s_is_text f2 _ := ⟨⟨⟨oc2, od2, .none, kV2, dc2, pm2, an2, cd2, ct2, sl2, rfl, l2, c2⟩⟩, PySem.W.mg_of X G a2, k2⟩
  have b2 : Binds K _ ["value"] [] := F2.fn.binds rfl (ps := ["value"]) fun _ _ _ _ _ _ us hl => match us, hl with | [_], _ => rfl
  have F3 : C8.Def K mg "_is_within" s__is_within f3 _ := ⟨⟨⟨oc3, od3, .none, kV3, dc3, pm3, an3, cd3, ct3, sl3, rfl, l3, c3⟩⟩, PySem.W.mg_of X G a3, k3⟩
  have b3 : Binds K _ ["value", "most_deep", "most_rank"] [] := F3.fn.binds rfl (ps := ["value", "most_deep", "most_rank"]) fun _ _ _ _ _ _ us hl => match us, hl with | [_, _, _], _ => rfl
  have F4 : C8.Def K mg "is_word" s_is_word f4 _ := ⟨⟨⟨oc4, od4, .none, kV4, dc4, pm4, an4, cd4, ct4, sl4, rfl, l4, c4⟩⟩, PySem.W.mg_of X G a4, k4⟩
  have b4 : Binds K _ ["value"] [] := F4.fn.binds rfl (ps := ["value"]) fun _ _ _ _ _ _ us hl => match us, hl with | [_], _ => rfl
  have F5 : C8.Def K mg "is_host_word" s_is_host_word f5 _ := ⟨⟨⟨oc5, od5, .none, kV5, dc5, pm5, an5, cd5, ct5, sl5, rfl, l5, c5⟩⟩, PySem.W.mg_of X G a5, k5⟩
  have b5 : Binds K _ ["value"] [] := F5.fn.binds rfl (ps := ["value"]) fun _ _ _ _ _ _ us hl => match us, hl with | [_], _ => rfl
  have F6 : C8.Def K mg "_places_of_atoms" s__places_of_atoms f6 _ := ⟨⟨⟨oc6, od6, .none, kV6, dc6, pm6, an6, cd6, ct6, sl6, rfl, l6, c6⟩⟩, PySem.W.mg_of X G a6, k6⟩
  have b6 : Binds K _ ["value"] [] := F6.fn.binds rfl (ps := ["value"]) fun _ _ _ _ _ _ us hl => match us, hl with | [_], _ => rfl
  have F7 : C8.Def K mg "rank_of" s_rank_of f7 _ := ⟨⟨⟨oc7, od7, .none, kV7, dc7, pm7, an7, cd7, ct7, sl7, rfl, l7, c7⟩⟩, PySem.W.mg_of X G a7, k7⟩
  have b7 : Binds K _ ["word"] [] := F7.fn.binds rfl (ps := ["word"]) fun _ _ _ _ _ _ us hl => match us, hl with | [_], _ => rfl
  have F8 : C8.Def K mg "_rank_of_atom" s__rank_of_atom f8 _ := ⟨⟨⟨oc8, od8, .none, kV8, dc8, pm8, an8, cd8, ct8, sl8, rfl, l8, c8⟩⟩, PySem.W.mg_of X G a8, k8⟩
  have b8 : Binds K _ ["kind", "term"] [] := F8.fn.binds rfl (ps := ["kind", "term"]) fun _ _ _ _ _ _ us hl => match us, hl with | [_, _], _ => rfl
  have F9 : C8.Def K mg "_most_rank" s__most_rank f9 _ := ⟨⟨⟨oc9, od9, .none, kV9, dc9, pm9, an9, cd9, ct9, sl9, rfl, l9, c9⟩⟩, PySem.W.mg_of X G a9, k9⟩
  have b9 : Binds K _ ["kind"] [] := F9.fn.binds rfl (ps := ["kind"]) fun _ _ _ _ _ _ us hl => match us, hl with | [_], _ => rfl
  have F10 : C8.Fun K "_has_form" "_has_form" s_has_form_words f10 _ := ⟨⟨oc10, od10, .none, kV10, dc10, pm10, an10, cd10, ct10, sl10, rfl, l10, c10⟩⟩
  have b10 : Binds K _ ["part", "form"] [] := F10.binds rfl (ps := ["part", "form"]) fun _ _ _ _ _ _ us hl => match us, hl with | [_, _], _ => rfl
  have F11 : C8.Def K mg "_is_term" s__is_term f11 _ := ⟨⟨⟨oc11, od11, .none, kV11, dc11, pm11, an11, cd11, ct11, sl11, rfl, l11, c11⟩⟩, PySem.W.mg_of X G a11, k11⟩
  have b11 : Binds K _ ["kind", "term"] [] := F11.fn.binds rfl (ps := ["kind", "term"]) fun _ _ _ _ _ _ us hl => match us, hl with | [_, _], _ => rfl
  have F12 : C8.Def K mg "_are_equal" s__are_equal f12 _ := ⟨⟨⟨oc12, od12, .none, kV12, dc12, pm12, an12, cd12, ct12, sl12, rfl, l12, c12⟩⟩, PySem.W.mg_of X G a12, k12⟩
  have b12 : Binds K _ ["ones", "others"] [] := F12.fn.binds rfl (ps := ["ones", "others"]) fun _ _ _ _ _ _ us hl => match us, hl with | [_, _], _ => rfl
  have F13 : C8.Def K mg "is_form" s_is_form f13 _ := ⟨⟨⟨oc13, od13, .none, kV13, dc13, pm13, an13, cd13, ct13, sl13, rfl, l13, c13⟩⟩, PySem.W.mg_of X G a13, k13⟩
  have b13 : Binds K _ ["value", "name", "many"] [] := F13.fn.binds rfl (ps := ["value", "name", "many"]) fun _ _ _ _ _ _ us hl => match us, hl with | [_, _, _], _ => rfl
  have F14 : C8.Def K mg "has_name" s_has_name f14 _ := ⟨⟨⟨oc14, od14, .none, kV14, dc14, pm14, an14, cd14, ct14, sl14, rfl, l14, c14⟩⟩, PySem.W.mg_of X G a14, k14⟩
  have b14 : Binds K _ ["value"] [] := F14.fn.binds rfl (ps := ["value"]) fun _ _ _ _ _ _ us hl => match us, hl with | [_], _ => rfl
  have F15 : C8.Def K mg "_is_below" s__is_below f15 _ := ⟨⟨⟨oc15, od15, .none, kV15, dc15, pm15, an15, cd15, ct15, sl15, rfl, l15, c15⟩⟩, PySem.W.mg_of X G a15, k15⟩
  have b15 : Binds K _ ["value", "many"] [] := F15.fn.binds rfl (ps := ["value", "many"]) fun _ _ _ _ _ _ us hl => match us, hl with | [_, _], _ => rfl
  have F16 : C8.Def K mg "is_page" s_is_page f16 _ := ⟨⟨⟨oc16, od16, .none, kV16, dc16, pm16, an16, cd16, ct16, sl16, rfl, l16, c16⟩⟩, PySem.W.mg_of X G a16, k16⟩
  have b16 : Binds K _ ["value"] [] := F16.fn.binds rfl (ps := ["value"]) fun _ _ _ _ _ _ us hl => match us, hl with | [_], _ => rfl
  have F17 : C8.Fun K "_has_form" "_has_form" s_has_form_machine f17 _ := ⟨⟨oc17, od17, .none, kV17, dc17, pm17, an17, cd17, ct17, sl17, rfl, l17, c17⟩⟩
  have b17 : Binds K _ ["part", "form", "many"] [] := F17.binds rfl (ps := ["part", "form", "many"]) fun _ _ _ _ _ _ us hl => match us, hl with | [_, _, _], _ => rfl
  have F18 : C8.Def K mg "_is_instruction" s__is_instruction f18 _ := ⟨⟨⟨oc18, od18, .none, kV18, dc18, pm18, an18, cd18, ct18, sl18, rfl, l18, c18⟩⟩, PySem.W.mg_of X G a18, k18⟩
  have b18 : Binds K _ ["value", "many"] [] := F18.fn.binds rfl (ps := ["value", "many"]) fun _ _ _ _ _ _ us hl => match us, hl with | [_, _], _ => rfl
  have F19 : C8.Def K mg "is_program" s_is_program f19 _ := ⟨⟨⟨oc19, od19, .none, kV19, dc19, pm19, an19, cd19, ct19, sl19, rfl, l19, c19⟩⟩, PySem.W.mg_of X G a19, k19⟩
  have b19 : Binds K _ ["value"] [] := F19.fn.binds rfl (ps := ["value"]) fun _ _ _ _ _ _ us hl => match us, hl with | [_], _ => rfl
  have F20 : C8.Def K mg "is_registers" s_is_registers f20 _ := ⟨⟨⟨oc20, od20, .none, kV20, dc20, pm20, an20, cd20, ct20, sl20, rfl, l20, c20⟩⟩, PySem.W.mg_of X G a20, k20⟩
  have b20 : Binds K _ ["value"] [] := F20.fn.binds rfl (ps := ["value"]) fun _ _ _ _ _ _ us hl => match us, hl with | [_], _ => rfl
  have F21 : C8.Def K mg "is_measure" s_is_measure f21 _ := ⟨⟨⟨oc21, od21, .none, kV21, dc21, pm21, an21, cd21, ct21, sl21, rfl, l21, c21⟩⟩, PySem.W.mg_of X G a21, k21⟩
  have b21 : Binds K _ ["value"] [] := F21.fn.binds rfl (ps := ["value"]) fun _ _ _ _ _ _ us hl => match us, hl with | [_], _ => rfl
  have F22 : C8.Def K mg "first_pages" s_first_pages f22 _ := ⟨⟨⟨oc22, od22, .none, kV22, dc22, pm22, an22, cd22, ct22, sl22, rfl, l22, c22⟩⟩, PySem.W.mg_of X G a22, k22⟩
  have b22 : Binds K _ ["measure"] [] := F22.fn.binds rfl (ps := ["measure"]) fun _ _ _ _ _ _ us hl => match us, hl with | [_], _ => rfl
  have F23 : C8.Def K mg "first_cpus" s_first_cpus f23 _ := ⟨⟨⟨oc23, od23, .none, kV23, dc23, pm23, an23, cd23, ct23, sl23, rfl, l23, c23⟩⟩, PySem.W.mg_of X G a23, k23⟩
  have b23 : Binds K _ ["measure"] [] := F23.fn.binds rfl (ps := ["measure"]) fun _ _ _ _ _ _ us hl => match us, hl with | [_], _ => rfl
  have F24 : C8.Def K mg "_is_page_part" s__is_page_part f24 _ := ⟨⟨⟨oc24, od24, .none, kV24, dc24, pm24, an24, cd24, ct24, sl24, rfl, l24, c24⟩⟩, PySem.W.mg_of X G a24, k24⟩
  have b24 : Binds K _ ["part"] [] := F24.fn.binds rfl (ps := ["part"]) fun _ _ _ _ _ _ us hl => match us, hl with | [_], _ => rfl
  have F25 : C8.Def K mg "_is_cpu_part" s__is_cpu_part f25 _ := ⟨⟨⟨oc25, od25, .none, kV25, dc25, pm25, an25, cd25, ct25, sl25, rfl, l25, c25⟩⟩, PySem.W.mg_of X G a25, k25⟩
  have b25 : Binds K _ ["part"] [] := F25.fn.binds rfl (ps := ["part"]) fun _ _ _ _ _ _ us hl => match us, hl with | [_], _ => rfl
  have F26 : C8.Def K mg "_law_begin" s__law_begin f26 _ := ⟨⟨⟨oc26, od26, .none, kV26, dc26, pm26, an26, cd26, ct26, sl26, rfl, l26, c26⟩⟩, PySem.W.mg_of X G a26, k26⟩
  have b26 : Binds K _ ["script"] [] := F26.fn.binds rfl (ps := ["script"]) fun _ _ _ _ _ _ us hl => match us, hl with | [_], _ => rfl
  have F27 : C8.Def K mg "_law_draw" s__law_draw f27 _ := ⟨⟨⟨oc27, od27, .none, kV27, dc27, pm27, an27, cd27, ct27, sl27, rfl, l27, c27⟩⟩, PySem.W.mg_of X G a27, k27⟩
  have b27 : Binds K _ ["draws", "many"] [] := F27.fn.binds rfl (ps := ["draws", "many"]) fun _ _ _ _ _ _ us hl => match us, hl with | [_, _], _ => rfl
  have F28 : C8.Def K mg "_law_pick" s__law_pick f28 _ := ⟨⟨⟨oc28, od28, .none, kV28, dc28, pm28, an28, cd28, ct28, sl28, rfl, l28, c28⟩⟩, PySem.W.mg_of X G a28, k28⟩
  have b28 : Binds K _ ["draws", "row"] [] := F28.fn.binds rfl (ps := ["draws", "row"]) fun _ _ _ _ _ _ us hl => match us, hl with | [_, _], _ => rfl
  have F29 : C8.Def K mg "_law_deep" s__law_deep f29 _ := ⟨⟨⟨oc29, od29, .none, kV29, dc29, pm29, an29, cd29, ct29, sl29, rfl, l29, c29⟩⟩, PySem.W.mg_of X G a29, k29⟩
  have b29 : Binds K _ ["many"] [] := F29.fn.binds rfl (ps := ["many"]) fun _ _ _ _ _ _ us hl => match us, hl with | [_], _ => rfl
  have F30 : C8.Def K mg "_law_words" s__law_words f30 _ := ⟨⟨⟨oc30, od30, .none, kV30, dc30, pm30, an30, cd30, ct30, sl30, rfl, l30, c30⟩⟩, PySem.W.mg_of X G a30, k30⟩
  have b30 : Binds K _ ["draws"] [] := F30.fn.binds rfl (ps := ["draws"]) fun _ _ _ _ _ _ us hl => match us, hl with | [_], _ => rfl
  have F31 : C8.Def K mg "_law_no_word" s__law_no_word f31 _ := ⟨⟨⟨oc31, od31, .none, kV31, dc31, pm31, an31, cd31, ct31, sl31, rfl, l31, c31⟩⟩, PySem.W.mg_of X G a31, k31⟩
  have b31 : Binds K _ ["draws"] [] := F31.fn.binds rfl (ps := ["draws"]) fun _ _ _ _ _ _ us hl => match us, hl with | [_], _ => rfl
  have F32 : C8.Def K mg "_law_no_words" s__law_no_words f32 _ := ⟨⟨⟨oc32, od32, .none, kV32, dc32, pm32, an32, cd32, ct32, sl32, rfl, l32, c32⟩⟩, PySem.W.mg_of X G a32, k32⟩
  have b32 : Binds K _ ["draws"] [] := F32.fn.binds rfl (ps := ["draws"]) fun _ _ _ _ _ _ us hl => match us, hl with | [_], _ => rfl
  have F33 : C8.Def K mg "_law_program" s__law_program f33 _ := ⟨⟨⟨oc33, od33, .none, kV33, dc33, pm33, an33, cd33, ct33, sl33, rfl, l33, c33⟩⟩, PySem.W.mg_of X G a33, k33⟩
  have b33 : Binds K _ ["draws"] [] := F33.fn.binds rfl (ps := ["draws"]) fun _ _ _ _ _ _ us hl => match us, hl with | [_], _ => rfl
  have F34 : C8.Def K mg "_law_no_program" s__law_no_program f34 _ := ⟨⟨⟨oc34, od34, .none, kV34, dc34, pm34, an34, cd34, ct34, sl34, rfl, l34, c34⟩⟩, PySem.W.mg_of X G a34, k34⟩
  have b34 : Binds K _ ["draws"] [] := F34.fn.binds rfl (ps := ["draws"]) fun _ _ _ _ _ _ us hl => match us, hl with | [_], _ => rfl
  have F35 : C8.Def K mg "_law_part" s__law_part f35 _ := ⟨⟨⟨oc35, od35, .none, kV35, dc35, pm35, an35, cd35, ct35, sl35, rfl, l35, c35⟩⟩, PySem.W.mg_of X G a35, k35⟩
  have b35 : Binds K _ ["draws", "left"] [] := F35.fn.binds rfl (ps := ["draws", "left"]) fun _ _ _ _ _ _ us hl => match us, hl with | [_, _], _ => rfl
  have F36 : C8.Def K mg "_law_wrong" s__law_wrong f36 _ := ⟨⟨⟨oc36, od36, .none, kV36, dc36, pm36, an36, cd36, ct36, sl36, rfl, l36, c36⟩⟩, PySem.W.mg_of X G a36, k36⟩
  have b36 : Binds K _ ["draws", "part"] [] := F36.fn.binds rfl (ps := ["draws", "part"]) fun _ _ _ _ _ _ us hl => match us, hl with | [_, _], _ => rfl
  have F37 : C8.Def K mg "_law_told" s__law_told f37 _ := ⟨⟨⟨oc37, od37, .none, kV37, dc37, pm37, an37, cd37, ct37, sl37, rfl, l37, c37⟩⟩, PySem.W.mg_of X G a37, k37⟩
  have b37 : Binds K _ ["value", "due"] [] := F37.fn.binds rfl (ps := ["value", "due"]) fun _ _ _ _ _ _ us hl => match us, hl with | [_, _], _ => rfl
  have F38 : C8.Def K mg "_law_right" s__law_right f38 _ := ⟨⟨⟨oc38, od38, .none, kV38, dc38, pm38, an38, cd38, ct38, sl38, rfl, l38, c38⟩⟩, PySem.W.mg_of X G a38, k38⟩
  have b38 : Binds K _ ["measure"] [] := F38.fn.binds rfl (ps := ["measure"]) fun _ _ _ _ _ _ us hl => match us, hl with | [_], _ => rfl
  have F39 : C8.Fun K "law" "law" s_law fa _ := ⟨⟨oc39, od39, .none, kV39, dc39, pm39, an39, cd39, ct39, sl39, rfl, l39, c39⟩⟩
  have b39 : Binds K _ ["script"] [] := F39.binds rfl (ps := ["script"]) fun _ _ _ _ _ _ us hl => match us, hl with | [_], _ => rfl
  have F40 : C8.Fun K "__init__" "Atom.__init__" s_Atom___init__ f40 _ := ⟨⟨oc40, od40, .none, kV40, dc40, pm40, an40, cd40, ct40, sl40, rfl, l40, c40⟩⟩
  have b40 : Binds K _ ["self", "kind", "term"] [] := F40.binds rfl (ps := ["self", "kind", "term"]) fun _ _ _ _ _ _ us hl => match us, hl with | [_, _, _], _ => rfl
  have mk40 : Mk K C f40 := ⟨mkC, a40, i40, kcC⟩
  have F41 : C8.Fun K "__eq__" "Atom.__eq__" s_Atom___eq__ f41 _ := ⟨⟨oc41, od41, .none, kV41, dc41, pm41, an41, cd41, ct41, sl41, rfl, l41, c41⟩⟩
  have b41 : Binds K _ ["self", "other"] [] := F41.binds rfl (ps := ["self", "other"]) fun _ _ _ _ _ _ us hl => match us, hl with | [_, _], _ => rfl
  have F42 : C8.Fun K "is_same" "Atom.is_same" s_Atom_is_same f42 _ := ⟨⟨oc42, od42, .none, kV42, dc42, pm42, an42, cd42, ct42, sl42, rfl, l42, c42⟩⟩
  have b42 : Binds K _ ["self", "other"] [] := F42.binds rfl (ps := ["self", "other"]) fun _ _ _ _ _ _ us hl => match us, hl with | [_, _], _ => rfl
  have me42 : Meth K C "is_same" f42 := ⟨a42, i42, k42⟩
  refine ⟨PySem.W.fnOf "law" "law" (C8.fnArgs s_law) (C8.fnBody s_law) (C8.fnScope s_law) .none kV39 dc39 pm39 an39 cd39 ct39, fun s v => .of_eq rfl, fun base _ _ => ?_⟩
  have C1 := ok_is_number (P := l.prog) (w := w) (base := base)  F1 b1 T  
  have C2 := ok_is_text (P := l.prog) (w := w) (base := base)  F2 b2 T  
  have C3 := ok__is_within (P := l.prog) (w := w) (base := base)  F3 b3 T  C1 C2
  have C4 := ok_is_word (P := l.prog) (w := w) (base := base)  F4 b4 T  C3
  have C6 := ok__places_of_atoms (P := l.prog) (w := w) (base := base)  F6 b6 T  
  have C7 := ok_rank_of (P := l.prog) (w := w) (base := base)  F7 b7 T  C6
  have C8 := ok__rank_of_atom (P := l.prog) (w := w) (base := base)  F8 b8 T  C7
  have C9 := ok__most_rank (P := l.prog) (w := w) (base := base)  F9 b9 T  
  have C10 := ok_has_form_words (P := l.prog) (w := w) (base := base) F10 (PySem.W.mg_of X G a10) k10 b10 T 
  have C11 := ok__is_term (P := l.prog) (w := w) (base := base)  F11 b11 T  C4 C10
  have kA := ok_init (P := l.prog) (w := w) (base := base) mk40 (PySem.W.mg_of X G aC) F40 b40 T C11 C8 C9
  have fN := ok_eqN (P := l.prog) (w := w) (base := base) F41 T
  have ON : OwnS l.prog w K mg base 1 C (spEqN C) := ⟨f41, _, _, fN, a41, i41, b41⟩
  have mSm := ok_is_same (P := l.prog) (w := w) (base := base) me42 T F42 b42
  have C12 := ok__are_equal (P := l.prog) (w := w) (base := base)  F12 b12 T ON oth mSm 
  have fG := ok_eq (P := l.prog) (w := w) (base := base) F41 T C12
  have OG : OwnS l.prog w K mg base 4 C (spEqG C) := ⟨f41, _, _, fG, a41, i41, b41⟩
  have C5 := ok_is_host_word (P := l.prog) (w := w) (base := base)  F5 b5 T  C3
  have C13 := ok_is_form (P := l.prog) (w := w) (base := base)  F13 b13 T  
  have C14 := ok_has_name (P := l.prog) (w := w) (base := base)  F14 b14 T  
  have C15 := ok__is_below (P := l.prog) (w := w) (base := base)  F15 b15 T  
  have C16 := ok_is_page (P := l.prog) (w := w) (base := base)  F16 b16 T  C15
  have C17 := ok_hfm (P := l.prog) (w := w) (base := base) F17 (PySem.W.mg_of X G a17) k17 b17 T C1
  have C18 := ok__is_instruction (P := l.prog) (w := w) (base := base)  F18 b18 T KF0 (fun k hk => by simp only [List.mem_cons, List.not_mem_nil, or_false] at hk; rw [hk]; decide +kernel) C14 C17
  have C19 := ok_is_program (P := l.prog) (w := w) (base := base)  F19 b19 T  C18
  have C20 := ok_is_registers (P := l.prog) (w := w) (base := base)  F20 b20 T  C5
  have C24 := ok__is_page_part (P := l.prog) (w := w) (base := base)  F24 b24 T  C13 C16 C4
  have C25 := ok__is_cpu_part (P := l.prog) (w := w) (base := base)  F25 b25 T  C13 C19 C20
  have C21 := ok_is_measure (P := l.prog) (w := w) (base := base)  F21 b21 T  C24 C25
  have C22 := ok_first_pages (P := l.prog) (w := w) (base := base)  F22 b22 T  
  have C23 := ok_first_cpus (P := l.prog) (w := w) (base := base)  F23 b23 T  
  have C26 := ok__law_begin (P := l.prog) (w := w) (base := base)  F26 b26 T  
  have C27 := ok__law_draw (P := l.prog) (w := w) (base := base)  F27 b27 T  
  have C28 := ok__law_pick (P := l.prog) (w := w) (base := base)  F28 b28 T  C27
  have C29 := ok__law_deep (P := l.prog) (w := w) (base := base)  F29 b29 T  
  have C30 := ok__law_words (P := l.prog) (w := w) (base := base) F30 b30 T C29 kA C28
  have C31 := ok__law_no_word (P := l.prog) (w := w) (base := base)  F31 b31 T  C29 C28
  have C32 := ok__law_no_words (P := l.prog) (w := w) (base := base)  F32 b32 T  C30 C27 C28 C31
  have C33 := ok__law_program (P := l.prog) (w := w) (base := base)  F33 b33 T  C28
  have C34 := ok__law_no_program (P := l.prog) (w := w) (base := base)  F34 b34 T  C28
  have C35 := ok__law_part (P := l.prog) (w := w) (base := base)  F35 b35 T  C27 C30 C33
  have C36 := ok__law_wrong (P := l.prog) (w := w) (base := base)  F36 b36 T  C27 C28 C32 C34 C29
  have C37 := ok__law_told (P := l.prog) (w := w) (base := base)  F37 b37 T  C21
  have C38 := ok__law_right (P := l.prog) (w := w) (base := base)  F38 b38 T OG oth C22 C23
  exact fn_law F39 b39 T C26 C27 C28 C35 C37 C38 C21 C36 C30 C23 C22 kA
end Hc
open PySem PySem.W PyProof.Rows
set_option maxRecDepth 100000 in
set_option maxHeartbeats 0 in
theorem PySem.Challenge.cw_hermitcell_k70_what_measures_tell_holds : PySem.Challenge.rw_hermitcell_k70_what_measures_tell.Holds := by
  w_on; o_law; k_head; (case hw => w_witness2)
  k_fill
  refine L2.walk_of (l := PySem.Challenge.rw_hermitcell_k70_what_measures_tell) (n := 63) (k := 27) (x := "script") (CX := fun _ => C8.CX0) (sp := fun w => Hc.spLaw _) rfl (by decide) rfl ⟨rfl, by decide, by decide⟩ (fun w h Y => PySem.W.kIn_of Y) ?F (fun _ _ a ns hl _ hS => ⟨a, ns, rfl, hS, Nat.le_trans hl (by decide), fun _ => rfl⟩) (fun _ _ _ _ _ h => h)
  case F =>
    intro w mg fa h KX G hmg
    refine' Hc.all_mk KX G hmg ?a1 ?l1 ?c1 ?k1 ?a2 ?l2 ?c2 ?k2 ?a3 ?l3 ?c3 ?k3 ?a4 ?l4 ?c4 ?k4 ?a5 ?l5 ?c5 ?k5 ?a6 ?l6 ?c6 ?k6 ?a7 ?l7 ?c7 ?k7 ?a8 ?l8 ?c8 ?k8 ?a9 ?l9 ?c9 ?k9 ?a10 ?l10 ?c10 ?k10 ?a11 ?l11 ?c11 ?k11 ?a12 ?l12 ?c12 ?k12 ?a13 ?l13 ?c13 ?k13 ?a14 ?l14 ?c14 ?k14 ?a15 ?l15 ?c15 ?k15 ?a16 ?l16 ?c16 ?k16 ?a17 ?l17 ?c17 ?k17 ?a18 ?l18 ?c18 ?k18 ?a19 ?l19 ?c19 ?k19 ?a20 ?l20 ?c20 ?k20 ?a21 ?l21 ?c21 ?k21 ?a22 ?l22 ?c22 ?k22 ?a23 ?l23 ?c23 ?k23 ?a24 ?l24 ?c24 ?k24 ?a25 ?l25 ?c25 ?k25 ?a26 ?l26 ?c26 ?k26 ?a27 ?l27 ?c27 ?k27 ?a28 ?l28 ?c28 ?k28 ?a29 ?l29 ?c29 ?k29 ?a30 ?l30 ?c30 ?k30 ?a31 ?l31 ?c31 ?k31 ?a32 ?l32 ?c32 ?k32 ?a33 ?l33 ?c33 ?k33 ?a34 ?l34 ?c34 ?k34 ?a35 ?l35 ?c35 ?k35 ?a36 ?l36 ?c36 ?k36 ?a37 ?l37 ?c37 ?k37 ?a38 ?l38 ?c38 ?k38 ?a39 ?l39 ?c39 ?k39 ?aC ?onn ?oNoneType ?oint ?ostr ?otuple ?a40 ?i40 ?l40 ?c40 ?k40 ?a41 ?i41 ?l41 ?c41 ?k41 ?a42 ?i42 ?l42 ?c42 ?k42 ?pgC ?hdC ?poC ?saC ?mkC ?kcC ?ha ?hn ?htk ?hm ?me ?nakind ?naterm ?narank ?na_stripped ?qint ?qstr ?qtuple ?qbool ?qlist ?qdict ?rNoneType ?rbool ?rint ?rstr ?rtuple ?rlist ?rdict ?nLEAST ?nGREATEST ?nMOST_CHARACTERS ?nMOST_DEEP ?nMOST_DEEP_HOST ?nMOST_RANK ?nMOST_RANK_HOST ?nWORDS ?nPAGES ?nFIRST_SHARED ?nMOST_INSTRUCTIONS ?nREGISTERS ?ztype ?zint ?zstr ?zbool ?ztuple ?zlist ?zdict ?zrange ?zzip ?zset ?zlen ?zall ?zmax ?zisinstance ?zabs ?aF ?lF ?kF ?oF ?vtt1 ?wtt1 ?vtt2 ?wtt2 ?vtt3 ?wtt3 ?vtt4 ?wtt4 ?vtt5 ?wtt5 ?vkey ?aK0 ?lK0 ?kK0 ?oK0 ?vkf0_0 ?wkf0_0 ?vkf0_1 ?wkf0_1 ?vkf0_2 ?wkf0_2 ?vkf0_3 ?wkf0_3 ?vkf0_4 ?wkf0_4 ?vkf0_5 ?wkf0_5 ?vkf0_6 ?wkf0_6 ?vkf0_7 ?wkf0_7 ?vkf0_8 ?wkf0_8 ?vkf0_9 ?wkf0_9 ?vkf0_10 ?wkf0_10 ?vkf0_11 ?wkf0_11 ?vn0_0
    (case a1 => k_is)
    (case l1 => k_is)
    (case c1 => k_is)
    (case k1 => k_is)
    (case a2 => k_is)
    (case l2 => k_is)
    (case c2 => k_is)
    (case k2 => k_is)
    (case a3 => k_is)
    (case l3 => k_is)
    (case c3 => k_is)
    (case k3 => k_is)
    (case a4 => k_is)
    (case l4 => k_is)
    (case c4 => k_is)
    (case k4 => k_is)
    (case a5 => k_is)
    (case l5 => k_is)
    (case c5 => k_is)
    (case k5 => k_is)
    (case a6 => k_is)
    (case l6 => k_is)
    (case c6 => k_is)
    (case k6 => k_is)
    (case a7 => k_is)
    (case l7 => k_is)
    (case c7 => k_is)
    (case k7 => k_is)
    (case a8 => k_is)
    (case l8 => k_is)
    (case c8 => k_is)
    (case k8 => k_is)
    (case a9 => k_is)
    (case l9 => k_is)
    (case c9 => k_is)
    (case k9 => k_is)
    (case a10 => k_is)
    (case l10 => k_is)
    (case c10 => k_is)
    (case k10 => k_is)
    (case a11 => k_is)
    (case l11 => k_is)
    (case c11 => k_is)
    (case k11 => k_is)
    (case a12 => k_is)
    (case l12 => k_is)
    (case c12 => k_is)
    (case k12 => k_is)
    (case a13 => k_is)
    (case l13 => k_is)
    (case c13 => k_is)
    (case k13 => k_is)
    (case a14 => k_is)
    (case l14 => k_is)
    (case c14 => k_is)
    (case k14 => k_is)
    (case a15 => k_is)
    (case l15 => k_is)
    (case c15 => k_is)
    (case k15 => k_is)
    (case a16 => k_is)
    (case l16 => k_is)
    (case c16 => k_is)
    (case k16 => k_is)
    (case a17 => k_is)
    (case l17 => k_is)
    (case c17 => k_is)
    (case k17 => k_is)
    (case a18 => k_is)
    (case l18 => k_is)
    (case c18 => k_is)
    (case k18 => k_is)
    (case a19 => k_is)
    (case l19 => k_is)
    (case c19 => k_is)
    (case k19 => k_is)
    (case a20 => k_is)
    (case l20 => k_is)
    (case c20 => k_is)
    (case k20 => k_is)
    (case a21 => k_is)
    (case l21 => k_is)
    (case c21 => k_is)
    (case k21 => k_is)
    (case a22 => k_is)
    (case l22 => k_is)
    (case c22 => k_is)
    (case k22 => k_is)
    (case a23 => k_is)
    (case l23 => k_is)
    (case c23 => k_is)
    (case k23 => k_is)
    (case a24 => k_is)
    (case l24 => k_is)
    (case c24 => k_is)
    (case k24 => k_is)
    (case a25 => k_is)
    (case l25 => k_is)
    (case c25 => k_is)
    (case k25 => k_is)
    (case a26 => k_is)
    (case l26 => k_is)
    (case c26 => k_is)
    (case k26 => k_is)
    (case a27 => k_is)
    (case l27 => k_is)
    (case c27 => k_is)
    (case k27 => k_is)
    (case a28 => k_is)
    (case l28 => k_is)
    (case c28 => k_is)
    (case k28 => k_is)
    (case a29 => k_is)
    (case l29 => k_is)
    (case c29 => k_is)
    (case k29 => k_is)
    (case a30 => k_is)
    (case l30 => k_is)
    (case c30 => k_is)
    (case k30 => k_is)
    (case a31 => k_is)
    (case l31 => k_is)
    (case c31 => k_is)
    (case k31 => k_is)
    (case a32 => k_is)
    (case l32 => k_is)
    (case c32 => k_is)
    (case k32 => k_is)
    (case a33 => k_is)
    (case l33 => k_is)
    (case c33 => k_is)
    (case k33 => k_is)
    (case a34 => k_is)
    (case l34 => k_is)
    (case c34 => k_is)
    (case k34 => k_is)
    (case a35 => k_is)
    (case l35 => k_is)
    (case c35 => k_is)
    (case k35 => k_is)
    (case a36 => k_is)
    (case l36 => k_is)
    (case c36 => k_is)
    (case k36 => k_is)
    (case a37 => k_is)
    (case l37 => k_is)
    (case c37 => k_is)
    (case k37 => k_is)
    (case a38 => k_is)
    (case l38 => k_is)
    (case c38 => k_is)
    (case k38 => k_is)
    (case a39 => k_is)
    (case l39 => k_is)
    (case c39 => k_is)
    (case k39 => k_is)
    (case aC => k_is)
    (case onn => k_is)
    (case oNoneType => k_is)
    (case oint => k_is)
    (case ostr => k_is)
    (case otuple => k_is)
    (case a40 => k_is)
    (case i40 => k_is)
    (case l40 => k_is)
    (case c40 => k_is)
    (case k40 => k_is)
    (case a41 => k_is)
    (case i41 => k_is)
    (case l41 => k_is)
    (case c41 => k_is)
    (case k41 => k_is)
    (case a42 => k_is)
    (case i42 => k_is)
    (case l42 => k_is)
    (case c42 => k_is)
    (case k42 => k_is)
    (case pgC => k_is)
    (case hdC => k_is)
    (case poC => k_is)
    (case saC => k_is)
    (case mkC => k_is)
    (case kcC => k_is)
    (case ha => k_is)
    (case hn => k_is)
    (case htk => k_is)
    (case hm => k_is)
    (case me => kit_is)
    (case nakind => k_is)
    (case naterm => k_is)
    (case narank => k_is)
    (case na_stripped => k_is)
    (case qint => kit_is)
    (case qstr => kit_is)
    (case qtuple => kit_is)
    (case qbool => kit_is)
    (case qlist => kit_is)
    (case qdict => kit_is)
    (case rNoneType => kit_is)
    (case rbool => kit_is)
    (case rint => kit_is)
    (case rstr => kit_is)
    (case rtuple => kit_is)
    (case rlist => kit_is)
    (case rdict => kit_is)
    (case nLEAST => k_is)
    (case nGREATEST => k_is)
    (case nMOST_CHARACTERS => k_is)
    (case nMOST_DEEP => k_is)
    (case nMOST_DEEP_HOST => k_is)
    (case nMOST_RANK => k_is)
    (case nMOST_RANK_HOST => k_is)
    (case nWORDS => k_is)
    (case nPAGES => k_is)
    (case nFIRST_SHARED => k_is)
    (case nMOST_INSTRUCTIONS => k_is)
    (case nREGISTERS => k_is)
    (case ztype => k_is)
    (case zint => k_is)
    (case zstr => k_is)
    (case zbool => k_is)
    (case ztuple => k_is)
    (case zlist => k_is)
    (case zdict => k_is)
    (case zrange => k_is)
    (case zzip => k_is)
    (case zset => k_is)
    (case zlen => k_is)
    (case zall => k_is)
    (case zmax => k_is)
    (case zisinstance => k_is)
    (case zabs => k_is)
    (case aF => k_is)
    (case lF => k_is)
    (case kF => k_keys)
    (case oF => decide)
    (case vtt1 => k_is)
    (case wtt1 => k_is)
    (case vtt2 => k_is)
    (case wtt2 => k_is)
    (case vtt3 => k_is)
    (case wtt3 => k_is)
    (case vtt4 => k_is)
    (case wtt4 => k_is)
    (case vtt5 => k_is)
    (case wtt5 => k_is)
    (case vkey => k_is)
    (case aK0 => k_is)
    (case lK0 => k_is)
    (case kK0 => k_keys)
    (case oK0 => decide)
    (case vkf0_0 => k_is)
    (case wkf0_0 => k_is)
    (case vkf0_1 => k_is)
    (case wkf0_1 => k_is)
    (case vkf0_2 => k_is)
    (case wkf0_2 => k_is)
    (case vkf0_3 => k_is)
    (case wkf0_3 => k_is)
    (case vkf0_4 => k_is)
    (case wkf0_4 => k_is)
    (case vkf0_5 => k_is)
    (case wkf0_5 => k_is)
    (case vkf0_6 => k_is)
    (case wkf0_6 => k_is)
    (case vkf0_7 => k_is)
    (case wkf0_7 => k_is)
    (case vkf0_8 => k_is)
    (case wkf0_8 => k_is)
    (case vkf0_9 => k_is)
    (case wkf0_9 => k_is)
    (case vkf0_10 => k_is)
    (case wkf0_10 => k_is)
    (case vkf0_11 => k_is)
    (case wkf0_11 => k_is)
    (case vn0_0 => k_is)



import PyProof.Rows.All
import Wide.All
import OpenK.AllK
import Wide.FinOn
import HandS.ForMost
import HandS.Codes
import HandS.IsInst
import HandS.More
import HandS.OwnEq
import HandS.EndBits
import HandS.Style
import PyProof.Rows.CallKwBuiltin
import KE.KMinKey
import HandS.SortKw
import HandS.Walk
import HandS.Zip
import HandS.TupAny
import HandS.TupMul
import HandS.Exc
import HandS.ExcOwn
import HandS.Small
import HandS.WordsExc
import HandS.DictComp
import KE.KUnpackStar
import HandS.Wide
import HandS.TryOnly
import HandS.ExcIs
import KE.RegKIsAll
import PySem.Challenge.RW_hermitcell_k27_tokens_of_cores
set_option Elab.async false
set_option maxRecDepth 100000
set_option maxHeartbeats 4000000
set_option linter.all false
/-! Rules that the layer lacks. -/
namespace Hr
open PySem PySem.SeqAt PyProof.Rows
open AutoSeq1 (wpAny_loadPart')
open MeetsSeq MeetsSeq2 MeetsSeq3 SeqRoads2
/-! ### x in l: the items' == may run code -/
section
variable {prog : Program} {w : World} {A : Around} {E : Value → Shared → Prop}
/-- the list stands still, its items are asked one by one -/
structure Asks (prog : Program) (w : World) (A : Around) (E : Value → Shared → Prop) (l : Addr) (x : Value) (J : Shared → Prop) (bs : List Bool) : Prop where
  at_ : ∀ s, J s → ∃ (items : Array Value) (n : Nat), s.heap.get? l = some { cls := .type "list", data := .seq items n } ∧ items.size = bs.length ∧
    ∀ (i : Nat) (h : i < items.size) (h2 : i < bs.length), wpAny (model prog w) A.in1 (eqBool items[i] x) (fun r s' => r = bs[i] ∧ J s') E s
theorem in_loop {R : Result → Shared → Prop} {l : Addr} {x : Value} {J : Shared → Prop} {bs : List Bool} (hl : Asks prog w A (fun e s' => R (.error e) s') l x J bs) (k : Nat) :
    ∀ i : Nat, bs.length - i = k → ∀ s, J s → (∀ s', J s' → R (.ok (.ret (.bool ((bs.drop i).any id)))) s') →
      wpAny (model prog w) A.in1 (Builtin.«list.__contains__.loop» ⟨[.ref l, x, rawInt i], []⟩) (GQ.FinOf prog w A R) (fun e s' => R (.error e) s') s := by
  induction k with
  | zero =>
    intro i hk s h fin
    obtain ⟨items, n, hg, hz, _⟩ := hl.at_ _ h
    have f := fin s h
    rw [List.drop_eq_nil_of_le (by omega)] at f
    obtain ⟨hp, g, d, tk, os⟩ := s
    wp_walk using wpAny_loadPart' hg
    have hi : items[((i : Nat) : Int).toNat]? = none := by simp; omega
    rw [hi]
    wp_walk
    exact f
  | succ k ih =>
    intro i hk s h fin
    obtain ⟨items, n, hg, hz, turn⟩ := hl.at_ _ h
    have h1 : i < items.size := by omega
    have h2 : i < bs.length := by omega
    have ht := turn i h1 h2
    obtain ⟨hp, g, d, tk, os⟩ := s
    wp_walk using wpAny_loadPart' hg
    have hi : items[((i : Nat) : Int).toNat]? = some items[i] := by simp [h1]
    have hd : (bs.drop i).any id = (bs[i] || (bs.drop (i + 1)).any id) := by rw [List.drop_eq_getElem_cons h2, List.any_cons]; rfl
    rw [hd] at fin
    rw [hi]
    refine wpAny_bind (wpAny_mono ht (fun r s2 q2 => ?_) fun _ _ z => z)
    obtain ⟨hr, j2⟩ := q2
    subst hr
    cases hb : bs[i] with
    | true =>
      rw [hb] at fin
      have f := fin s2 j2
      obtain ⟨hp2, g2, d2, tk2, os2⟩ := s2
      wp_walk
      exact f
    | false =>
      rw [hb] at fin
      have rec_ := ih (i + 1) (by omega) s2 j2 fin
      have hc : ((i : Int) + 1) = ((i + 1 : Nat) : Int) := by omega
      obtain ⟨hp2, g2, d2, tk2, os2⟩ := s2
      wp_walk
      rw [hc]
      exact ⟨plainId_quiet plain_contains_loop _, codeAny_builtin entry_contains_loop (by
        rw [Around.under_plainId plain_contains_loop _]
        exact rec_)⟩
theorem in_list {R : Result → Shared → Prop} {l : Addr} {x : Value} {J : Shared → Prop} {bs : List Bool} (hl : Asks prog w A (fun e s' => R (.error e) s') l x J bs) {s : Shared} (h : J s)
    (fin : ∀ s', J s' → R (.ok (.ret (.bool (bs.any id)))) s') :
    wpAny (model prog w) A.in1 (Builtin.«list.__contains__» ⟨[.ref l, x], []⟩) (GQ.FinOf prog w A R) (fun e s' => R (.error e) s') s := by
  obtain ⟨items, n, hg, hz, _⟩ := hl.at_ _ h
  have rec_ := in_loop (A := A) hl _ 0 rfl s h (by simpa using fin)
  obtain ⟨hp, g, d, tk, os⟩ := s
  wp_walk using wpAny_loadPart' hg
  exact ⟨plainId_quiet plain_contains_loop _, codeAny_builtin entry_contains_loop (by
    rw [Around.under_plainId plain_contains_loop _]
    exact rec_)⟩
theorem call_in {l : Addr} {x : Value} {J : Shared → Prop} {bs : List Bool} {Q : Value → Shared → Prop} (hl : Asks prog w A E l x J bs) {s : Shared} (h : J s) (fin : ∀ s', J s' → Q (.bool (bs.any id)) s') :
    wpAny (model prog w) A (call (.builtin "list.__contains__") [.ref l, x]) Q E s := by
  obtain ⟨items, n, hg, _, _⟩ := hl.at_ _ h
  exact GQ.call_here F.slot_list_contains ⟨_, hg, rfl⟩ F.entry_list_contains (F.args_list_contains_2 _ _) (in_list (R := wants Q E) hl h fin)
theorem op_in_ {l : Addr} {x : Value} {J : Shared → Prop} {bs : List Bool} {Q : Value → Shared → Prop} (hl : Asks prog w A E l x J bs) {s : Shared} (h : J s) (fin : ∀ s', J s' → Q (.bool (bs.any id)) s') :
    wpAny (model prog w) A (compareOp .In x (.ref l)) Q E s := by
  obtain ⟨items, n, hg, _, _⟩ := hl.at_ _ h
  show wpAny _ _ (do return .bool (← contains (.ref l) x)) Q E s
  refine wpAny_bind (wpAny_contains_slot ⟨_, hg, rfl⟩ F.slot_list_contains ?_)
  exact call_in hl h fun s' j => wpAny_truthy_bool (wpAny_pure (fin s' j))
theorem op_notIn_ {l : Addr} {x : Value} {J : Shared → Prop} {bs : List Bool} {Q : Value → Shared → Prop} (hl : Asks prog w A E l x J bs) {s : Shared} (h : J s) (fin : ∀ s', J s' → Q (.bool (!bs.any id)) s') :
    wpAny (model prog w) A (compareOp .NotIn x (.ref l)) Q E s := by
  obtain ⟨items, n, hg, _, _⟩ := hl.at_ _ h
  show wpAny _ _ (do return .bool (!(← contains (.ref l) x))) Q E s
  refine wpAny_bind (wpAny_contains_slot ⟨_, hg, rfl⟩ F.slot_list_contains ?_)
  exact call_in hl h fun s' j => wpAny_truthy_bool (wpAny_pure (fin s' j))
end
end Hr

namespace Hr
open PySem PySem.Spec PyProof.Rows L2
/-! ### t[::-1] of a tuple -/
section
variable {prog : Program} {w : World} {A : Around} {E : Value → Shared → Prop} {s : Shared}
theorem rev_adj (n : Nat) : Builtin.Slice.sliceAdjust none none (-1) (n : Int) = ((n : Int) - 1, -1) := rfl
theorem rev_places (n : Nat) : Builtin.Slice.slicePlaces ((n : Int) - 1) (-1) (-1) = n := by
  unfold Builtin.Slice.slicePlaces
  rw [if_neg (by decide)]
  by_cases h : (n : Int) - 1 > -1
  · rw [if_pos h, show (-(-1) : Int) = 1 by decide, Int.ediv_one]; omega
  · rw [if_neg h]; omega
theorem rev_pick (xs : Array Value) : ((List.range xs.size).filterMap fun (m : Nat) => xs[((xs.size : Int) - 1 + (m : Int) * -1).toNat]?).toArray = xs.toList.reverse.toArray := by
  congr 1
  have key : ∀ m, m < xs.size → xs[((xs.size : Int) - 1 + (m : Int) * -1).toNat]? = xs.toList.reverse[m]? := fun m hm => by
    rw [List.getElem?_reverse (by simpa using hm), Array.length_toList, ← Array.getElem?_toList]
    congr 1
    omega
  have aux : ∀ (l : List Value), (List.range l.length).filterMap (fun m => l[m]?) = l := fun l => by
    induction l with
    | nil => rfl
    | cons x r ih =>
      rw [List.length_cons, List.range_succ_eq_map, List.filterMap_cons]
      show x :: _ = _
      rw [List.filterMap_map]
      exact congrArg (x :: ·) ih
  have e := aux xs.toList.reverse
  rw [List.length_reverse, Array.length_toList] at e
  have cong : ∀ (f g : Nat → Option Value) (l : List Nat), (∀ m ∈ l, f m = g m) → l.filterMap f = l.filterMap g := fun f g l => by
    induction l with
    | nil => exact fun _ => rfl
    | cons x r ih =>
      intro h
      rw [List.filterMap_cons, List.filterMap_cons, h x List.mem_cons_self, ih fun m hm => h m (List.mem_cons_of_mem _ hm)]
  exact (cong _ _ _ fun m hm => key m (List.mem_range.mp hm)).trans e
theorem getItem_tuple_rev {t sl : Addr} {items : Array Value} {vs : Value} {Q : Value → Shared → Prop} (ht : IsTup s.heap t items) (hs : s.heap.IsSliceOf sl .none .none vs) (ps : IsPart vs (some (-1)))
    (h : Q (.ref s.heap.objs.size) { s with heap := s.heap.push { cls := .type "tuple", data := .seq items.toList.reverse.toArray } }) (hz : items.size ≤ sizeLine) : wpAny (model prog w) A (getItem (.ref t) (.ref sl)) Q E s := by
  have hok : sizeOk (.seq items.toList.reverse.toArray) := by
    show items.toList.reverse.toArray.size ≤ sizeLine
    rw [List.size_toArray, List.length_reverse, Array.length_toList]; exact hz
  obtain ⟨os, hos, hcs, hds⟩ := id hs
  have hT : s.TypeIs (.ref sl) "slice" := ⟨os, hos, hcs⟩
  unfold getItem
  try with_reducible refine wpAny_holding ?_
  first | refine wpAny_bind (wpAny_pure ?_) | skip
  refine wpAny_bind (wpAny_sequenceKey ht.typeIs (by decide) ?_)
  refine wpAny_bind (wpAny_callSpecial?_slot (name := Str.ofString "__getitem__") ht.typeIs PyProof.Rows.slot_tuple_getitem
    (wpAny_call_entry PyProof.Rows.slot_tuple_getitem ht.typeIs entry_tuple_getitem ?_ (args_tuple_getitem _ _)))
  show wpAny _ _ (Builtin.Tuple.tupleItemsOf (.ref t) >>= _) _ _ s
  refine wpAny_bind (tupleItemsOf_ ht ?_)
  refine wpAny_bind (wpAny_typeOf hT ?_)
  rw [if_pos (by decide)]
  have happ : ∀ {Q' : Int × Int × Nat → Shared → Prop} {E' : Value → Shared → Prop} {A' : Around}, Q' ((items.size : Int) - 1, -1, items.size) s → wpAny (model prog w) A' (Builtin.Slice.sliceApplied (.ref sl) (pure (items.size : Int))) Q' E' s := fun {Q' E' A'} q => by
    unfold Builtin.Slice.sliceApplied Builtin.Slice.sliceFields
    refine wpAny_bind (wpAny_bind (wpAny_field hos hds (x := .none) rfl (wpAny_bind (wpAny_field hos hds (x := .none) rfl (wpAny_bind (wpAny_field hos hds (x := vs) rfl (wpAny_pure ?_)))))))
    cases ps with
    | int i u =>
      refine wpAny_bind (slicePart_int ?_)
      show wpAny _ _ (if ((-1 : Int) == 0) = true then _ else _) _ _ s
      rw [if_neg (by decide)]
      refine wpAny_bind (slicePart_none (wpAny_bind (slicePart_none (wpAny_bind (wpAny_pure ?_)))))
      show wpAny _ _ (match Builtin.Slice.sliceAdjust none none (-1) (items.size : Int) with | (lo, hi) => pure (lo, (-1 : Int), Builtin.Slice.slicePlaces lo hi (-1))) _ _ s
      rw [rev_adj]
      show wpAny _ _ (pure ((items.size : Int) - 1, (-1 : Int), Builtin.Slice.slicePlaces ((items.size : Int) - 1) (-1) (-1))) _ _ s
      rw [rev_places]
      exact wpAny_pure q
  refine wpAny_bind (happ ?_)
  show wpAny _ _ (if (((items.size : Int) - 1) == 0 && (-1 : Int) == 1 && items.size == items.size) = true then _ else _) _ _ s
  rw [if_neg (by simp), rev_pick]
  first
    | exact wpAny_bind (m := Builtin.Tuple.tupleExact _) (wpAny_newObj_type (wpAny_pure ⟨_, rfl, wpAny_pure h⟩) hok)
    | exact wpAny_bind (m := Builtin.Tuple.tupleExact _) (wpAny_newObj_type (wpAny_bind (wpAny_pure (wpAny_pure ⟨_, rfl, wpAny_pure h⟩))) hok)
    | exact wpAny_bind (wpAny_bind (m := Builtin.Tuple.tupleExact _) (wpAny_newObj_type (wpAny_pure (wpAny_pure ⟨_, rfl, wpAny_pure h⟩)) hok))
    | exact wpAny_bind (wpAny_bind (m := Builtin.Tuple.tupleExact _) (wpAny_newObj_type (wpAny_pure ⟨_, rfl, wpAny_pure h⟩) hok))
end
def tRevT (K : PySem.W.Frag) (te : TE) : TE := fun σ H Q => te σ H fun x H1 => ∃ a xs, x = .ref a ∧ SqT K H1 a xs ∧ ∀ p, H1 p = none → Q (.ref p) (upd H1 p (.tup xs.reverse))
theorem pe_revT {X : Cx} {e : Expr} {te : TE} {k : Nat} {p1 p2 p3 pos : Pos} (he : PE X e te) : PE X (.Subscript e (.Slice none none (some (.UnaryOp .USub (.Constant (.int 1) k p1) p2)) p3) pos) (tRevT X.K te) := by
  refine ⟨fun pins s σ H Q I h => ?_⟩
  refine Subscript_ (thn (he.run pins s σ H _ I h) fun v s1 ⟨x, H1, I1, r1, a, xs, ex, hx, q⟩ => ?_)
  subst ex
  cases r1
  have part : PO X (some (.UnaryOp .USub (.Constant (.int 1) k p1) p2)) (tPart (tUn (rU fun i => .int (-i)) (tC (.int 1)))) := po_some (pe_un un_neg pe_int)
  refine wpAny_Slice (thn (po_none.run pins s1 σ H1 (fun o H2 => o = none ∧ H2 = H1) I1 ⟨rfl, rfl⟩) fun vl s2 ⟨l, H2, I2, pl, el, e2⟩ => ?_)
  subst el e2
  refine thn (po_none.run pins s2 σ H2 (fun o H3 => o = none ∧ H3 = H2) I2 ⟨rfl, rfl⟩) fun vu s3 ⟨u, H3, I3, pu, eu, e3⟩ => ?_
  subst eu e3
  refine thn (part.run pins s3 σ H3 (fun o H4 => o = some (-1) ∧ H4 = H3) I3 ⟨1, rfl, -1, rfl, rfl, rfl⟩) fun vs s4 ⟨o, H4, I4, ps, eo, e4⟩ => ?_
  subst eo e4
  have I5 : Inv X pins σ H4 { s4 with heap := s4.heap.push { cls := .type "slice", data := .fields #[vl, vu, vs] } } := I4.kept (t' := s4.toks) fun b ob z => Heap.get?_push_of_some _ z
  obtain ⟨its, r, ht, hz⟩ := I5.tuple hx
  have hlen := r.length
  show wpAny (model X.prog X.w) X.A (subscriptTail e (.Slice none none (some (.UnaryOp .USub (.Constant (.int 1) k p1) p2)) p3) (.ref a) (.ref s4.heap.objs.size)) (EP X pins σ Q) X.xe { s4 with heap := s4.heap.push { cls := .type "slice", data := .fields #[vl, vu, vs] } }
  cases pl
  cases pu
  refine tail_any (ops := [.ref a, .ref s4.heap.objs.size]) ht.typeIs PyProof.Rows.slot_tuple_getitem.lookup ?_ (by with_unfolding_all rfl)
  refine getItem_tuple_rev ht (Heap.IsSliceOf.new _ .none .none vs) ps ?_ (by rw [List.size_toArray]; omega)
  refine ⟨.ref _, _, I5.laid (t' := s4.toks) (o := .tup xs.reverse) (fun b ob z => Heap.get?_push_of_some _ z) (Nat.le_refl _) ?_, rfl, q _ (I5.hok.fresh (Nat.le_refl _))⟩
  exact ⟨by rw [List.length_reverse]; exact hz, its.toArray.toList.reverse, by simpa using r.reverse, IsTup.new _ _⟩
end Hr

namespace Hr
open PySem PySem.Spec PyProof.Rows
/-! ### max(xs, default=d) -/
section
variable {prog : Program} {w : World} {A : Around} {R : Result → Shared → Prop} {I : Addr} {fp wr : List Addr} {n : Nat} {P : Nat → Value → Prop} {St : Nat → Heap → Prop} {kw : List (Str × Value)}
theorem max_loopK (W : Walks prog w A.in1 I fp wr n P St) (bt : Nat → Nat → Bool) (hcmp : CmpOf prog w A.in1 .Gt P bt) (S : Addr) (hSf : S ∉ fp) :
    ∀ (k j : Nat) (s : Shared) (vb : Value) (c : Nat), n - (j + 1) = k → j + 1 ≤ n → St (j + 1) s.heap → P (argBest bt j) vb →
    s.heap.get? S = some { cls := .type "list", dict := none, data := .seq #[vb, vb] c, slots := #[] } →
    (∀ v h' tk, P (argBest bt (n - 1)) v → (∀ b o, b ∉ wr → b ≠ S → s.heap.get? b = some o → h'.get? b = some o) → R (.ok (.ret v)) { s with heap := h', toks := tk }) →
    codeAny (model prog w) A (.builtin "max.loop" ⟨[.ref I, .none, .ref S], kw⟩) R s := by
  have hSw : S ∉ wr := fun h => hSf (W.sub _ h)
  have nm : (toString "max" ++ toString ".loop" : String) = "max.loop" := by decide
  intro k
  induction k with
  | zero =>
    intro j s vb c hk hj hst hPb hS hR
    have hin : j + 1 = n := by omega
    refine codeAny_builtin F.entry_max_loop ?_
    rw [Around.under_plainId F.plain_max_loop _]
    show wpAny _ A.in1 (seqItems? (.ref S) >>= _) _ _ s
    refine wpAny_bind (wpAny_seqItems hS rfl ?_)
    show wpAny _ A.in1 (tryCatch (pyNext (.ref I)) _ >>= _) _ _ s
    refine wpAny_bind (wpAny_tryCatch (W.done s _ _ (hin ▸ hst) fun h' tk hk' => ?_))
    have hS' := hk' S _ hSw hS
    show wpAny _ A.in1 (updateSeq S (fun _ => #[]) >>= _) _ _ _
    refine wpAny_bind ?_
    refine wpAny_updateSeq hS' rfl (wpAny_bind (wpAny_letGo (wpAny_pure ?_)))
    exact hR vb _ tk (by rw [← hin]; exact hPb) fun b o hbw hbS e => (Heap.get?_update_other _ _ (Ne.symm hbS)).trans (hk' b o hbw e)
  | succ k ih =>
    intro j s vb c hk hj hst hPb hS hR
    have hlt : j + 1 < n := by omega
    refine codeAny_builtin F.entry_max_loop ?_
    rw [Around.under_plainId F.plain_max_loop _]
    show wpAny _ A.in1 (seqItems? (.ref S) >>= _) _ _ s
    refine wpAny_bind (wpAny_seqItems hS rfl ?_)
    show wpAny _ A.in1 (tryCatch (pyNext (.ref I)) _ >>= _) _ _ s
    refine wpAny_bind (wpAny_tryCatch (W.item (j + 1) s _ _ hlt hst fun v h' tk hP hst' hk' => ?_))
    have hS' := hk' S _ hSw hS
    show wpAny _ A.in1 (tryCatch (holding [v, v] (richCompare .Gt v vb >>= _)) _ >>= _) _ _ _
    refine wpAny_bind (wpAny_tryCatch (wpAny_holding (wpAny_bind (hcmp (j + 1) (argBest bt j) v vb _ _ _ hP hPb ?_))))
    refine wpAny_bind (wpAny_holding (wpAny_truthy_bool ?_))
    refine wpAny_bind (wpAny_letGo (wpAny_pure ?_))
    cases hb : bt (j + 1) (argBest bt j) with
    | true =>
      simp only [if_true]
      refine wpAny_bind ?_
      refine wpAny_updateSeq hS' rfl (wpAny_bind (wpAny_letGo ?_))
      rw [nm]
      refine wpAny_pure ⟨plainId_quiet F.plain_max_loop _, ih (j + 1) _ v _ (by omega) hlt (W.frame _ _ _ hst' fun b hbf o e => ?_) (by simp only [argBest, hb, if_true]; exact hP) (Heap.get?_update_self _ hS' rfl)
        fun v' h'' tk'' hP' hk'' => ?_⟩
      · exact (Heap.get?_update_other _ _ (fun h : S = b => hSf (by rw [h]; exact hbf))).trans e
      · exact hR v' h'' tk'' hP' fun b o hbw hbS e => hk'' b o hbw hbS ((Heap.get?_update_other _ _ (Ne.symm hbS)).trans (hk' b o hbw e))
    | false =>
      simp only [Bool.false_eq_true, if_false]
      refine wpAny_bind (wpAny_letGo ?_)
      rw [nm]
      refine wpAny_pure ⟨plainId_quiet F.plain_max_loop _, ih (j + 1) _ vb c (by omega) hlt hst' (by simp only [argBest, hb, Bool.false_eq_true, if_false]; exact hPb) hS' fun v' h'' tk'' hP' hk'' => ?_⟩
      exact hR v' h'' tk'' hP' fun b o hbw hbS e => hk'' b o hbw hbS (hk' b o hbw e)
theorem max_firstK (W : Walks prog w A.in1 I fp wr n P St) (bt : Nat → Nat → Bool) (hcmp : CmpOf prog w A.in1 .Gt P bt) (S : Addr) (hSf : S ∉ fp) (hn : 0 < n) {s : Shared} {c : Nat} (hst : St 0 s.heap)
    (hS : s.heap.get? S = some { cls := .type "list", dict := none, data := .seq #[] c, slots := #[] })
    (hR : ∀ v h' tk, P (argBest bt (n - 1)) v → (∀ b o, b ∉ wr → b ≠ S → s.heap.get? b = some o → h'.get? b = some o) → R (.ok (.ret v)) { s with heap := h', toks := tk }) :
    codeAny (model prog w) A (.builtin "max.loop" ⟨[.ref I, .none, .ref S], kw⟩) R s := by
  have hSw : S ∉ wr := fun h => hSf (W.sub _ h)
  have nm : (toString "max" ++ toString ".loop" : String) = "max.loop" := by decide
  refine codeAny_builtin F.entry_max_loop ?_
  rw [Around.under_plainId F.plain_max_loop _]
  show wpAny _ A.in1 (seqItems? (.ref S) >>= _) _ _ s
  refine wpAny_bind (wpAny_seqItems hS rfl ?_)
  show wpAny _ A.in1 (tryCatch (pyNext (.ref I)) _ >>= _) _ _ s
  refine wpAny_bind (wpAny_tryCatch (W.item 0 s _ _ hn hst fun v h' tk hP hst' hk' => ?_))
  have hS' := hk' S _ hSw hS
  show wpAny _ A.in1 (updateSeq S (fun _ => #[v, v]) >>= _) _ _ _
  refine wpAny_bind ?_
  refine wpAny_updateSeq hS' rfl ?_
  rw [nm]
  refine wpAny_pure ⟨plainId_quiet F.plain_max_loop _, max_loopK W bt hcmp S hSf _ 0 _ v _ rfl hn (W.frame _ _ _ hst' fun b hbf o e => ?_) hP (Heap.get?_update_self _ hS' rfl) fun v' h'' tk'' hP' hk'' => ?_⟩
  · exact (Heap.get?_update_other _ _ (fun h : S = b => hSf (by rw [h]; exact hbf))).trans e
  · exact hR v' h'' tk'' hP' fun b o hbw hbS e => hk'' b o hbw hbS ((Heap.get?_update_other _ _ (Ne.symm hbS)).trans (hk' b o hbw e))
/-- nothing there: the default -/
theorem max_noneK {d : Value} (W : Walks prog w A.in1 I fp wr 0 P St) (S : Addr) (hSf : S ∉ fp) {s : Shared} {c : Nat} (hst : St 0 s.heap)
    (hS : s.heap.get? S = some { cls := .type "list", dict := none, data := .seq #[] c, slots := #[] })
    (hR : ∀ h' tk, (∀ b o, b ∉ wr → b ≠ S → s.heap.get? b = some o → h'.get? b = some o) → R (.ok (.ret d)) { s with heap := h', toks := tk }) :
    codeAny (model prog w) A (.builtin "max.loop" ⟨[.ref I, .none, .ref S], [(Str.ofString "default", d)]⟩) R s := by
  refine codeAny_builtin F.entry_max_loop ?_
  rw [Around.under_plainId F.plain_max_loop _]
  show wpAny _ A.in1 (seqItems? (.ref S) >>= _) _ _ s
  refine wpAny_bind (wpAny_seqItems hS rfl ?_)
  show wpAny _ A.in1 (tryCatch (pyNext (.ref I)) _ >>= _) _ _ s
  refine wpAny_bind (wpAny_tryCatch (W.done s _ _ hst fun h' tk hk' => ?_))
  exact wpAny_bind (wpAny_rule (wpAny_pure (hR h' tk fun b o hbw _ e => hk' b o hbw e)))
end
theorem max_default_args (a v : Value) : argsOk "max" ⟨[a], [(Str.ofString "default", v)]⟩ := by unfold argsOk; kernel_rfl
section
variable {prog : Program} {w : World} {A : Around} {E : Value → Shared → Prop} {s : Shared}
theorem call_maxD {l : Addr} {xs : Array (Int × Tok)} {d : Value} {Q : Value → Shared → Prop} (hh : A.handled = none) (hl : s.heap.IsList l (intItems xs))
    (h : ∀ v h' tk, (xs.size = 0 ∧ v = d ∨ 0 < xs.size ∧ (intItems xs)[argBest (fun i j => decide (numAt xs i > numAt xs j)) (xs.size - 1)]? = some v) → (∀ b o, s.heap.get? b = some o → h'.get? b = some o) → Q v { s with heap := h', toks := tk }) :
    wpAny (model prog w) A (call (.builtin "max") [.ref l] [(Str.ofString "default", d)]) Q E s := by
  have nm : (toString "max" ++ toString ".loop" : String) = "max.loop" := by decide
  refine PyProof.Rows.kmk_tree F.kind_max F.plain_max F.entry_max (max_default_args _ _) ?_
  show wpAny _ A.in1 (Builtin.Builtins.bindParams "max" ["key", "default"] 0 ⟨[], [(Str.ofString "default", d)]⟩ >>= _) _ _ s
  refine wpAny_bind (wpAny_of_eq (show Builtin.Builtins.bindParams "max" ["key", "default"] 0 ⟨[], [(Str.ofString "default", d)]⟩ = pure [none, some d] from rfl) ?_)
  refine wpAny_bind (wpAny_pure ?_)
  refine wpAny_bind (iter_intList hl fun s₂ e st hfp hlI => ?_)
  subst e
  refine wpAny_bind (wpAny_newObj_type ?_)
  have W := Walks.list (prog := prog) (w := w) (A := A.in1) hh s.heap.objs.size l hlI (intItems xs)
  have hSf : (s.heap.push { cls := .type "list_iterator", data := .fields #[.ref l, .int 0 0] }).objs.size ∉ [s.heap.objs.size, l] := fun hm => Nat.lt_irrefl _ (hfp _ hm)
  have hz : (intItems xs).size = xs.size := by simp [intItems]
  rw [nm]
  refine wpAny_pure ⟨plainId_quiet F.plain_max_loop _, ?_⟩
  have fin : ∀ v h' tk, (xs.size = 0 ∧ v = d ∨ 0 < xs.size ∧ (intItems xs)[argBest (fun i j => decide (numAt xs i > numAt xs j)) (xs.size - 1)]? = some v) →
      (∀ b o, b ∉ [s.heap.objs.size] → b ≠ (s.heap.push { cls := .type "list_iterator", data := .fields #[.ref l, .int 0 0] }).objs.size →
        ((s.heap.push { cls := .type "list_iterator", data := .fields #[.ref l, .int 0 0] }).push { cls := .type "list", data := .seq #[] }).get? b = some o → h'.get? b = some o) →
      wants Q E (.ok (.ret v)) { s with heap := h', toks := tk } := fun v h' tk hv hk => by
    refine h v h' tk hv (old_kept (l := l) fun b o hb e => ?_)
    exact hk b o hb (Nat.ne_of_lt (Heap.lt_size e)) (Heap.get?_push_of_some _ e)
  by_cases hn : 0 < xs.size
  · refine max_firstK W _ (CmpOf.ints_gt (numAt xs) (fun _ _ => intItems_at)) _ hSf (by rw [hz]; exact hn) (W.frame _ _ _ st fun b _ o e => Heap.get?_push_of_some _ e) (Heap.get?_push_size _ rfl) fun v h' tk hP hk => ?_
    exact fin v h' tk (.inr ⟨hn, by rw [hz] at hP; exact hP⟩) hk
  · have hn0 : xs.size = 0 := by omega
    have W0 : Walks prog w A.in1 s.heap.objs.size [s.heap.objs.size, l] [s.heap.objs.size] 0 (fun i v => (intItems xs)[i]? = some v) (fun i h => h.IsListIter s.heap.objs.size l i ∧ h.IsList l (intItems xs)) := by
      have W' := W
      rw [hz, hn0] at W'
      exact W'
    refine max_noneK W0 _ hSf (W.frame _ _ _ st fun b _ o e => Heap.get?_push_of_some _ e) (Heap.get?_push_size _ rfl) fun h' tk hk => ?_
    exact fin d h' tk (.inl ⟨hn0, rfl⟩) hk
end
end Hr

namespace Hr
open PySem PySem.Spec PyProof.Rows L2
def rMaxD (K : PySem.W.Frag) : List V → List V → Hp → VK → Prop := fun vs zs H Q => ∃ (a : Addr) (ns : List Int) (d : Int), vs = [.ref a] ∧ zs = [.int d] ∧ SqL K H a (ns.map V.int) ∧
  ∀ m, (ns = [] → m = d) → (ns ≠ [] → m ∈ ns ∧ ∀ k ∈ ns, k ≤ m) → Q (.int m) H
theorem call_maxDK {X : Cx} (hc : X.calm = true) : CallRK X (.builtin "max") [Str.ofString "default"] (rMaxD X.K) := by
  intro pins s σ H xs zs us ws Q I r1 r2 h
  obtain ⟨a, ns, d, rfl, rfl, hs, q⟩ := h
  obtain ⟨its, rv, pl, hz⟩ := I.list hs
  rw [Vals.ref1 r1]
  obtain ⟨wd, rfl, rd⟩ := vals1 r2
  obtain ⟨td, rfl⟩ := rd
  have hi : IntsAre its ns := intsAre_of rv
  obtain ⟨ps, e⟩ := hi.allInts.items
  have hns : ns = ps.toList.map (·.1) := by rw [← hi.numsOf, ← nums_intItems, ← e]
  have hl := pl.isList
  rw [e] at hl
  show wpAny (model X.prog X.w) X.A (call (.builtin "max") [.ref a] [(Str.ofString "default", .int d td)]) (EP X pins σ Q) X.xe s
  refine call_maxD (I.ok.hd hc) hl fun v h' tk hv hk => ?_
  have I2 : Inv X pins σ H { s with heap := h', toks := tk } := I.kept fun b o z => hk b o z
  rcases hv with ⟨h0, rfl⟩ | ⟨hp, hv⟩
  · have hn0 : ns = [] := by
      rw [hns, List.map_eq_nil_iff]
      exact List.eq_nil_of_length_eq_zero (by rw [Array.length_toList]; exact h0)
    exact ⟨.int d, H, I2, ⟨_, rfl⟩, q d (fun _ => rfl) (fun z => absurd hn0 z)⟩
  · obtain ⟨t, rfl⟩ := intItems_at hv
    obtain ⟨h1, h2⟩ := argBest_gt (numAt ps) (ps.size - 1)
    refine ⟨.int _, H, I2, ⟨_, rfl⟩, q _ (fun z => ?_) fun _ => ⟨?_, fun k hk' => ?_⟩⟩
    · rw [hns, List.map_eq_nil_iff] at z
      have z2 : ps.size = 0 := by rw [← Array.length_toList, z]; rfl
      omega
    · rw [hns, numAt_eq]; exact getD_mem (by rw [List.length_map, Array.length_toList]; omega)
    · rw [hns] at hk'
      obtain ⟨j, hj, rfl⟩ := mem_getD hk'
      rw [List.length_map, Array.length_toList] at hj
      rw [← numAt_eq]; exact h2 j (by omega)
/-! ### plain data with atoms -/
inductive D where
  | non | bl (b : Bool) | int (i : Int) | str (s : Str) | tup (ds : List D) | lst (ds : List D) | dct | atom (k : Str) (ds : List D)
mutual
def rank : D → Nat
  | .tup ds => rankL ds
  | .atom k ds => if k = "seal" ∨ k = "page" then 1 else rankL ds + 1
  | _ => 0
def rankL : List D → Nat
  | [] => 0
  | d :: ds => max (rank d) (rankL ds)
end
mutual
/-- how many parts there are, those in atoms too -/
def sz : D → Nat
  | .tup ds => szL ds + 1
  | .lst ds => szL ds + 1
  | .atom _ ds => szL ds + 1
  | _ => 1
def szL : List D → Nat
  | [] => 0
  | d :: ds => sz d + szL ds
end
/-- the fields of an atom -/
def atF (k : Str) (t : Addr) (r : Nat) : List (Str × V) := [("kind", .str k), ("term", .ref t), ("rank", .int (r : Int)), ("_stripped", .non)]
mutual
inductive Is (C : Addr) (H : Hp) : V → D → Prop
  | non : Is C H .non .non
  | bl (b : Bool) : Is C H (.bl b) (.bl b)
  | int (i : Int) : Is C H (.int i) (.int i)
  | str (s : Str) : Is C H (.str s) (.str s)
  | tup {a : Addr} {xs : List V} {ds : List D} (h : H a = some (.tup xs)) (t : IsA C H xs ds) : Is C H (.ref a) (.tup ds)
  | lst {a : Addr} {xs : List V} {ds : List D} (h : H a = some (.lst xs)) (t : IsA C H xs ds) : Is C H (.ref a) (.lst ds)
  | dct {a : Addr} {kvs : List (Key × V)} (h : H a = some (.dK kvs)) : Is C H (.ref a) .dct
  | atom {a dx t : Addr} {k : Str} {xs : List V} {ds : List D} (h : H a = some (.ins C dx (atF k t (rank (.atom k ds))))) (h2 : H t = some (.tup xs)) (t : IsA C H xs ds) : Is C H (.ref a) (.atom k ds)
inductive IsA (C : Addr) (H : Hp) : List V → List D → Prop
  | nil : IsA C H [] []
  | cons {x : V} {xs : List V} {d : D} {ds : List D} (h : Is C H x d) (t : IsA C H xs ds) : IsA C H (x :: xs) (d :: ds)
end
mutual
theorem Is.same {C : Addr} {H H' : Hp} (e : Same H H') : ∀ {x : V} {d : D}, Is C H x d → Is C H' x d
  | _, _, .non => .non
  | _, _, .bl b => .bl b
  | _, _, .int i => .int i
  | _, _, .str s => .str s
  | _, _, .tup h t => .tup (e _ _ h) (IsA.same e t)
  | _, _, .lst h t => .lst (e _ _ h) (IsA.same e t)
  | _, _, .dct h => .dct (e _ _ h)
  | _, _, .atom h h2 t => .atom (e _ _ h) (e _ _ h2) (IsA.same e t)
theorem IsA.same {C : Addr} {H H' : Hp} (e : Same H H') : ∀ {xs : List V} {ds : List D}, IsA C H xs ds → IsA C H' xs ds
  | _, _, .nil => .nil
  | _, _, .cons h t => .cons (Is.same e h) (IsA.same e t)
end
theorem IsA.len {C : Addr} {H : Hp} : ∀ {xs : List V} {ds : List D}, IsA C H xs ds → xs.length = ds.length
  | _, _, .nil => rfl
  | _, _, .cons _ t => congrArg (· + 1) t.len
theorem IsA.at {C : Addr} {H : Hp} : ∀ {xs : List V} {ds : List D} {i : Nat} {x : V}, IsA C H xs ds → xs[i]? = some x → ∃ d, ds[i]? = some d ∧ Is C H x d
  | _, _, _, _, .nil, h => by simp at h
  | _, _, 0, _, .cons h _, e => by simp at e; subst e; exact ⟨_, rfl, h⟩
  | _, _, i + 1, _, .cons _ t, e => by
    obtain ⟨d, h1, h2⟩ := IsA.at (i := i) t (by simpa using e)
    exact ⟨d, by simpa using h1, h2⟩
theorem IsA.get {C : Addr} {H : Hp} : ∀ {xs : List V} {ds : List D} {i : Nat} {d : D}, IsA C H xs ds → ds[i]? = some d → ∃ x, xs[i]? = some x ∧ Is C H x d
  | _, _, _, _, .nil, h => by simp at h
  | _, _, 0, _, .cons h _, e => by simp at e; subst e; exact ⟨_, rfl, h⟩
  | _, _, i + 1, _, .cons _ t, e => by
    obtain ⟨d, h1, h2⟩ := IsA.get (i := i) t (by simpa using e)
    exact ⟨d, by simpa using h1, h2⟩
theorem IsA.app {C : Addr} {H : Hp} : ∀ {xs ys : List V} {ds es : List D}, IsA C H xs ds → IsA C H ys es → IsA C H (xs ++ ys) (ds ++ es)
  | _, _, _, _, .nil, t => t
  | _, _, _, _, .cons h u, t => .cons h (u.app t)
theorem IsA.rev {C : Addr} {H : Hp} : ∀ {xs : List V} {ds : List D}, IsA C H xs ds → IsA C H xs.reverse ds.reverse
  | _, _, .nil => .nil
  | _, _, .cons h t => by
    rw [List.reverse_cons, List.reverse_cons]
    exact t.rev.app (.cons h .nil)
theorem IsA.concat {C : Addr} {H : Hp} : ∀ {xs : List V} {ds : List D} {e : D}, IsA C H xs (ds.concat e) → ∃ ys y, xs = ys ++ [y] ∧ IsA C H ys ds ∧ Is C H y e
  | _, [], _, .cons h .nil => ⟨[], _, rfl, .nil, h⟩
  | _, d :: ds, e, .cons h t => by
    obtain ⟨ys, y, e1, h1, h2⟩ := IsA.concat (ds := ds) (e := e) t
    exact ⟨_ :: ys, y, by rw [e1]; rfl, .cons h h1, h2⟩
theorem rankL_app : ∀ (a b : List D), rankL (a ++ b) = max (rankL a) (rankL b)
  | [], b => by simp [rankL]
  | x :: a, b => by rw [List.cons_append]; simp only [rankL]; rw [rankL_app a b]; omega
theorem szL_app : ∀ (a b : List D), szL (a ++ b) = szL a + szL b
  | [], b => by simp [szL]
  | x :: a, b => by rw [List.cons_append]; simp only [szL]; rw [szL_app a b]; omega
theorem szL_rev : ∀ (a : List D), szL a.reverse = szL a
  | [] => rfl
  | x :: a => by rw [List.reverse_cons, szL_app, szL_rev a]; simp only [szL]; omega
theorem sz_pos (d : D) : 1 ≤ sz d := by cases d <;> simp [sz]
theorem len_szL : ∀ (a : List D), a.length ≤ szL a
  | [] => Nat.le_refl _
  | x :: a => by
    have := len_szL a
    have := sz_pos x
    simp only [szL, List.length_cons]; omega
/-! ### kinds of values -/
def kyV (C : Addr) : D → V
  | .non => .ty "NoneType" | .bl _ => .ty "bool" | .int _ => .ty "int" | .str _ => .ty "str" | .tup _ => .ty "tuple" | .lst _ => .ty "list" | .dct => .ty "dict" | .atom _ _ => .ref C
def kyU (C : Addr) : D → Value
  | .non => .type "NoneType" | .bl _ => .type "bool" | .int _ => .type "int" | .str _ => .type "str" | .tup _ => .type "tuple" | .lst _ => .type "list" | .dct => .type "dict" | .atom _ _ => .ref C
def rTyA (C : Addr) : List V → Hp → VK → Prop := fun xs H Q => ∃ x d, xs = [x] ∧ Is C H x d ∧ Q (kyV C d) H
/-- what is known of the class at C -/
structure Cl (K : PySem.W.Frag) (C : Addr) : Prop where
  cl : Cls K C
  ha : PySem.W.findIn K (.ref C) "__class__" = some (some (.builtin "object.__class__"))
  hn : PySem.W.specialIn K (.builtin "object.__class__") "__get__" = some (some (.builtin "getset_descriptor.__get__"))
  htk : PySem.W.takesIn K (.builtin "object.__class__") = some true
  hm : PySem.W.mroIn K C (.type "object") = some true
  me : PySem.W.kitOne K (.ref C) (.ref C) = some true
  mi : PySem.W.makesIn K C = true
  nK : NoAttr K C "kind"
  nT : NoAttr K C "term"
  nR : NoAttr K C "rank"
  nS : NoAttr K C "_stripped"
section
variable {X : Cx} {C : Addr}
theorem Is.tyX {K : PySem.W.Frag} {H : Hp} (T : Cl K C) {x : V} {d : D} (h : Is C H x d) : TyX K H x (kyU C d) := by
  cases h with
  | non => exact .base .non
  | bl b => exact .base (.bl b)
  | int i => exact .base (.int i)
  | str s => exact .base (.str s)
  | tup h _ => exact .base (.tup h)
  | lst h _ => exact .base (.lst h)
  | dct h => exact .base (.dK h)
  | atom h _ _ => exact .base (.ins h T.cl T.ha T.hn T.htk T.hm)
theorem call_typeA : CallR X (.type "type") (rTyA C) := fun pins s σ H xs us Q I r h => by
  obtain ⟨x, d, e, t, q⟩ := h
  cases t with
  | non => exact call_type1 pins s σ H xs us Q I r ⟨_, _, e, .non, q⟩
  | bl b => exact call_type1 pins s σ H xs us Q I r ⟨_, _, e, .bl b, q⟩
  | int i => exact call_type1 pins s σ H xs us Q I r ⟨_, _, e, .int i, q⟩
  | str z => exact call_type1 pins s σ H xs us Q I r ⟨_, _, e, .str z, q⟩
  | tup h _ => exact call_type1 pins s σ H xs us Q I r ⟨_, _, e, .tup (SqT.of h), q⟩
  | lst h _ => exact call_type1 pins s σ H xs us Q I r ⟨_, _, e, .lst (SqL.of h), q⟩
  | dct h => exact call_type1 pins s σ H xs us Q I r ⟨_, _, e, .dK h, q⟩
  | atom h _ _ => exact cr_type pins s σ H xs us Q I r ⟨_, _, _, _, e, h, q⟩
/-- a type is a type: of built-in ones, and of the class at C -/
def TyOk (C : Addr) (x : V) : Prop := (∃ n, x = .ty n) ∨ x = .ref C
def rIsTyA (C : Addr) : R2 := fun x y H Q => TyOk C x ∧ TyOk C y ∧ Q (.bl (decide (x = y))) H
def rIsNotTyA (C : Addr) : R2 := fun x y H Q => TyOk C x ∧ TyOk C y ∧ Q (.bl (!decide (x = y))) H
theorem kyV_ok (d : D) : TyOk C (kyV C d) := by cases d <;> first | exact .inl ⟨_, rfl⟩ | exact .inr rfl
theorem op_isTyA : OpR X (compareOp .Is) (rIsTyA C) := by
  intro pins s σ H x y v u Q I rx ry h
  obtain ⟨hx, hy, q⟩ := h
  rcases hx with ⟨m, rfl⟩ | rfl <;> rcases hy with ⟨n, rfl⟩ | rfl
  · exact op_isTy pins s σ H _ _ v u Q I rx ry ⟨m, n, rfl, rfl, by simpa using q⟩
  · cases (show v = Value.type m from rx)
    cases (show u = Value.ref _ from ry)
    exact wpAny_is_other rfl (fun z => nomatch z) ⟨.bl false, H, I, rfl, by simpa using q⟩
  · cases (show v = Value.ref _ from rx)
    cases (show u = Value.type n from ry)
    exact wpAny_is_other rfl (fun z => nomatch z) ⟨.bl false, H, I, rfl, by simpa using q⟩
  · exact op_is_cls pins s σ H _ _ v u Q I rx ry ⟨C, C, rfl, rfl, .inl rfl, by simpa using q⟩
theorem op_isNotTyA : OpR X (compareOp .IsNot) (rIsNotTyA C) := by
  intro pins s σ H x y v u Q I rx ry h
  obtain ⟨hx, hy, q⟩ := h
  rcases hx with ⟨m, rfl⟩ | rfl <;> rcases hy with ⟨n, rfl⟩ | rfl
  · exact op_isNotTy pins s σ H _ _ v u Q I rx ry ⟨m, n, rfl, rfl, by simpa using q⟩
  · cases (show v = Value.type m from rx)
    cases (show u = Value.ref _ from ry)
    exact wpAny_isNot_other rfl (fun z => nomatch z) ⟨.bl true, H, I, rfl, by simpa using q⟩
  · cases (show v = Value.ref _ from rx)
    cases (show u = Value.type n from ry)
    exact wpAny_isNot_other rfl (fun z => nomatch z) ⟨.bl true, H, I, rfl, by simpa using q⟩
  · exact op_isnot_cls pins s σ H _ _ v u Q I rx ry ⟨C, C, rfl, rfl, .inl rfl, by simpa using q⟩
/-- isinstance(x, c): c a built-in type or the class at C -/
def rIsiA (K : PySem.W.Frag) (C : Addr) : List V → Hp → VK → Prop := fun xs H Q => ∃ x d c u b, xs = [x, c] ∧ Is C H x d ∧ ClsV c u ∧ PySem.W.kitOne K (kyU C d) u = some b ∧ Q (.bl b) H
theorem call_isiA (T : Cl X.K C) : CallR X (.builtin "isinstance") (rIsiA X.K C) := fun pins s σ H xs us Q I r h => by
  obtain ⟨x, d, c, u, b, e, t, k, kt, q⟩ := h
  exact call_isi pins s σ H xs us Q I r ⟨x, c, _, _, b, e, k, t.tyX T, kt, q⟩
end
mutual
theorem Is.uniq {C : Addr} {H : Hp} : ∀ {x : V} {d e : D}, Is C H x d → Is C H x e → d = e
  | _, _, _, .non, .non => rfl
  | _, _, _, .bl _, .bl _ => rfl
  | _, _, _, .int _, .int _ => rfl
  | _, _, _, .str _, .str _ => rfl
  | _, _, _, .tup h t, g => by
    cases g with
    | tup h' t' =>
      rw [h] at h'
      cases h'
      rw [IsA.uniq t t']
    | lst h' _ => rw [h] at h'; cases h'
    | dct h' => rw [h] at h'; cases h'
    | atom h' _ _ => rw [h] at h'; cases h'
  | _, _, _, .lst h t, g => by
    cases g with
    | lst h' t' =>
      rw [h] at h'
      cases h'
      rw [IsA.uniq t t']
    | tup h' _ => rw [h] at h'; cases h'
    | dct h' => rw [h] at h'; cases h'
    | atom h' _ _ => rw [h] at h'; cases h'
  | _, _, _, .dct h, g => by
    cases g with
    | dct h' => rfl
    | tup h' _ => rw [h] at h'; cases h'
    | lst h' _ => rw [h] at h'; cases h'
    | atom h' _ _ => rw [h] at h'; cases h'
  | _, _, _, .atom h h2 t, g => by
    cases g with
    | tup h' _ => rw [h] at h'; cases h'
    | lst h' _ => rw [h] at h'; cases h'
    | dct h' => rw [h] at h'; cases h'
    | atom h' h2' t' =>
      have e := Option.some.inj (h.symm.trans h')
      unfold atF at e
      injection e with e1 e2 e3
      injection e3 with e4 e5
      injection e5 with e6 e7
      have ek := V.str.inj (congrArg Prod.snd e4)
      have et := V.ref.inj (congrArg Prod.snd e6)
      subst ek
      subst et
      rw [h2] at h2'
      cases h2'
      rw [IsA.uniq t t']
theorem IsA.uniq {C : Addr} {H : Hp} : ∀ {xs : List V} {ds es : List D}, IsA C H xs ds → IsA C H xs es → ds = es
  | _, _, _, .nil, .nil => rfl
  | _, _, _, .cons h t, .cons h' t' => by rw [Is.uniq h h', IsA.uniq t t']
end
end Hr

namespace Hr
open PySem PySem.SeqAt PyProof.Rows
open AutoSeq1 (wpAny_loadPart')
open MeetsSeq MeetsSeq2 MeetsSeq3 SeqRoads2
theorem ext_tup (l : Addr) (items : Array Value) (n : Nat) (b : Addr) (items2 : Array Value) (n2 : Nat) (dd : Option Addr) (sl : Array (Option Value)) (hs0 : ¬(!items.isEmpty && Builtin.List.listTooLong (items.size + items2.size)) = true) (hs1 : items.size ≤ sizeLine) (hs2 : items.size + items2.size ≤ sizeLine + 1) :
    Meets (Builtin.«list.extend» ⟨[.ref l, .ref b], []⟩) (fun _ R s => s.heap.get? l = some { cls := .type "list", dict := none, data := .seq items n, slots := #[] } ∧ s.heap.get? b = some { cls := .type "tuple", dict := dd, data := .seq items2 n2, slots := sl } ∧
      R (.ok (.ret Value.none)) { s with heap := s.heap.update l (Obj.mapSeq fun x => x ++ items2), toks := s.toks }) :=
  .of_wp fun prog w A R s h => by
    obtain ⟨hp, g, d, tk, os⟩ := s
    obtain ⟨hl, hb, h⟩ := h
    have g1 := AutoSeq1.sub_tuple_tuple
    have g2 := AutoSeq1.sub_list_list
    have g3 := AutoSeq1.sub_tuple_list
    have g4 := AutoSeq1.sub_list_tuple
    have hz' : (items ++ items2).size ≤ sizeLine + 1 := by rw [Array.size_append]; exact hs2
    wp_walk using (wpAny_updateSeq hl rfl (hz := hs1) (_hz' := hz')), wpAny_loadPart' hl, wpAny_loadPart' hb
    exact ⟨_, rfl, h⟩
end Hr
namespace Hr
open PySem PySem.Spec PyProof.Rows L2
/-- xs.extend(t), t a tuple -/
def rExtT : V → List V → Hp → VK → Prop := fun x vs H Q => ∃ l b xs zs, x = .ref l ∧ vs = [.ref b] ∧ H l = some (.lst xs) ∧ H b = some (.tup zs) ∧ xs.length + zs.length ≤ sizeLine ∧ Q .non (upd H l (.lst (xs ++ zs)))
theorem mt_extendT {X : Cx} : MtM X "list.extend" rExtT := by
  intro pins s σ H x vs v us Q I rx rv h
  obtain ⟨l, b, xs, zs, rfl, rfl, hH, hB, hz, q⟩ := h
  cases rx
  obtain ⟨u, rfl, ru⟩ := rv.one
  cases ru
  obtain ⟨z, its, n, r, hl, e⟩ := I.lstM hH
  obtain ⟨its2, r2, ⟨⟨oc, od, dt, sl⟩, e2, hc2, n2, hd2⟩, hz2⟩ := I.tuple (SqT.of hB)
  simp only at hc2 hd2
  subst hc2 hd2
  have hl2 := r2.length
  have hsz : its.toArray.size + its2.toArray.size ≤ sizeLine := by rw [List.size_toArray, List.size_toArray]; omega
  have hlong : ¬ (!its.toArray.isEmpty && Builtin.List.listTooLong (its.toArray.size + its2.toArray.size)) = true := by
    rw [notLongL hsz, Bool.and_false]
    exact Bool.false_ne_true
  refine call_meets F.slot_list_extend ⟨_, e, rfl⟩ F.entry_list_extend (F.args_list_extend_2 _ _)
    (ext_tup l its.toArray n b its2.toArray n2 od sl hlong (by rw [List.size_toArray]; omega) (by omega)) ⟨e, e2, ?_⟩
  refine ⟨.non, _, I.lset (its' := its ++ its2) hH e (by simp) (r.append r2) ?_, rfl, q⟩
  rw [List.length_append]
  omega
end Hr

namespace Hc
open PySem PySem.Spec PyProof.Rows L2 Hr
def top (i : Nat) : Stmt := PySem.Challenge.pw_hermitcell_k27_tokens_of_cores.main.body.getD i (.Pass ⟨0, 0, 0, 0⟩)
theorem bt_type : bootBuiltins "type" = some (.type "type") := by decide +kernel
theorem bt_int : bootBuiltins "int" = some (.type "int") := by decide +kernel
theorem bt_str : bootBuiltins "str" = some (.type "str") := by decide +kernel
theorem bt_bool : bootBuiltins "bool" = some (.type "bool") := by decide +kernel
theorem bt_tuple : bootBuiltins "tuple" = some (.type "tuple") := by decide +kernel
theorem bt_list : bootBuiltins "list" = some (.type "list") := by decide +kernel
theorem bt_range : bootBuiltins "range" = some (.type "range") := by decide +kernel
theorem bt_zip : bootBuiltins "zip" = some (.type "zip") := by decide +kernel
theorem bt_len : bootBuiltins "len" = some (.builtin "len") := by decide +kernel
theorem bt_all : bootBuiltins "all" = some (.builtin "all") := by decide +kernel
theorem bt_max : bootBuiltins "max" = some (.builtin "max") := by decide +kernel
theorem bt_isinstance : bootBuiltins "isinstance" = some (.builtin "isinstance") := by decide +kernel
theorem bt_abs : bootBuiltins "abs" = some (.builtin "abs") := by decide +kernel
/-- a tuple of texts in the written part -/
def KTup (K : PySem.W.Frag) (a : Addr) (ts : List Str) : Prop := ∀ H : Hp, SqT K H a (ts.map V.str)
/-- what the top has -/
structure Txt (K : PySem.W.Frag) (mg : Str → Option Value) (w : World) (C : Addr) : Prop where
  cl : Cl K C
  g_Atom : mg "Atom" = some (.ref C)
  z_type : mg "type" = none
  z_int : mg "int" = none
  z_str : mg "str" = none
  z_bool : mg "bool" = none
  z_tuple : mg "tuple" = none
  z_list : mg "list" = none
  z_range : mg "range" = none
  z_zip : mg "zip" = none
  z_len : mg "len" = none
  z_all : mg "all" = none
  z_max : mg "max" = none
  z_isinstance : mg "isinstance" = none
  z_abs : mg "abs" = none
  c_LEAST : ∃ u, mg "LEAST" = some u ∧ RelV (.int (-2147483648)) u
  c_GREATEST : ∃ u, mg "GREATEST" = some u ∧ RelV (.int (2147483647)) u
  c_MOST_CHARACTERS : ∃ u, mg "MOST_CHARACTERS" = some u ∧ RelV (.int (24)) u
  c_MOST_DEEP : ∃ u, mg "MOST_DEEP" = some u ∧ RelV (.int (40)) u
  c_MOST_RANK : ∃ u, mg "MOST_RANK" = some u ∧ RelV (.int (40)) u
  c_MOST_RANK_HOST : ∃ u, mg "MOST_RANK_HOST" = some u ∧ RelV (.int (36)) u
  c_GRANULES : ∃ u, mg "GRANULES" = some u ∧ RelV (.int (24)) u
  c_WORDS : ∃ u, mg "WORDS" = some u ∧ RelV (.int (4)) u
  c_PAGES : ∃ u, mg "PAGES" = some u ∧ RelV (.int (16)) u
  c__MEASURE : ∃ u, mg "_MEASURE" = some u ∧ RelV (.int (2)) u
  forms : ∃ Fo t1 t2 t3 t4 t5, (∃ u, mg "_FORMS" = some u ∧ RelV (.ref Fo) u) ∧ (∃ es n, KDict K w Fo es n) ∧
    KDct K w Fo "token" (.ref t1) ∧ KDct K w Fo "challenge" (.ref t2) ∧ KDct K w Fo "seal" (.ref t3) ∧ KDct K w Fo "page" (.ref t4) ∧ KDct K w Fo "ticket" (.ref t5) ∧ PySem.W.nsIn K Fo "key" = some none ∧
    KTup K t1 ["text", "tuple", "word"] ∧ KTup K t2 ["text", "number"] ∧ KTup K t3 ["text", "number", "number", "hidden"] ∧ KTup K t4 ["text", "number", "number", "hidden"] ∧ KTup K t5 ["text", "number", "text", "tuple", "pages", "tuple"]
  kit : ∀ (d : D) (n : String), n ∈ ["int", "str", "tuple", "bool", "list", "dict"] → PySem.W.kitOne K (kyU C d) (.type n) = some (match d with | .int _ => n == "int" | .bl _ => n == "int" || n == "bool" | .str _ => n == "str" | .tup _ => n == "tuple" | .lst _ => n == "list" | .dct => n == "dict" | _ => false)
  kitC : ∀ d : D, PySem.W.kitOne K (kyU C d) (.ref C) = some (match d with | .atom _ _ => true | _ => false)
end Hc

namespace Hc
open PySem PySem.Spec PyProof.Rows L2 Hr
theorem ifT {p A B : Prop} [Decidable p] (hp : p) (h : A) : if decide p = true then A else B := by
  rw [decide_eq_true hp]; exact iteT h
theorem ifF {p A B : Prop} [Decidable p] (hp : ¬ p) (h : B) : if decide p = true then A else B := by
  rw [decide_eq_false hp]; exact iteF h
theorem bT {b : Bool} {A B : Prop} (hb : b = true) (h : A) : if b = true then A else B := by
  rw [hb]; exact iteT h
theorem bF {b : Bool} {A B : Prop} (hb : b = false) (h : B) : if b = true then A else B := by
  rw [hb]; exact iteF h
theorem bcase {b : Bool} {A B : Prop} (h1 : b = true → A) (h2 : b = false → B) : if b = true then A else B := by
  cases b with
  | true => exact iteT (h1 rfl)
  | false => exact iteF (h2 rfl)
/-- a comprehension without a test -/
theorem yes {σ : L2.St} {H : Hp} {A B : Hp → Prop} (h : A H) : tYes σ H fun b H3 => if b = true then A H3 else B H3 := by
  show (if true = true then A H else B H)
  exact iteT h
theorem same_new {q : Addr} {H : Hp} {o : HO} (h : H q = none) : Same H (L2.upd H q o) := fun c x e => by rw [upd_ne (ne_of_none e h)]; exact e
theorem sfree {H H' : Hp} (e : Same H H') {p : Addr} (h : H' p = none) : H p = none := e.free h
/-! ### what the defs tell -/
def numOk (i : Int) : Bool := decide (-2147483648 ≤ i) && decide (i ≤ 2147483647)
def isNum : D → Bool | .int i => numOk i | _ => false
def sgn (c : Nat) : Bool := decide (32 ≤ c) && decide (c ≤ 126)
def txtOk (s : Str) : Bool := decide (s.length ≤ 24) && s.cps.toList.all sgn
def isTxt : D → Bool | .str s => txtOk s | _ => false
/-- one value is asked; new objects may be made -/
def spB (C : Addr) (ok : D → Prop) (f : D → Bool) : Sp := fun vs H Q _ => ∃ x d, vs = [x] ∧ Is C H x d ∧ ok d ∧ ∀ H', Same H H' → Q (.bl (f d)) H'
theorem kyV_int {C : Addr} {d : D} : (kyV C d = .ty "int") ↔ ∃ i, d = .int i := by cases d <;> simp [kyV]
theorem kyV_str {C : Addr} {d : D} : (kyV C d = .ty "str") ↔ ∃ i, d = .str i := by cases d <;> simp [kyV]
theorem kyV_tup {C : Addr} {d : D} : (kyV C d = .ty "tuple") ↔ ∃ i, d = .tup i := by cases d <;> simp [kyV]
theorem kyV_atom {C : Addr} {d : D} : (kyV C d = .ref C) ↔ ∃ k i, d = .atom k i := by cases d <;> simp [kyV]
section
variable {P : Program} {w : World} {K : PySem.W.Frag} {mg : Str → Option Value} {base : Heap} {f : Addr} {fd : FuncData} {C : Addr}
abbrev s_is_number : Stmt := top 12
theorem sc_is_number : FnScope ["value"] ["value"] (C8.fnScope s_is_number) := C8.fnScope_by (by decide +kernel)
theorem ok_is_number (F : C8.Def K mg "is_number" s_is_number f fd) (b : Binds K fd ["value"] []) (T : Txt K mg w C) : C8.Cal P w K mg base 1 "is_number" (spB C (fun _ => True) isNum) [] := by
  refine C8.cal0 F b .nil sc_is_number (fun vs H Q E h => ?_) (fun cdv A outer s H vs Q E hr h => ?_)
  · obtain ⟨x, d, rfl, _⟩ := h; rfl
  obtain ⟨x, d, rfl, hx, _, q⟩ := h
  refine ⟨_, (pss_one (ps_ret (pe_and (pe_cmpR (op_isTyA (C := C)) (pe_callTy (call_typeA (C := C)) rfl T.z_type bt_type (pa_cons (pv 0) pa_nil)) (pe_bltn (v := .ty "int") rfl T.z_int bt_int rfl) (nomark _)) (pe_one (pe_chain op_le op_le (C8.pe_gc rfl T.c_LEAST) (pv 0) (C8.pe_gc rfl T.c_GREATEST)))))), ?_⟩
  have q := q H (Same.refl H)
  refine ⟨x, rfl, x, d, rfl, hx, kyV_ok d, .inl ⟨_, rfl⟩, _, rfl, ?_⟩
  by_cases c : kyV C d = .ty "int"
  · refine ifT c ?_
    obtain ⟨i, rfl⟩ := kyV_int.mp c
    cases hx
    refine ⟨_, rfl, _, _, rfl, rfl, _, rfl, ite2 (fun c => ?_) (fun c => ?_)⟩
    · refine ⟨_, _, rfl, rfl, ?_⟩
      have e : isNum (.int i) = decide (i ≤ 2147483647) := by simp [isNum, numOk, of_decide_eq_true c]
      rw [e] at q; exact q
    · have e : isNum (.int i) = false := by simp [isNum, numOk] at c ⊢; omega
      rw [e] at q; exact q
  · have e : isNum d = false := by cases d <;> first | rfl | exact absurd rfl c
    rw [e] at q
    exact ifF c q
/-- signs between the space and the tilde -/
theorem lt_one (a b : Nat) : decide (([a] : List Nat) < [b]) = decide (a < b) := by
  by_cases h : a < b
  · rw [decide_eq_true h]; exact decide_eq_true (List.cons_lt_cons_iff.mpr (.inl h))
  · rw [decide_eq_false h]
    refine decide_eq_false fun z => ?_
    rcases List.cons_lt_cons_iff.mp z with z | ⟨_, z⟩
    · exact h z
    · cases z
abbrev s_is_text : Stmt := top 13
theorem sc_is_text : FnScope ["value", "character"] ["value"] (C8.fnScope s_is_text) := C8.fnScope_by (by decide +kernel)
theorem ok_is_text (F : C8.Def K mg "is_text" s_is_text f fd) (b : Binds K fd ["value"] []) (T : Txt K mg w C) : C8.Cal P w K mg base 1 "is_text" (spB C (fun d => ∀ s, d = .str s → s.length ≤ sizeLine) isTxt) [] := by
  refine C8.cal0 F b .nil sc_is_text (fun vs H Q E h => ?_) (fun cdv A outer s H vs Q E hr h => ?_)
  · obtain ⟨x, d, rfl, _⟩ := h; rfl
  obtain ⟨x, d, rfl, hx, hz, q⟩ := h
  refine ⟨_, (pss_cons (ps_if (PW.pt (pw_or (pt_cmpR (op_isNotTyA (C := C)) (pe_callTy (call_typeA (C := C)) rfl T.z_type bt_type (pa_cons (pv 0) pa_nil)) (pe_bltn (v := .ty "str") rfl T.z_str bt_str rfl) (nomark _)) (pw_or1 (pt_cmpR op_gt (pe_callB call_len_str rfl T.z_len bt_len (pa_cons (pv 0) pa_nil)) (C8.pe_gc rfl T.c_MOST_CHARACTERS) (nomark _))))) (pss_one (ps_ret pe_bl)) pss_nil)
      (pss_one (ps_ret (pe_callB (cr_all rfl) rfl T.z_all bt_all (pa_cons (pe_lc (own := [("character", 1)]) (g := gName 1) rfl sc_is_text.nd (pi_str (pv 0)) (blkOk_by (own := [("character", 1)]) (N := ["value", "character"]) (sc := C8.fnScope s_is_text) (by decide +kernel)) (fun _ _ _ _ _ => (pg_name (i := 1) sc_is_text.nd rfl (Or.inl rfl))) (fun _ _ _ _ _ => pts_nil) (fun _ _ _ _ _ => (pe_chain op_le_str op_le_str pe_str (pv 1) pe_str))) pa_nil))))), ?_⟩
  refine ⟨x, rfl, x, d, rfl, hx, kyV_ok d, .inl ⟨_, rfl⟩, _, rfl, ?_⟩
  by_cases c : kyV C d = .ty "str"
  · rw [decide_eq_true c]
    obtain ⟨z, rfl⟩ := kyV_str.mp c
    cases hx
    refine iteF ⟨_, rfl, z, rfl, hz z rfl, _, _, rfl, rfl, _, rfl, ite2 (fun c => ?_) (fun c => ?_)⟩
    · have e : isTxt (.str z) = false := by
        simp only [isTxt, txtOk]
        rw [decide_eq_false (by simp at c; omega)]; rfl
      have q := q H (Same.refl H)
      rw [e] at q; exact q
    · have hlen : z.length ≤ 24 := by simp at c; omega
      have e : isTxt (.str z) = z.cps.toList.all sgn := by
        simp only [isTxt, txtOk]
        rw [decide_eq_true hlen]; rfl
      rw [e] at q
      refine ⟨_, rfl, z, rfl, fun Dl hD => ?_⟩
      refine lc_it (walk_str (z := z)) (fun i H' => Same H H' ∧ H' Dl = some (.lst ((z.cps.toList.take i).map fun c => V.bl (sgn c)))) ⟨same_new hD, upd_same⟩ (fun _ _ _ _ => trivial) ?_ ?_
      · rintro i y H0 H1 hi ⟨s1, hl⟩ ⟨rfl, c, hc, rfl⟩
        have hc' : z.cps.toList[i]? = some c := by rw [Array.getElem?_toList]; exact hc
        have go : ∀ H3, H3 = upd H1 Dl (.lst ((z.cps.toList.take i).map (fun c => V.bl (sgn c)) ++ [.bl (sgn c)])) → Same H H3 ∧ H3 Dl = some (.lst ((z.cps.toList.take (i + 1)).map fun c => V.bl (sgn c))) := fun H3 e3 => by
          subst e3
          refine ⟨fun p o hp => by rw [upd_ne (ne_of_none hp hD)]; exact s1 p o hp, ?_⟩
          rw [upd_same, List.take_add_one, hc', List.map_append]; rfl
        have hn : ((z.cps.toList.take i).map fun c => V.bl (sgn c)).length < sizeLine := by
          have h1 : z.cps.size = z.length := rfl
          rw [List.length_map, List.length_take, Array.length_toList]
          exact small1000 (by omega)
        refine ⟨rfl, yes ?_⟩
        refine ⟨_, rfl, _, _, rfl, rfl, _, rfl, ?_⟩
        have e1 : (!decide (([c] : List Nat) < [32])) = decide (32 ≤ c) := by
          rw [lt_one]; by_cases h : c < 32
          · rw [decide_eq_true h, decide_eq_false (by omega)]; rfl
          · rw [decide_eq_false h, decide_eq_true (by omega)]; rfl
        have e2 : (!decide (([126] : List Nat) < [c])) = decide (c ≤ 126) := by
          rw [lt_one]; by_cases h : 126 < c
          · rw [decide_eq_true h, decide_eq_false (by omega)]; rfl
          · rw [decide_eq_false h, decide_eq_true (by omega)]; rfl
        refine bcase (b := !decide (([c] : List Nat) < [32])) (fun hb => ?_) (fun hb => ?_)
        · refine ⟨_, _, rfl, rfl, _, hl, hn, go _ ?_⟩
          have : (!decide (([126] : List Nat) < [c])) = sgn c := by rw [e2]; rw [e1] at hb; simp only [sgn]; rw [hb, Bool.true_and]
          exact congrArg (fun k => upd H1 Dl (.lst ((z.cps.toList.take i).map (fun c => V.bl (sgn c)) ++ [.bl k]))) this
        · refine ⟨_, hl, hn, go _ ?_⟩
          have : false = sgn c := by rw [e1] at hb; simp only [sgn]; rw [hb, Bool.false_and]
          exact congrArg (fun k => upd H1 Dl (.lst ((z.cps.toList.take i).map (fun c => V.bl (sgn c)) ++ [.bl k]))) this
      · rintro H1 ⟨s1, hl⟩
        have ea : z.cps.toList.take z.cps.size = z.cps.toList := List.take_of_length_le (by rw [Array.length_toList]; exact Nat.le_refl _)
        rw [ea] at hl
        refine ⟨Dl, z.cps.toList.map sgn, rfl, SqL.of (by rw [List.map_map]; exact hl), ?_⟩
        have e9 : (z.cps.toList.map sgn).all id = z.cps.toList.all sgn := by rw [List.all_map]; rfl
        rw [e9]
        exact q H1 s1
  · have e : isTxt d = false := by cases d <;> first | rfl | exact absurd rfl c
    have q := q H (Same.refl H)
    rw [e] at q
    rw [decide_eq_false c]
    exact iteT q
end
end Hc

namespace Hc
open PySem PySem.Spec PyProof.Rows L2 Hr
mutual
/-- a word, nested so deep at most -/
def okW (md mr : Nat) : Nat → D → Bool
  | n, .tup ds => decide (n ≠ md) && okA md mr (n + 1) ds
  | _, .atom k ds => decide (rank (.atom k ds) ≤ mr)
  | _, .non => true
  | _, .int i => numOk i
  | _, .str s => txtOk s
  | _, _ => false
def okA (md mr : Nat) : Nat → List D → Bool
  | _, [] => true
  | n, d :: ds => okW md mr n d && okA md mr n ds
end
mutual
/-- no text is too long for the model's len -/
def txl : D → Prop
  | .str s => s.length ≤ sizeLine
  | .tup ds => txlL ds
  | .lst ds => txlL ds
  | .atom _ ds => txlL ds
  | _ => True
def txlL : List D → Prop
  | [] => True
  | d :: ds => txl d ∧ txlL ds
end
/-- data of a size that the lists bear -/
def Fit (d : D) : Prop := sz d ≤ 1000000 ∧ txl d
theorem okA_app (md mr n : Nat) : ∀ a b : List D, okA md mr n (a ++ b) = (okA md mr n a && okA md mr n b)
  | [], b => by simp [okA]
  | x :: a, b => by rw [List.cons_append]; simp only [okA]; rw [okA_app md mr n a b, Bool.and_assoc]
theorem okA_rev (md mr n : Nat) : ∀ a : List D, okA md mr n a.reverse = okA md mr n a
  | [] => rfl
  | x :: a => by rw [List.reverse_cons, okA_app, okA_rev md mr n a]; simp only [okA]; rw [Bool.and_true, Bool.and_comm]
theorem txlL_mem : ∀ {ds : List D} {d : D}, txlL ds → d ∈ ds → txl d
  | x :: ds, d, h, hd => by
    simp only [txlL] at h
    rcases List.mem_cons.mp hd with rfl | hd
    · exact h.1
    · exact txlL_mem h.2 hd
/-- the stack: pairs of a part and how deep it lies; the parts stood ahead of the call -/
inductive Stk (C : Addr) (H0 H : Hp) : List V → List (D × Nat) → Prop
  | nil : Stk C H0 H [] []
  | cons {q : Addr} {x : V} {d : D} {n : Nat} {xs : List V} {ps : List (D × Nat)} (h : H q = some (.tup [x, .int (n : Int)])) (hx : Is C H0 x d) (t : Stk C H0 H xs ps) : Stk C H0 H (.ref q :: xs) ((d, n) :: ps)
/-- the tuples stand -/
def Tups (H H' : Hp) : Prop := ∀ b xs, H b = some (.tup xs) → H' b = some (.tup xs)
theorem Tups.put {H : Hp} {l : Addr} {xs ys : List V} (h : H l = some (.lst xs)) : Tups H (L2.upd H l (.lst ys)) := fun b zs e => by
  rw [upd_ne (fun z => by rw [z, h] at e; cases e)]; exact e
theorem Tups.trans {H H1 H2 : Hp} (a : Tups H H1) (b : Tups H1 H2) : Tups H H2 := fun c xs h => b c xs (a c xs h)
theorem Tups.of {H H1 : Hp} (a : Same H H1) : Tups H H1 := fun c xs h => a c _ h
theorem Stk.keep {C : Addr} {H0 H H' : Hp} (e : Tups H H') : ∀ {xs : List V} {ps : List (D × Nat)}, Stk C H0 H xs ps → Stk C H0 H' xs ps
  | _, _, .nil => .nil
  | _, _, .cons h hx t => .cons (e _ _ h) hx (t.keep e)
theorem Stk.len {C : Addr} {H0 H : Hp} : ∀ {xs : List V} {ps : List (D × Nat)}, Stk C H0 H xs ps → xs.length = ps.length
  | _, _, .nil => rfl
  | _, _, .cons _ _ t => congrArg (· + 1) t.len
theorem Stk.app {C : Addr} {H0 H : Hp} : ∀ {xs ys : List V} {ps qs : List (D × Nat)}, Stk C H0 H xs ps → Stk C H0 H ys qs → Stk C H0 H (xs ++ ys) (ps ++ qs)
  | _, _, _, _, .nil, t => t
  | _, _, _, _, .cons h hx u, t => .cons h hx (u.app t)
theorem Stk.last {C : Addr} {H0 H : Hp} : ∀ {xs : List V} {ps : List (D × Nat)}, Stk C H0 H xs ps → ps ≠ [] → ∃ (q : Addr) (x : V) (d : D) (n : Nat) (ys : List V) (qs : List (D × Nat)), xs = ys ++ [.ref q] ∧ ps = qs ++ [(d, n)] ∧ H q = some (.tup [x, .int (n : Int)]) ∧ Is C H0 x d ∧ Stk C H0 H ys qs
  | _, _, .nil, h => absurd rfl h
  | _, _, .cons (ps := []) h hx .nil, _ => ⟨_, _, _, _, [], [], rfl, rfl, h, hx, .nil⟩
  | _, _, .cons (ps := p :: ps) h hx t, _ => by
    obtain ⟨q, x, d, n, ys, qs, e1, e2, h1, h2, h3⟩ := t.last (List.cons_ne_nil _ _)
    rw [e1, e2]
    exact ⟨q, x, d, n, _ :: ys, _ :: qs, rfl, rfl, h1, h2, .cons h hx h3⟩
/-- a list that is no argument of ours changes: what stood stays -/
theorem same_put {H H' : Hp} {l : Addr} {o : HO} (s : Same H H') (h : H l = none) : Same H (L2.upd H' l o) := fun b u e => by
  rw [upd_ne (ne_of_none e h)]; exact s b u e
def okS (md mr : Nat) : List (D × Nat) → Bool
  | [] => true
  | p :: ps => okW md mr p.2 p.1 && okS md mr ps
def szS : List (D × Nat) → Nat
  | [] => 0
  | p :: ps => sz p.1 + szS ps
theorem okS_app (md mr : Nat) : ∀ a b, okS md mr (a ++ b) = (okS md mr a && okS md mr b)
  | [], b => by simp [okS]
  | x :: a, b => by rw [List.cons_append]; simp only [okS]; rw [okS_app md mr a b, Bool.and_assoc]
theorem szS_app : ∀ a b, szS (a ++ b) = szS a + szS b
  | [], b => by simp [szS]
  | x :: a, b => by rw [List.cons_append]; simp only [szS]; rw [szS_app a b]; omega
theorem len_szS : ∀ a : List (D × Nat), a.length ≤ szS a
  | [] => Nat.le_refl _
  | x :: a => by
    have := len_szS a
    have := sz_pos x.1
    simp only [szS, List.length_cons]; omega
theorem okS_map (md mr n : Nat) : ∀ ds : List D, okS md mr (ds.map fun d => (d, n)) = okA md mr n ds
  | [] => by simp [okS, okA]
  | d :: ds => by simp only [List.map_cons, okS, okA]; rw [okS_map md mr n ds]
theorem szS_map (n : Nat) : ∀ ds : List D, szS (ds.map fun d => (d, n)) = szL ds
  | [] => by simp [szS, szL]
  | d :: ds => by simp only [List.map_cons, szS, szL]; rw [szS_map n ds]
def spWithin (C : Addr) : Sp := fun vs H Q _ => ∃ x d, ∃ md mr : Nat, vs = [x, .int (md : Int), .int (mr : Int)] ∧ Is C H x d ∧ Fit d ∧ ∀ H', Same H H' → Q (.bl (okW md mr 0 d)) H'
section
variable {P : Program} {w : World} {K : PySem.W.Frag} {mg : Str → Option Value} {base : Heap} {f : Addr} {fd : FuncData} {C : Addr}
abbrev s__is_within : Stmt := top 18
theorem sc__is_within : FnScope ["value", "most_deep", "most_rank", "todo", "part", "deep", "each"] ["value", "most_deep", "most_rank"] (C8.fnScope s__is_within) := C8.fnScope_by (by decide +kernel)
theorem ok__is_within (F : C8.Def K mg "_is_within" s__is_within f fd) (b : Binds K fd ["value", "most_deep", "most_rank"] []) (T : Txt K mg w C) (c_is_number : C8.Cal P w K mg base 1 "is_number" (spB C (fun _ => True) isNum) [])
    (c_is_text : C8.Cal P w K mg base 1 "is_text" (spB C (fun d => ∀ s, d = .str s → s.length ≤ sizeLine) isTxt) []) : C8.Cal P w K mg base 2 "_is_within" (spWithin C) [] := by
  refine C8.cal0 F b .nil sc__is_within (fun vs H Q E h => ?_) (fun cdv A outer s H vs Q E hr h => ?_)
  · obtain ⟨x, d, md, mr, rfl, _⟩ := h; rfl
  obtain ⟨x, d, md, mr, rfl, hx, hz, q⟩ := h
  refine ⟨_, (pss_cons (ps_set (i := 3) sc__is_within.nd rfl (Or.inl rfl) (pe_lst (pa_cons (pe_tup (pa_cons (pv 0) (pa_cons pe_int pa_nil))) pa_nil)))
      (pss_cons (ps_while PassesOwn.never (pt_truth (pv 3) (fun _ => rfl))
      (pss_cons (ps_asg (pe_bm0 PySem.F.plainAttrs_list PySem.F.slot_list_pop PySem.F.type_list_pop mt_pop (pv 3)) (pg_tup rfl (pgs_cons (pg_name (i := 4) sc__is_within.nd rfl (Or.inl rfl)) (pgs_cons (pg_name (i := 5) sc__is_within.nd rfl (Or.inr rfl)) pgs_nil))))
      (pss_one (ps_if (pt_cmpR (op_isTyA (C := C)) (pe_callTy (call_typeA (C := C)) rfl T.z_type bt_type (pa_cons (pv 4) pa_nil)) (pe_bltn (v := .ty "tuple") rfl T.z_tuple bt_tuple rfl) (nomark _)) (pss_cons (ps_if (pt_cmpR op_eq (pv 5) (pv 1) (nomark _)) (pss_one (ps_ret pe_bl)) pss_nil)
      (pss_one (ps_expr (pe_bm PySem.F.plainAttrs_list PySem.F.slot_list_extend PySem.F.type_list_extend mt_extend (pv 3) (pa_cons (pe_lc (own := [("each", 6)]) (g := gName 6) rfl sc__is_within.nd (pi_tup (pv 4)) (blkOk_by (own := [("each", 6)]) (N := ["value", "most_deep", "most_rank", "todo", "part", "deep", "each"]) (sc := C8.fnScope s__is_within) (by decide +kernel)) (fun _ _ _ _ _ => (pg_name (i := 6) sc__is_within.nd rfl (Or.inl rfl))) (fun _ _ _ _ _ => pts_nil) (fun _ _ _ _ _ => (pe_tup (pa_cons (pv 6) (pa_cons (pe_op op_add (pv 5) pe_int) pa_nil))))) pa_nil))))) (pss_one (ps_if (pt_cmpR (op_isTyA (C := C)) (pe_callTy (call_typeA (C := C)) rfl T.z_type bt_type (pa_cons (pv 4) pa_nil)) (pe_glob (v := .ref C) rfl T.g_Atom rfl) (nomark _)) (pss_one (ps_if (pt_cmpR op_gt (pe_fld (pv 4) rfl) (pv 2) (nomark _)) (pss_one (ps_ret pe_bl)) pss_nil)) (pss_one (ps_if (PW.pt (pw_and (pt_cmpR op_notN (pv 4) pe_non (nomark _)) (pw_and (pt_not (pt_val (C8.pe_c c_is_number hr (by first | decide | omega) rfl (pa_cons (pv 4) pa_nil)))) (pw_and1 (pt_not (pt_val (C8.pe_c c_is_text hr (by first | decide | omega) rfl (pa_cons (pv 4) pa_nil)))))))) (pss_one (ps_ret pe_bl)) pss_nil))))))))
      (pss_one (ps_ret pe_bl)))), ?_⟩
  refine ⟨_, rfl, (by show 2 ≤ sizeLine; decide), fun q0 hq0 => ⟨(by show 1 ≤ sizeLine; decide), fun l hl => ?_⟩⟩
  have s1 := same_new (o := .tup [x, .int 0]) hq0
  have s2 := same_new (o := .lst [.ref q0]) hl
  have hl0 : H l = none := s1.free hl
  refine ⟨fun m σ' H' => ∃ v4 v5 xs ps, σ' = [some x, some (.int (md : Int)), some (.int (mr : Int)), some (.ref l), v4, v5, none] ∧ Same H H' ∧ H' l = some (.lst xs) ∧ Stk C H H' xs ps ∧ okS md mr ps = okW md mr 0 d ∧ m = szS ps ∧ szS ps ≤ 1000000 ∧ ∀ p ∈ ps, txl p.1,
    ⟨_, none, none, [.ref q0], [(d, 0)], rfl, s1.trans s2, upd_same, .cons (s2 _ _ upd_same) hx .nil, by simp [okS], rfl, by simp [szS]; exact hz.1, fun p hp => by rw [List.mem_singleton.mp hp]; exact hz.2⟩, ?_⟩
  rintro m σ' H' ⟨v4, v5, xs, ps, rfl, sm, hl', st, ok, rfl, hm, hs⟩
  refine ⟨_, rfl, _, .inl ⟨xs, SqL.of hl', rfl⟩, ?_⟩
  by_cases hps : ps = []
  · subst hps
    cases st
    refine iteF ?_
    have q := q H' sm
    rw [← ok] at q
    exact q
  obtain ⟨qa, y, e, n, ys, qs, rfl, rfl, hq, hy, st'⟩ := st.last hps
  refine bT (by simp) ⟨fun σ2 H2 => ∃ m', m' < szS (qs ++ [(e, n)]) ∧ ∃ v4 v5 xs ps, σ2 = [some x, some (.int (md : Int)), some (.int (mr : Int)), some (.ref l), v4, v5, none] ∧ Same H H2 ∧ H2 l = some (.lst xs) ∧ Stk C H H2 xs ps ∧ okS md mr ps = okW md mr 0 d ∧ m' = szS ps ∧ szS ps ≤ 1000000 ∧ ∀ p ∈ ps, txl p.1, fun σ2 H2 h => h, ?_⟩
  -- part, deep = todo.pop()
  refine ⟨_, rfl, .inl ⟨rfl, _, SqL.of hl'⟩, l, _, .ref qa, rfl, rfl, hl', by simp, ?_⟩
  rw [List.dropLast_concat]
  have tp := Tups.put (ys := ys) hl'
  refine ⟨qa, [y, .int (n : Int)], rfl, SqT.of (tp _ _ hq), rfl, y, [.int (n : Int)], rfl, .int (n : Int), [], rfl, rfl, ?_⟩
  have sm2 : Same H (upd H' l (.lst ys)) := same_put sm hl0
  have hys : (upd H' l (.lst ys)) l = some (.lst ys) := upd_same
  have st2 := st'.keep tp
  rw [okS_app] at ok
  have hsz : szS (qs ++ [(e, n)]) = szS qs + sz e := by rw [szS_app]; simp [szS]
  have hse := sz_pos e
  have hqs : ∀ p ∈ qs, txl p.1 := fun p hp => hs p (List.mem_append_left _ hp)
  have hse2 : txl e := hs (e, n) (List.mem_append_right _ (List.mem_singleton.mpr rfl))
  have ok2 : okS md mr [(e, n)] = okW md mr n e := by simp [okS]
  rw [ok2] at ok
  generalize upd H' l (.lst ys) = H2 at sm2 hys st2
  have hy2 := hy.same sm2
  -- a part that is right, and leads no further
  have good : okW md mr n e = true → ∀ H3, Same H2 H3 → H3 l = some (.lst ys) → ∃ m', m' < szS (qs ++ [(e, n)]) ∧ ∃ v4 v5 xs ps, ([some x, some (.int (md : Int)), some (.int (mr : Int)), some (.ref l), some y, some (.int (n : Int)), none] : L2.St) = [some x, some (.int (md : Int)), some (.int (mr : Int)), some (.ref l), v4, v5, none] ∧ Same H H3 ∧ H3 l = some (.lst xs) ∧ Stk C H H3 xs ps ∧ okS md mr ps = okW md mr 0 d ∧ m' = szS ps ∧ szS ps ≤ 1000000 ∧ ∀ p ∈ ps, txl p.1 := fun hok H3 s3 hl3 =>
    ⟨szS qs, by omega, _, _, ys, qs, rfl, sm2.trans s3, hl3, st2.keep (Tups.of s3), by rw [← ok, hok, Bool.and_true], rfl, by omega, hqs⟩
  -- a part that is wrong
  have bad : okW md mr n e = false → ∀ H3, Same H2 H3 → Q (.bl false) H3 := fun hok H3 s3 => by
    have q := q H3 (sm2.trans s3)
    rw [← ok, hok, Bool.and_false] at q
    exact q
  refine ⟨_, rfl, y, e, rfl, hy2, kyV_ok e, .inl ⟨_, rfl⟩, _, rfl, ?_⟩
  by_cases ct : kyV C e = .ty "tuple"
  · refine ifT ct ?_
    obtain ⟨es, rfl⟩ := kyV_tup.mp ct
    refine ⟨_, rfl, _, rfl, rfl, _, rfl, ?_⟩
    by_cases cn : n = md
    · refine ifT (by rw [cn]) ?_
      exact bad (by simp [okW, cn]) H2 (Same.refl _)
    · refine ifF (fun z => cn (by have := V.int.inj z; omega)) ?_
      have hyt := hy
      cases hyt with
      | @tup ta txs _ hta tis =>
        refine ⟨_, rfl, .inl ⟨rfl, _, SqL.of hys⟩, _, rfl, ta, rfl, ⟨_, SqT.of (sm2 _ _ hta)⟩, fun Dl hD => ?_⟩
        have nDl : l ≠ Dl := fun z => by rw [z] at hys; rw [hys] at hD; cases hD
        refine lc_tup (K := K) (a := ta) (xs := txs) (fun i H3 => Same H2 H3 ∧ ∃ zs, H3 Dl = some (.lst zs) ∧ Stk C H H3 zs ((es.take i).map fun d => (d, n + 1)) ∧ zs.length = i)
          ⟨same_new hD, [], upd_same, by simpa using Stk.nil, rfl⟩ (fun i H3 _ h => SqT.of (h.1 _ _ (sm2 _ _ hta))) ?_ ?_
        · rintro i z H3 hi ⟨s3, zs, hz3, stz, hzl⟩
          obtain ⟨ed, hed, hiz⟩ := tis.at hi
          refine ⟨rfl, yes ?_⟩
          refine ⟨_, rfl, _, rfl, _, _, rfl, rfl, (by show 2 ≤ sizeLine; decide), fun t ht => ?_⟩
          have s4 := same_new (o := .tup [z, .int ((n : Int) + 1)]) ht
          have hz4 := s4 _ _ hz3
          have hlt := (List.getElem?_eq_some_iff.mp hed).1
          refine ⟨zs, hz4, Nat.lt_of_lt_of_le (show zs.length < 1000001 by simp only [sz] at hsz; have := len_szL es; omega) (by decide), same_put (s3.trans s4) hD, zs ++ [.ref t], upd_same, ?_, by simp [hzl]⟩
          have e6 : (es.take (i + 1)).map (fun d => (d, n + 1)) = (es.take i).map (fun d => (d, n + 1)) ++ [(ed, n + 1)] := by rw [List.take_add_one, hed, List.map_append]; rfl
          rw [e6]
          exact (stz.keep ((Tups.of s4).trans (Tups.put hz4))).app (.cons (Tups.put hz4 _ _ upd_same) hiz .nil)
        · rintro H3 ⟨s3, zs, hz3, stz, hzl⟩
          have htl := tis.len
          have hzl2 : zs.length + 1 ≤ sz (.tup es) := by simp only [sz]; have := len_szL es; omega
          have hyl := st2.len
          have hql := len_szS qs
          have hl3 := s3 _ _ hys
          refine ⟨l, Dl, ys, zs, rfl, rfl, hl3, hz3, Nat.le_trans (show ys.length + zs.length ≤ 1000000 by omega) (by decide), ?_⟩
          rw [List.take_of_length_le (by omega)] at stz
          refine ⟨szS (qs ++ es.map fun d => (d, n + 1)), ?_, _, _, ys ++ zs, qs ++ es.map (fun d => (d, n + 1)), rfl, same_put (sm2.trans s3) hl0, upd_same, ((st2.keep (Tups.of s3)).app stz).keep (Tups.put hl3), ?_, rfl, ?_, fun p hp => ?_⟩
          · rw [szS_app, szS_map, hsz]; simp only [sz]; omega
          · rw [okS_app, okS_map, ← ok]; simp [okW, cn]
          · rw [szS_app, szS_map]; simp only [sz] at hsz; omega
          · rcases List.mem_append.mp hp with hp | hp
            · exact hqs p hp
            · obtain ⟨d', hd', rfl⟩ := List.mem_map.mp hp
              exact txlL_mem (by simpa [txl] using hse2) hd'
  · refine ifF ct ⟨_, rfl, y, e, rfl, hy2, kyV_ok e, .inr rfl, _, rfl, ?_⟩
    by_cases ca : kyV C e = .ref C
    · refine ifT ca ?_
      obtain ⟨k, es, rfl⟩ := kyV_atom.mp ca
      cases hy2 with
      | @atom aa dx at_ _ axs _ h1 h2 h3 =>
        refine ⟨_, rfl, aa, C, dx, _, _, rfl, h1, T.cl.cl, T.cl.nR, rfl, _, rfl, _, _, rfl, rfl, _, rfl, ite2 (fun c => ?_) (fun c => ?_)⟩
        · exact bad (by simp only [okW]; refine decide_eq_false fun z => ?_; simp at c; omega) H2 (Same.refl _)
        · exact good (by simp only [okW]; refine decide_eq_true ?_; simp at c; omega) H2 (Same.refl _) hys
    · refine ifF ca ⟨_, rfl, rfl, _, rfl, ?_⟩
      by_cases cN : y = .non
      · rw [decide_eq_true cN]
        subst cN
        cases hy
        exact iteF (iteF (good rfl H2 (Same.refl _) hys))
      · rw [decide_eq_false cN]
        refine iteT ⟨_, rfl, y, e, rfl, hy2, trivial, fun H3 s3 => ⟨_, rfl, ?_⟩⟩
        cases hn : isNum e with
        | true =>
          refine iteF (iteF (good ?_ H3 s3 (s3 _ _ hys)))
          cases e <;> first | exact hn | cases hn
        | false =>
          refine iteT ⟨_, rfl, y, e, rfl, hy2.same s3, fun z hz' => by subst hz'; simpa [txl] using hse2, fun H4 s4 => ⟨_, rfl, ?_⟩⟩
          have s34 := s3.trans s4
          cases ht : isTxt e with
          | true =>
            refine iteF (good ?_ H4 s34 (s34 _ _ hys))
            cases e <;> first | exact ht | cases ht
          | false =>
            refine iteT (bad ?_ H4 s34)
            cases e with
            | non => cases hy; exact absurd rfl cN
            | int i => exact hn
            | str z => exact ht
            | tup es => exact absurd rfl ct
            | atom k es => exact absurd rfl ca
            | _ => rfl
end
end Hc

namespace Hc
open PySem PySem.Spec PyProof.Rows L2 Hr
mutual
/-- the atoms, each where it stands -/
def places : D → List D
  | .tup ds => placesL ds
  | .atom k ds => [.atom k ds]
  | _ => []
def placesL : List D → List D
  | [] => []
  | d :: ds => places d ++ placesL ds
end
theorem placesL_app : ∀ a b : List D, placesL (a ++ b) = placesL a ++ placesL b
  | [], b => rfl
  | x :: a, b => by rw [List.cons_append]; simp only [placesL]; rw [placesL_app a b, List.append_assoc]
mutual
theorem places_len : ∀ d : D, (places d).length ≤ sz d
  | .tup ds => by simp only [places, sz]; have := placesL_len ds; omega
  | .atom k ds => by simp [places, sz]
  | .non | .bl _ | .int _ | .str _ | .lst _ | .dct => by simp [places, sz]
theorem placesL_len : ∀ ds : List D, (placesL ds).length ≤ szL ds
  | [] => Nat.le_refl _
  | d :: ds => by simp only [placesL, szL, List.length_append]; have := places_len d; have := placesL_len ds; omega
end
mutual
theorem places_rank : ∀ d : D, (∀ e ∈ places d, rank e ≤ rank d) ∧ (0 < rank d → ∃ e ∈ places d, rank e = rank d)
  | .tup ds => by simp only [places, rank]; exact placesL_rank ds
  | .atom k ds => by simp [places]
  | .non | .bl _ | .int _ | .str _ | .lst _ | .dct => by simp [places, rank]
theorem placesL_rank : ∀ ds : List D, (∀ e ∈ placesL ds, rank e ≤ rankL ds) ∧ (0 < rankL ds → ∃ e ∈ placesL ds, rank e = rankL ds)
  | [] => by simp [placesL, rankL]
  | d :: ds => by
    obtain ⟨h1, h2⟩ := places_rank d
    obtain ⟨h3, h4⟩ := placesL_rank ds
    simp only [placesL, rankL]
    refine ⟨fun e he => ?_, fun hp => ?_⟩
    · rcases List.mem_append.mp he with he | he
      · have := h1 e he; omega
      · have := h3 e he; omega
    · by_cases c : rankL ds ≤ rank d
      · obtain ⟨e, he, hr⟩ := h2 (by omega)
        exact ⟨e, List.mem_append_left _ he, by omega⟩
      · obtain ⟨e, he, hr⟩ := h4 (by omega)
        exact ⟨e, List.mem_append_right _ he, by omega⟩
end
mutual
theorem places_atom : ∀ (d : D), ∀ e ∈ places d, ∃ k ds, e = .atom k ds
  | .tup ds, e, h => placesL_atom ds e (by simpa [places] using h)
  | .atom k ds, e, h => by simp [places] at h; exact ⟨k, ds, h⟩
  | .non, _, h | .bl _, _, h | .int _, _, h | .str _, _, h | .lst _, _, h | .dct, _, h => by simp [places] at h
theorem placesL_atom : ∀ (ds : List D), ∀ e ∈ placesL ds, ∃ k ds, e = .atom k ds
  | [], _, h => by simp [placesL] at h
  | d :: ds, e, h => by
    simp only [placesL] at h
    rcases List.mem_append.mp h with h | h
    · exact places_atom d e h
    · exact placesL_atom ds e h
end
def spPlaces (C : Addr) : Sp := fun vs H Q _ => ∃ x d, vs = [x] ∧ Is C H x d ∧ Fit d ∧ ∀ H' p xs, Same H H' → H p = none → H' p = some (.lst xs) → IsA C H' xs (places d) → Q (.ref p) H'
/-- a natural number is told -/
def spN (C : Addr) (ok : D → Prop) (f : D → Nat) : Sp := fun vs H Q _ => ∃ x d, vs = [x] ∧ Is C H x d ∧ ok d ∧ ∀ H', Same H H' → Q (.int (f d : Int)) H'
section
variable {P : Program} {w : World} {K : PySem.W.Frag} {mg : Str → Option Value} {base : Heap} {f : Addr} {fd : FuncData} {C : Addr}
abbrev s_is_word : Stmt := top 14
theorem sc_is_word : FnScope ["value"] ["value"] (C8.fnScope s_is_word) := C8.fnScope_by (by decide +kernel)
theorem ok_is_word (F : C8.Def K mg "is_word" s_is_word f fd) (b : Binds K fd ["value"] []) (T : Txt K mg w C) (c__is_within : C8.Cal P w K mg base 2 "_is_within" (spWithin C) []) : C8.Cal P w K mg base 3 "is_word" (spB C Fit (okW 40 40 0)) [] := by
  refine C8.cal0 F b .nil sc_is_word (fun vs H Q E h => ?_) (fun cdv A outer s H vs Q E hr h => ?_)
  · obtain ⟨x, d, rfl, _⟩ := h; rfl
  obtain ⟨x, d, rfl, hx, hz, q⟩ := h
  refine ⟨_, (pss_one (ps_ret (C8.pe_c c__is_within hr (by first | decide | omega) rfl (pa_cons (pv 0) (pa_cons (C8.pe_gc rfl T.c_MOST_DEEP) (pa_cons (C8.pe_gc rfl T.c_MOST_RANK) pa_nil)))))), ?_⟩
  exact ⟨x, rfl, x, d, 40, 40, rfl, hx, hz, q⟩
abbrev s__places_of_atoms : Stmt := top 19
theorem sc__places_of_atoms : FnScope ["value", "found", "todo", "part"] ["value"] (C8.fnScope s__places_of_atoms) := C8.fnScope_by (by decide +kernel)
theorem ok__places_of_atoms (F : C8.Def K mg "_places_of_atoms" s__places_of_atoms f fd) (b : Binds K fd ["value"] []) (T : Txt K mg w C) : C8.Cal P w K mg base 1 "_places_of_atoms" (spPlaces C) [] := by
  refine C8.cal0 F b .nil sc__places_of_atoms (fun vs H Q E h => ?_) (fun cdv A outer s H vs Q E hr h => ?_)
  · obtain ⟨x, d, rfl, _⟩ := h; rfl
  obtain ⟨x, d, rfl, hx, hz, q⟩ := h
  refine ⟨_, (pss_cons (ps_set (i := 1) sc__places_of_atoms.nd rfl (Or.inl rfl) (pe_lst pa_nil))
      (pss_cons (ps_set (i := 2) sc__places_of_atoms.nd rfl (Or.inl rfl) (pe_lst (pa_cons (pv 0) pa_nil)))
      (pss_cons (ps_while PassesOwn.never (pt_truth (pv 2) (fun _ => rfl))
      (pss_cons (ps_set (i := 3) sc__places_of_atoms.nd rfl (Or.inl rfl) (pe_bm0 PySem.F.plainAttrs_list PySem.F.slot_list_pop PySem.F.type_list_pop mt_pop (pv 2)))
      (pss_one (ps_if (pt_cmpR (op_isTyA (C := C)) (pe_callTy (call_typeA (C := C)) rfl T.z_type bt_type (pa_cons (pv 3) pa_nil)) (pe_bltn (v := .ty "tuple") rfl T.z_tuple bt_tuple rfl) (nomark _)) (pss_one (ps_expr (pe_bm PySem.F.plainAttrs_list PySem.F.slot_list_extend PySem.F.type_list_extend mt_extendT (pv 2) (pa_cons (pe_revT (pv 3)) pa_nil)))) (pss_one (ps_if (pt_cmpR (op_isTyA (C := C)) (pe_callTy (call_typeA (C := C)) rfl T.z_type bt_type (pa_cons (pv 3) pa_nil)) (pe_glob (v := .ref C) rfl T.g_Atom rfl) (nomark _)) (pss_one (ps_expr (pe_bm PySem.F.plainAttrs_list PySem.F.slot_list_append PySem.F.type_list_append mt_append (pv 1) (pa_cons (pv 3) pa_nil)))) pss_nil))))))
      (pss_one (ps_ret (pv 1)))))), ?_⟩
  refine ⟨(by show 0 ≤ sizeLine; decide), fun fo hfo => ⟨x, rfl, (by show 1 ≤ sizeLine; decide), fun l hl => ?_⟩⟩
  have s1 := same_new (o := .lst []) hfo
  have s2 := same_new (o := .lst [x]) hl
  have hl0 : H l = none := s1.free hl
  have nfl : fo ≠ l := fun z => by rw [← z, upd_same] at hl; cases hl
  refine ⟨fun m σ' H' => ∃ v3 fs xs es ds, σ' = [some x, some (.ref fo), some (.ref l), v3] ∧ Same H H' ∧ H' fo = some (.lst fs) ∧ H' l = some (.lst xs) ∧ IsA C H fs es ∧ IsA C H xs ds ∧ es ++ placesL ds.reverse = places d ∧ m = szL ds ∧ szL ds ≤ 1000000,
    ⟨_, none, [], [x], [], [d], rfl, s1.trans s2, s2 _ _ upd_same, upd_same, .nil, .cons hx .nil, by simp [placesL], rfl, by simp [szL]; exact hz.1⟩, ?_⟩
  rintro m σ' H' ⟨v3, fs, xs, es, ds, rfl, sm, hf', hl', hfs, hxs, e0, rfl, hm⟩
  refine ⟨_, rfl, _, .inl ⟨xs, SqL.of hl', rfl⟩, ?_⟩
  rcases List.eq_nil_or_concat ds with rfl | ⟨ds', e, rfl⟩
  · cases hxs
    refine iteF ⟨_, rfl, ?_⟩
    simp only [List.reverse_nil, placesL, List.append_nil] at e0
    rw [e0] at hfs
    exact q H' fo fs sm hfo hf' (hfs.same sm)
  obtain ⟨ys, y, rfl, hys, hy⟩ := hxs.concat
  simp only [List.concat_eq_append] at e0 hm ⊢
  refine bT (by simp) ⟨fun σ2 H2 => ∃ m', m' < szL (ds' ++ [e]) ∧ ∃ v3 fs xs es ds, σ2 = [some x, some (.ref fo), some (.ref l), v3] ∧ Same H H2 ∧ H2 fo = some (.lst fs) ∧ H2 l = some (.lst xs) ∧ IsA C H fs es ∧ IsA C H xs ds ∧ es ++ placesL ds.reverse = places d ∧ m' = szL ds ∧ szL ds ≤ 1000000, fun σ2 H2 h => h, ?_⟩
  refine ⟨_, rfl, .inl ⟨rfl, _, SqL.of hl'⟩, l, _, y, rfl, rfl, hl', by simp, ?_⟩
  rw [List.dropLast_concat]
  have sm2 : Same H (upd H' l (.lst ys)) := same_put sm hl0
  have hl2 : (upd H' l (.lst ys)) l = some (.lst ys) := upd_same
  have hf2 : (upd H' l (.lst ys)) fo = some (.lst fs) := by rw [upd_ne nfl]; exact hf'
  generalize upd H' l (.lst ys) = H2 at sm2 hl2 hf2
  rw [List.reverse_append, List.reverse_singleton, List.singleton_append] at e0
  simp only [placesL] at e0
  have hse := sz_pos e
  have hsz : szL (ds' ++ [e]) = szL ds' + sz e := by rw [szL_app]; simp [szL]
  have hdl := len_szL ds'
  have hyl := hys.len
  refine ⟨_, rfl, y, e, rfl, hy.same sm2, kyV_ok e, .inl ⟨_, rfl⟩, _, rfl, ?_⟩
  by_cases ct : kyV C e = .ty "tuple"
  · refine ifT ct ?_
    obtain ⟨gs, rfl⟩ := kyV_tup.mp ct
    cases hy with
    | @tup ta txs _ hta tis =>
      refine ⟨_, rfl, .inl ⟨rfl, _, SqL.of hl2⟩, _, rfl, ta, _, rfl, SqT.of (sm2 _ _ hta), fun r hr' => ?_⟩
      have s3 := same_new (o := .tup txs.reverse) hr'
      have htl := tis.len
      have hgl := len_szL gs
      refine ⟨l, r, ys, _, rfl, rfl, s3 _ _ hl2, upd_same, Nat.le_trans (show ys.length + txs.reverse.length ≤ 1000000 by simp only [sz] at hsz; rw [List.length_reverse]; omega) (by decide), ?_⟩
      refine ⟨szL (ds' ++ gs.reverse), ?_, _, fs, ys ++ txs.reverse, es, ds' ++ gs.reverse, rfl, same_put (sm2.trans s3) hl0, by rw [upd_ne nfl]; exact s3 _ _ hf2, upd_same, hfs, hys.app tis.rev, ?_, rfl, ?_⟩
      · rw [szL_app, szL_rev, hsz]; simp only [sz]; omega
      · rw [List.reverse_append, List.reverse_reverse, placesL_app]; simp only [places] at e0; exact e0
      · rw [szL_app, szL_rev]; simp only [sz] at hsz; omega
  · refine ifF ct ⟨_, rfl, y, e, rfl, hy.same sm2, kyV_ok e, .inr rfl, _, rfl, ?_⟩
    by_cases ca : kyV C e = .ref C
    · refine ifT ca ?_
      obtain ⟨k, gs, rfl⟩ := kyV_atom.mp ca
      have hel : es.length + 1 ≤ 1000000 := by
        have h1 := congrArg List.length e0
        have h2 := places_len d
        have h3 := hz.1
        simp only [List.length_append, places, List.length_singleton] at h1
        omega
      have hfl := hfs.len
      refine ⟨_, rfl, .inl ⟨rfl, _, SqL.of hf2⟩, _, rfl, fo, fs, y, rfl, rfl, hf2, Nat.lt_of_lt_of_le (show fs.length < 1000001 by omega) (by decide), ?_⟩
      refine ⟨szL ds', by omega, _, fs ++ [y], ys, es ++ [.atom k gs], ds', rfl, same_put sm2 hfo, upd_same, by rw [upd_ne nfl.symm]; exact hl2, hfs.app (.cons hy .nil), hys, ?_, rfl, by omega⟩
      simp only [places] at e0
      rw [List.append_assoc]; exact e0
    · refine ifF ca ⟨szL ds', by omega, _, fs, ys, es, ds', rfl, sm2, hf2, hl2, hfs, hys, ?_, rfl, by omega⟩
      have hp : places e = [] := by cases e <;> first | rfl | exact absurd rfl ct | exact absurd rfl ca
      rw [hp] at e0; exact e0
end
end Hc

namespace Hc
open PySem PySem.Spec PyProof.Rows L2 Hr
theorem call_lenS {X : Cx} : CallR X (.builtin "len") (fun xs H Q => ∃ p ys, xs = [.ref p] ∧ (SqL X.K H p ys ∨ SqT X.K H p ys) ∧ Q (.int ys.length) H) := call_len_seq
def spRk (C : Addr) : Sp := fun vs H Q _ => ∃ k t ds, vs = [.str k, .ref t] ∧ Is C H (.ref t) (.tup ds) ∧ Fit (.tup ds) ∧ ∀ H', Same H H' → Q (.int ((rank (.atom k ds) : Nat) : Int)) H'
def mostR (k : Str) : Nat := if k = "token" then 36 else 40
def spMost : Sp := fun vs H Q _ => ∃ k, vs = [.str k] ∧ Q (.int ((mostR k : Nat) : Int)) H
def isS : D → Bool | .str _ => true | _ => false
def isI : D → Bool | .int _ => true | _ => false
def isT : D → Bool | .tup _ => true | _ => false
def hasF (d : D) (z : Str) : Bool :=
  if z = "text" then isS d
  else if z = "number" then isI d
  else if z = "tuple" then isT d
  else if z = "hidden" then (match d with | .non => true | .tup ds => decide (ds.length = 4) | _ => false)
  else if z = "pages" then (match d with | .tup ds => decide (ds.length = 8) | _ => false)
  else true
def spHasF (C : Addr) : Sp := fun vs H Q _ => ∃ x d z, vs = [x, .str z] ∧ Is C H x d ∧ Q (.bl (hasF d z)) H
theorem inV2 (k : Str) : inV (.str k) [.str "seal", .str "page"] = (decide (k = "seal") || decide (k = "page")) := by
  have e : ∀ a b : Str, eqV (.str a) (.str b) = decide (b = a) := fun a b => by
    simp only [eqV]
    by_cases h : a = b
    · subst h; simp
    · simp [h, Ne.symm h, fun z : b = a => h z.symm]
  show ([V.str "seal", .str "page"].any fun y => eqV y (.str k)) = _
  rw [List.any_cons, List.any_cons, e, e]
  simp
section
variable {P : Program} {w : World} {K : PySem.W.Frag} {mg : Str → Option Value} {base : Heap} {f : Addr} {fd : FuncData} {C : Addr}
abbrev s_rank_of : Stmt := top 16
theorem sc_rank_of : FnScope ["word", "atom"] ["word"] (C8.fnScope s_rank_of) := C8.fnScope_by (by decide +kernel)
theorem ok_rank_of (F : C8.Def K mg "rank_of" s_rank_of f fd) (b : Binds K fd ["word"] []) (T : Txt K mg w C) (c__places_of_atoms : C8.Cal P w K mg base 1 "_places_of_atoms" (spPlaces C) []) : C8.Cal P w K mg base 2 "rank_of" (spN C Fit rank) [] := by
  refine C8.cal0 F b .nil sc_rank_of (fun vs H Q E h => ?_) (fun cdv A outer s H vs Q E hr h => ?_)
  · obtain ⟨x, d, rfl, _⟩ := h; rfl
  obtain ⟨x, d, rfl, hx, hz, q⟩ := h
  refine ⟨_, (pss_one (ps_ret (pe_callBK (call_maxDK rfl) rfl T.z_max bt_max (pa_cons (pe_lc (own := [("atom", 1)]) (te := tFld K (tVar 1) "rank") (g := gName 1) rfl sc_rank_of.nd (pi_list (C8.pe_c c__places_of_atoms hr (by first | decide | omega) rfl (pa_cons (pv 0) pa_nil))) (blkOk_by (own := [("atom", 1)]) (N := ["word", "atom"]) (sc := C8.fnScope s_rank_of) (by decide +kernel)) (fun _ _ _ _ _ => (pg_name (i := 1) sc_rank_of.nd rfl (Or.inl rfl))) (fun _ _ _ _ _ => pts_nil) (fun _ _ _ _ _ => (pe_fld (pv 1) rfl))) pa_nil) (pk_cons pe_int pk_nil)))), ?_⟩
  refine ⟨x, rfl, x, d, rfl, hx, hz, fun H1 p xs sm hp hl is => ⟨p, rfl, ⟨xs, SqL.of hl⟩, fun Dl hD => ?_⟩⟩
  have npD : p ≠ Dl := fun z => by rw [z] at hl; rw [hl] at hD; cases hD
  refine lc_list (K := K) (a := p) (xs := xs) (fun i H3 => Same H1 H3 ∧ H3 Dl = some (.lst (((places d).take i).map fun e => V.int ((rank e : Nat) : Int)))) ⟨same_new hD, upd_same⟩ (fun i H3 _ h => SqL.of (h.1 _ _ hl)) ?_ ?_
  · rintro i z H3 hi ⟨s3, hz3⟩
    obtain ⟨e, he, hie⟩ := is.at hi
    obtain ⟨k, gs, rfl⟩ := places_atom d e (List.mem_of_getElem? he)
    refine ⟨rfl, yes ?_⟩
    have hie3 := hie.same s3
    cases hie3 with
    | @atom aa dx at_ _ axs _ h1 h2 h3 =>
      have hlt := (List.getElem?_eq_some_iff.mp he).1
      have hpl := places_len d
      have hzz := hz.1
      refine ⟨_, rfl, aa, C, dx, _, _, rfl, h1, T.cl.cl, T.cl.nR, rfl, _, hz3, Nat.lt_of_lt_of_le (show _ < 1000001 by rw [List.length_map, List.length_take]; omega) (by decide), same_put s3 hD, ?_⟩
      rw [upd_same, List.take_add_one, he, List.map_append]; rfl
  · rintro H3 ⟨s3, hz3⟩
    rw [is.len, List.take_of_length_le (Nat.le_refl _)] at hz3
    refine ⟨Dl, (places d).map fun e => ((rank e : Nat) : Int), 0, rfl, rfl, SqL.of (by rw [List.map_map]; exact hz3), fun m h0 h1 => ?_⟩
    have em : m = ((rank d : Nat) : Int) := by
      obtain ⟨r1, r2⟩ := places_rank d
      by_cases hp0 : places d = []
      · have hr0 : ¬ 0 < rank d := fun z => by
          obtain ⟨e, he, _⟩ := r2 z
          rw [hp0] at he; cases he
        rw [h0 (by rw [hp0]; rfl)]; omega
      · obtain ⟨hm, hall⟩ := h1 (by simpa using hp0)
        obtain ⟨e, he, rfl⟩ := List.mem_map.mp hm
        have h5 := r1 e he
        have hpos : 0 < rank d := by
          obtain ⟨k, gs, rfl⟩ := places_atom d e he
          have : 0 < rank (.atom k gs) := by simp only [rank]; split <;> omega
          omega
        obtain ⟨e2, he2, hr2⟩ := r2 hpos
        have := hall _ (List.mem_map.mpr ⟨e2, he2, rfl⟩)
        omega
    rw [em]
    exact q H3 (sm.trans s3)
abbrev s__rank_of_atom : Stmt := top 23
theorem sc__rank_of_atom : FnScope ["kind", "term"] ["kind", "term"] (C8.fnScope s__rank_of_atom) := C8.fnScope_by (by decide +kernel)
theorem ok__rank_of_atom (F : C8.Def K mg "_rank_of_atom" s__rank_of_atom f fd) (b : Binds K fd ["kind", "term"] []) (T : Txt K mg w C) (c_rank_of : C8.Cal P w K mg base 2 "rank_of" (spN C Fit rank) []) : C8.Cal P w K mg base 3 "_rank_of_atom" (spRk C) [] := by
  refine C8.cal0 F b .nil sc__rank_of_atom (fun vs H Q E h => ?_) (fun cdv A outer s H vs Q E hr h => ?_)
  · obtain ⟨k, t, ds, rfl, _⟩ := h; rfl
  obtain ⟨k, t, ds, rfl, hx, hz, q⟩ := h
  refine ⟨_, (pss_cons (ps_if (pt_cmpR op_in_seq (pv 0) (pe_tup (pa_cons pe_str (pa_cons pe_str pa_nil))) (by with_unfolding_all rfl)) (pss_one (ps_ret pe_int)) pss_nil)
      (pss_one (ps_ret (pe_op op_add (C8.pe_c c_rank_of hr (by first | decide | omega) rfl (pa_cons (pv 1) pa_nil)) pe_int)))), ?_⟩
  refine ⟨_, rfl, (by show 2 ≤ sizeLine; decide), fun u hu => ?_⟩
  have s1 := same_new (o := .tup [.str "seal", .str "page"]) hu
  refine ⟨u, _, rfl, .inr (SqT.of upd_same), rfl, rfl, _, rfl, ?_⟩
  show (if (inV (.str k) [.str "seal", .str "page"]) = true then _ else _)
  rw [inV2]
  by_cases c : k = "seal" ∨ k = "page"
  · have e : rank (.atom k ds) = 1 := by simp only [rank]; rw [if_pos c]
    rw [e] at q
    refine bT (by simpa using c) (q _ s1)
  · have e : rank (.atom k ds) = rankL ds + 1 := by simp only [rank]; rw [if_neg c]
    rw [e] at q
    refine bF (by simpa using c) ⟨_, rfl, _, .tup ds, rfl, hx.same s1, hz, fun H2 s2 => ⟨_, _, rfl, rfl, ?_⟩⟩
    have q2 := q H2 (s1.trans s2)
    have e2 : (((rankL ds + 1 : Nat)) : Int) = ((rank (.tup ds) : Nat) : Int) + 1 := by simp only [rank]; omega
    rw [e2] at q2
    exact q2
abbrev s__most_rank : Stmt := top 24
theorem sc__most_rank : FnScope ["kind"] ["kind"] (C8.fnScope s__most_rank) := C8.fnScope_by (by decide +kernel)
theorem ok__most_rank (F : C8.Def K mg "_most_rank" s__most_rank f fd) (b : Binds K fd ["kind"] []) (T : Txt K mg w C) : C8.Cal P w K mg base 1 "_most_rank" spMost [] := by
  refine C8.cal0 F b .nil sc__most_rank (fun vs H Q E h => ?_) (fun cdv A outer s H vs Q E hr h => ?_)
  · obtain ⟨k, rfl, _⟩ := h; rfl
  obtain ⟨k, rfl, q⟩ := h
  refine ⟨_, (pss_one (ps_ret (pe_ifExp (pt_cmpR op_eq (pv 0) pe_str (nomark _)) (C8.pe_gc rfl T.c_MOST_RANK_HOST) (C8.pe_gc rfl T.c_MOST_RANK)))), ?_⟩
  refine ⟨_, rfl, rfl, _, rfl, ?_⟩
  unfold mostR at q
  by_cases c : k = "token"
  · rw [if_pos c] at q
    exact ifT (congrArg V.str c) q
  · rw [if_neg c] at q
    exact ifF (fun z => c (V.str.inj z)) q
abbrev s__has_form : Stmt := top 22
theorem sc__has_form : FnScope ["part", "form"] ["part", "form"] (C8.fnScope s__has_form) := C8.fnScope_by (by decide +kernel)
theorem ok__has_form (F : C8.Def K mg "_has_form" s__has_form f fd) (b : Binds K fd ["part", "form"] []) (T : Txt K mg w C) : C8.Cal P w K mg base 1 "_has_form" (spHasF C) [] := by
  refine C8.cal0 F b .nil sc__has_form (fun vs H Q E h => ?_) (fun cdv A outer s H vs Q E hr h => ?_)
  · obtain ⟨x, d, z, rfl, _⟩ := h; rfl
  obtain ⟨x, d, z, rfl, hx, q⟩ := h
  refine ⟨_, (pss_cons (ps_if (pt_cmpR op_eq (pv 1) pe_str (nomark _)) (pss_one (ps_ret (pe_cmpR (op_isTyA (C := C)) (pe_callTy (call_typeA (C := C)) rfl T.z_type bt_type (pa_cons (pv 0) pa_nil)) (pe_bltn (v := .ty "str") rfl T.z_str bt_str rfl) (nomark _)))) pss_nil)
      (pss_cons (ps_if (pt_cmpR op_eq (pv 1) pe_str (nomark _)) (pss_one (ps_ret (pe_cmpR (op_isTyA (C := C)) (pe_callTy (call_typeA (C := C)) rfl T.z_type bt_type (pa_cons (pv 0) pa_nil)) (pe_bltn (v := .ty "int") rfl T.z_int bt_int rfl) (nomark _)))) pss_nil)
      (pss_cons (ps_if (pt_cmpR op_eq (pv 1) pe_str (nomark _)) (pss_one (ps_ret (pe_cmpR (op_isTyA (C := C)) (pe_callTy (call_typeA (C := C)) rfl T.z_type bt_type (pa_cons (pv 0) pa_nil)) (pe_bltn (v := .ty "tuple") rfl T.z_tuple bt_tuple rfl) (nomark _)))) pss_nil)
      (pss_cons (ps_if (pt_cmpR op_eq (pv 1) pe_str (nomark _)) (pss_one (ps_ret (pe_or (pe_cmpR op_isN (pv 0) pe_non (nomark _)) (pe_one (pe_and (pe_cmpR (op_isTyA (C := C)) (pe_callTy (call_typeA (C := C)) rfl T.z_type bt_type (pa_cons (pv 0) pa_nil)) (pe_bltn (v := .ty "tuple") rfl T.z_tuple bt_tuple rfl) (nomark _)) (pe_one (pe_cmpR op_eq (pe_callB call_lenS rfl T.z_len bt_len (pa_cons (pv 0) pa_nil)) pe_int (nomark _)))))))) pss_nil)
      (pss_cons (ps_if (pt_cmpR op_eq (pv 1) pe_str (nomark _)) (pss_one (ps_ret (pe_and (pe_cmpR (op_isTyA (C := C)) (pe_callTy (call_typeA (C := C)) rfl T.z_type bt_type (pa_cons (pv 0) pa_nil)) (pe_bltn (v := .ty "tuple") rfl T.z_tuple bt_tuple rfl) (nomark _)) (pe_one (pe_cmpR op_eq (pe_callB call_lenS rfl T.z_len bt_len (pa_cons (pv 0) pa_nil)) pe_int (nomark _)))))) pss_nil)
      (pss_one (ps_ret pe_bl))))))), ?_⟩
  have q := q
  unfold hasF at q
  have kS : decide (kyV C d = .ty "str") = isS d := by cases d <;> simp [kyV, isS]
  have kI : decide (kyV C d = .ty "int") = isI d := by cases d <;> simp [kyV, isI]
  have kT : decide (kyV C d = .ty "tuple") = isT d := by cases d <;> simp [kyV, isT]
  refine ⟨_, rfl, rfl, _, rfl, ?_⟩
  by_cases c1 : z = "text"
  · rw [if_pos c1] at q
    refine ifT (congrArg V.str c1) ⟨x, rfl, x, d, rfl, hx, kyV_ok d, .inl ⟨_, rfl⟩, ?_⟩
    rw [kS]; exact q
  rw [if_neg c1] at q
  refine ifF (fun y => c1 (V.str.inj y)) ⟨_, rfl, rfl, _, rfl, ?_⟩
  by_cases c2 : z = "number"
  · rw [if_pos c2] at q
    refine ifT (congrArg V.str c2) ⟨x, rfl, x, d, rfl, hx, kyV_ok d, .inl ⟨_, rfl⟩, ?_⟩
    rw [kI]; exact q
  rw [if_neg c2] at q
  refine ifF (fun y => c2 (V.str.inj y)) ⟨_, rfl, rfl, _, rfl, ?_⟩
  by_cases c3 : z = "tuple"
  · rw [if_pos c3] at q
    refine ifT (congrArg V.str c3) ⟨x, rfl, x, d, rfl, hx, kyV_ok d, .inl ⟨_, rfl⟩, ?_⟩
    rw [kT]; exact q
  rw [if_neg c3] at q
  refine ifF (fun y => c3 (V.str.inj y)) ⟨_, rfl, rfl, _, rfl, ?_⟩
  by_cases c4 : z = "hidden"
  · rw [if_pos c4] at q
    refine ifT (congrArg V.str c4) ⟨x, rfl, rfl, _, rfl, ?_⟩
    cases hx with
    | non => exact iteT q
    | @tup a xs ds ht ha =>
      have hl := ha.len
      refine iteF ⟨_, rfl, _, .tup ds, rfl, .tup ht ha, kyV_ok _, .inl ⟨_, rfl⟩, _, rfl, ?_⟩
      refine ifT rfl ⟨_, rfl, a, xs, rfl, .inr (SqT.of ht), rfl, ?_⟩
      have e : decide (V.int (xs.length : Int) = V.int 4) = decide (ds.length = 4) := by
        rw [hl]; by_cases c : ds.length = 4
        · rw [c]; rfl
        · rw [decide_eq_false c, decide_eq_false fun y => c (by have := V.int.inj y; omega)]
      rw [e]; exact q
    | bl y => exact iteF ⟨_, rfl, _, .bl y, rfl, .bl y, kyV_ok _, .inl ⟨_, rfl⟩, _, rfl, ifF (by simp [kyV]) q⟩
    | int y => exact iteF ⟨_, rfl, _, .int y, rfl, .int y, kyV_ok _, .inl ⟨_, rfl⟩, _, rfl, ifF (by simp [kyV]) q⟩
    | str y => exact iteF ⟨_, rfl, _, .str y, rfl, .str y, kyV_ok _, .inl ⟨_, rfl⟩, _, rfl, ifF (by simp [kyV]) q⟩
    | lst h1 h2 => exact iteF ⟨_, rfl, _, .lst _, rfl, .lst h1 h2, kyV_ok _, .inl ⟨_, rfl⟩, _, rfl, ifF (by simp [kyV]) q⟩
    | dct h1 => exact iteF ⟨_, rfl, _, .dct, rfl, .dct h1, kyV_ok _, .inl ⟨_, rfl⟩, _, rfl, ifF (by simp [kyV]) q⟩
    | atom h1 h2 h3 => exact iteF ⟨_, rfl, _, .atom _ _, rfl, .atom h1 h2 h3, kyV_ok _, .inl ⟨_, rfl⟩, _, rfl, ifF (by simp [kyV]) q⟩
  rw [if_neg c4] at q
  refine ifF (fun y => c4 (V.str.inj y)) ⟨_, rfl, rfl, _, rfl, ?_⟩
  by_cases c5 : z = "pages"
  · rw [if_pos c5] at q
    refine ifT (congrArg V.str c5) ⟨x, rfl, x, d, rfl, hx, kyV_ok d, .inl ⟨_, rfl⟩, _, rfl, ?_⟩
    by_cases ct : kyV C d = .ty "tuple"
    · obtain ⟨ds, rfl⟩ := kyV_tup.mp ct
      cases hx with
      | @tup a xs _ ht ha =>
        have hl := ha.len
        refine ifT ct ⟨_, rfl, a, xs, rfl, .inr (SqT.of ht), rfl, ?_⟩
        have e : decide (V.int (xs.length : Int) = V.int 8) = decide (ds.length = 8) := by
          rw [hl]; by_cases c : ds.length = 8
          · rw [c]; rfl
          · rw [decide_eq_false c, decide_eq_false fun y => c (by have := V.int.inj y; omega)]
        rw [e]; exact q
    · refine ifF ct ?_
      cases d <;> first | exact q | exact absurd rfl ct
  rw [if_neg c5] at q
  exact ifF (fun y => c5 (V.str.inj y)) q
end
end Hc

namespace Hc
open PySem PySem.Spec PyProof.Rows L2 Hr
theorem walk_zipT {K : PySem.W.Frag} {a b : Addr} {xs ys : List V} {n : Nat} (hn : n = min xs.length ys.length) : Walk (RZ.ItzT K a b) n (fun H => SqT K H a xs ∧ SqT K H b ys) (YPair (fun i => xs[i]?) (fun i => ys[i]?)) := by
  subst hn
  refine ⟨fun i _ hi q => ?_, fun _ q => ⟨xs, ys, q.1, q.2, by omega⟩, fun i H v H' _ q y => ?_⟩
  · have h1 : i < xs.length := by omega
    have h2 : i < ys.length := by omega
    exact ⟨xs, ys, xs[i], ys[i], q.1, q.2, by simp [h1], by simp [h2]⟩
  · obtain ⟨t, x, z, e1, e2, e3, e4, e5⟩ := y
    exact ⟨t, x, z, e1, e2, e3, e4 xs q.1, e5 ys q.2⟩
def formsOf (k : Str) : Option (List Str) :=
  if k = "token" then some ["text", "tuple", "word"]
  else if k = "challenge" then some ["text", "number"]
  else if k = "seal" then some ["text", "number", "number", "hidden"]
  else if k = "page" then some ["text", "number", "number", "hidden"]
  else if k = "ticket" then some ["text", "number", "text", "tuple", "pages", "tuple"]
  else none
def partOk (d : D) (z : Str) : Bool := okW 40 40 0 d && hasF d z
def isTermK (k : Str) (ds : List D) : Bool := match formsOf k with
  | some fs => decide (ds.length = fs.length) && (ds.zip fs).all fun p => partOk p.1 p.2
  | none => false
def isTermD : D → D → Bool
  | .str k, .tup ds => isTermK k ds
  | _, _ => false
def KindOk : D → Prop
  | .str k => k = "token" ∨ k = "challenge" ∨ k = "seal" ∨ k = "page" ∨ k = "ticket" ∨ k = "key"
  | _ => True
theorem forms_at {K : PySem.W.Frag} {mg : Str → Option Value} {w : World} {C : Addr} (T : Txt K mg w C) : ∃ Fo, (∃ u, mg "_FORMS" = some u ∧ RelV (.ref Fo) u) ∧ (∃ es n, KDict K w Fo es n) ∧
    ∀ k : Str, KindOk (.str k) → (∃ t fs, formsOf k = some fs ∧ KDct K w Fo k (.ref t) ∧ KTup K t fs) ∨ (formsOf k = none ∧ PySem.W.nsIn K Fo k = some none) := by
  obtain ⟨Fo, t1, t2, t3, t4, t5, gF, KD, d1, d2, d3, d4, d5, d6, k1, k2, k3, k4, k5⟩ := T.forms
  refine ⟨Fo, gF, KD, fun k hk => ?_⟩
  rcases hk with rfl | rfl | rfl | rfl | rfl | rfl
  · exact .inl ⟨t1, _, by decide +kernel, d1, k1⟩
  · exact .inl ⟨t2, _, by decide +kernel, d2, k2⟩
  · exact .inl ⟨t3, _, by decide +kernel, d3, k3⟩
  · exact .inl ⟨t4, _, by decide +kernel, d4, k4⟩
  · exact .inl ⟨t5, _, by decide +kernel, d5, k5⟩
  · exact .inr ⟨by decide +kernel, d6⟩
def spTerm (C : Addr) : Sp := fun vs H Q _ => ∃ xk xt dk dt, vs = [xk, xt] ∧ Is C H xk dk ∧ Is C H xt dt ∧ KindOk dk ∧ Fit dt ∧ ∀ H', Same H H' → Q (.bl (isTermD dk dt)) H'
theorem Fit.part {ds : List D} {d : D} (h : Fit (.tup ds)) (hd : d ∈ ds) : Fit d := by
  refine ⟨?_, txlL_mem (by simpa [txl] using h.2) hd⟩
  have h1 := h.1
  simp only [sz] at h1
  have : sz d ≤ szL ds := by
    clear h h1
    induction ds with
    | nil => cases hd
    | cons x r ih =>
      simp only [szL]
      rcases List.mem_cons.mp hd with rfl | hd
      · omega
      · have := ih hd; omega
  omega
def spInit (C : Addr) : Sp := fun vs H Q _ => ∃ p dx k t ds, vs = [.ref p, .str k, .ref t] ∧ H p = some (.ins C dx []) ∧ Is C H (.ref t) (.tup ds) ∧ isTermK k ds = true ∧ rank (.atom k ds) ≤ mostR k ∧ Fit (.tup ds) ∧
  ∀ H', H' p = some (.ins C dx (atF k t (rank (.atom k ds)))) → (∀ b o, H b = some o → b ≠ p → H' b = some o) → Q .non H'
theorem put_at (k : Str) (t : Addr) (r : Nat) : putF "_stripped" .non (putF "rank" (.int (r : Int)) (putF "term" (.ref t) (putF "kind" (.str k) []))) = atF k t r := by
  have n1 : ¬ (("kind" : Str) = "term") := by decide +kernel
  have n2 : ¬ (("kind" : Str) = "rank") := by decide +kernel
  have n3 : ¬ (("term" : Str) = "rank") := by decide +kernel
  have n4 : ¬ (("kind" : Str) = "_stripped") := by decide +kernel
  have n5 : ¬ (("term" : Str) = "_stripped") := by decide +kernel
  have n6 : ¬ (("rank" : Str) = "_stripped") := by decide +kernel
  simp [putF, atF, n1, n2, n3, n4, n5, n6]
theorem term_kind {k : Str} {ds : List D} (h : isTermK k ds = true) : KindOk (.str k) := by
  unfold isTermK formsOf at h
  unfold KindOk
  by_cases c1 : k = "token"
  · exact .inl c1
  by_cases c2 : k = "challenge"
  · exact .inr (.inl c2)
  by_cases c3 : k = "seal"
  · exact .inr (.inr (.inl c3))
  by_cases c4 : k = "page"
  · exact .inr (.inr (.inr (.inl c4)))
  by_cases c5 : k = "ticket"
  · exact .inr (.inr (.inr (.inr (.inl c5))))
  rw [if_neg c1, if_neg c2, if_neg c3, if_neg c4, if_neg c5] at h
  cases h
section
variable {P : Program} {w : World} {K : PySem.W.Frag} {mg : Str → Option Value} {base : Heap} {f : Addr} {fd : FuncData} {C : Addr}
abbrev s__is_term : Stmt := top 21
theorem sc__is_term : FnScope ["kind", "term", "forms", "part", "form"] ["kind", "term"] (C8.fnScope s__is_term) := C8.fnScope_by (by decide +kernel)
theorem ok__is_term (F : C8.Def K mg "_is_term" s__is_term f fd) (b : Binds K fd ["kind", "term"] []) (T : Txt K mg w C) (c_is_word : C8.Cal P w K mg base 3 "is_word" (spB C Fit (okW 40 40 0)) []) (c__has_form : C8.Cal P w K mg base 1 "_has_form" (spHasF C) []) : C8.Cal P w K mg base 4 "_is_term" (spTerm C) [] := by
  refine C8.cal0 F b .nil sc__is_term (fun vs H Q E h => ?_) (fun cdv A outer s H vs Q E hr h => ?_)
  · obtain ⟨xk, xt, dk, dt, rfl, _⟩ := h; rfl
  obtain ⟨xk, xt, dk, dt, rfl, hk, ht, hok, hz, q⟩ := h
  obtain ⟨Fo, gF, ⟨es, n, KD⟩, hf⟩ := forms_at T
  refine ⟨_, (pss_cons (ps_if (PW.pt (pw_or (pt_cmpR (op_isNotTyA (C := C)) (pe_callTy (call_typeA (C := C)) rfl T.z_type bt_type (pa_cons (pv 0) pa_nil)) (pe_bltn (v := .ty "str") rfl T.z_str bt_str rfl) (nomark _)) (pw_or (pt_cmpR (op_notIn_kd KD) (pv 0) (C8.pe_gc rfl gF) (by with_unfolding_all rfl)) (pw_or1 (pt_cmpR (op_isNotTyA (C := C)) (pe_callTy (call_typeA (C := C)) rfl T.z_type bt_type (pa_cons (pv 1) pa_nil)) (pe_bltn (v := .ty "tuple") rfl T.z_tuple bt_tuple rfl) (nomark _)))))) (pss_one (ps_ret pe_bl)) pss_nil)
      (pss_cons (ps_set (i := 2) sc__is_term.nd rfl (Or.inl rfl) (pe_ix ix_kdict (C8.pe_gc rfl gF) (pv 0) (fun _ _ => rfl)))
      (pss_cons (ps_if (pt_cmpR op_ne (pe_callB call_lenS rfl T.z_len bt_len (pa_cons (pv 1) pa_nil)) (pe_callB call_lenS rfl T.z_len bt_len (pa_cons (pv 2) pa_nil)) (nomark _)) (pss_one (ps_ret pe_bl)) pss_nil)
      (pss_one (ps_ret (pe_callB (cr_all rfl) rfl T.z_all bt_all (pa_cons (pe_lc (own := [("part", 3), ("form", 4)]) (g := gTup K 2 (gCons (gName 3) (gCons (gName 4) gNil))) rfl sc__is_term.nd (RZ.pi_zipA rfl T.z_zip (pa_cons (pv 1) (pa_cons (pv 2) pa_nil))) (blkOk_by (own := [("part", 3), ("form", 4)]) (N := ["kind", "term", "forms", "part", "form"]) (sc := C8.fnScope s__is_term) (by decide +kernel)) (fun _ _ _ _ _ => (pg_tup rfl (pgs_cons (pg_name (i := 3) sc__is_term.nd rfl (Or.inl rfl)) (pgs_cons (pg_name (i := 4) sc__is_term.nd rfl (Or.inl rfl)) pgs_nil)))) (fun _ _ _ _ _ => pts_nil) (fun _ _ _ _ _ => (pe_and (C8.pe_c c_is_word hr (by first | decide | omega) rfl (pa_cons (pv 3) pa_nil)) (pe_one (C8.pe_c c__has_form hr (by first | decide | omega) rfl (pa_cons (pv 3) (pa_cons (pv 4) pa_nil))))))) pa_nil))))))), ?_⟩
  refine ⟨_, rfl, xk, dk, rfl, hk, kyV_ok dk, .inl ⟨_, rfl⟩, _, rfl, ?_⟩
  by_cases c1 : kyV C dk = .ty "str"
  · obtain ⟨k, rfl⟩ := kyV_str.mp c1
    rw [decide_eq_true c1]
    cases hk
    rcases hf k hok with ⟨tf, fs, e1, kd, kt⟩ | ⟨e1, kn⟩
    · obtain ⟨es', n', u, kl, kk, kn, ru⟩ := id kd
      refine iteF ⟨_, rfl, k, some u, rfl, rfl, kn, _, rfl, iteF ?_⟩
      refine ⟨_, rfl, xt, dt, rfl, ht, kyV_ok dt, .inl ⟨_, rfl⟩, _, rfl, ?_⟩
      by_cases c2 : kyV C dt = .ty "tuple"
      · obtain ⟨ds, rfl⟩ := kyV_tup.mp c2
        rw [decide_eq_true c2]
        cases ht with
        | @tup ta xs _ hta hxs =>
          have hl := hxs.len
          refine iteF ⟨_, rfl, Fo, k, _, rfl, rfl, kd, ?_⟩
          refine ⟨_, rfl, ta, xs, rfl, .inr (SqT.of hta), _, rfl, tf, _, rfl, .inr (kt H), rfl, _, rfl, ?_⟩
          have eT : isTermD (.str k) (.tup ds) = (decide (ds.length = fs.length) && (ds.zip fs).all fun p => partOk p.1 p.2) := by
            simp only [isTermD, isTermK, e1]
          rw [eT] at q
          by_cases c3 : ds.length = fs.length
          · refine bF (by rw [hl, List.length_map, c3]; simp) ?_
            rw [decide_eq_true c3, Bool.true_and] at q
            refine ⟨_, rfl, _, rfl, ta, tf, xs, fs.map V.str, rfl, .inr ⟨SqT.of hta, kt H, fun Dl hD => ?_⟩⟩
            have hmin : ds.length = min xs.length (fs.map V.str).length := by rw [hl, List.length_map]; omega
            refine lc_it (walk_zipT (K := K) (a := ta) (b := tf) (xs := xs) (ys := fs.map V.str) hmin) (fun i H3 => Same H H3 ∧ H3 Dl = some (.lst (((ds.zip fs).take i).map fun p => V.bl (partOk p.1 p.2)))) ⟨same_new hD, upd_same⟩ (fun i H3 _ h => ⟨SqT.of (h.1 _ _ hta), kt H3⟩) ?_ ?_
            · rintro i v H3 H4 hi ⟨s3, hz3⟩ ⟨t, x, y, rfl, nt, rfl, ex, ey⟩
              have ex : xs[i]? = some x := ex
              obtain ⟨d, hd, hx⟩ := hxs.at ex
              obtain ⟨z, hz2, rfl⟩ : ∃ z, fs[i]? = some z ∧ y = V.str z := by
                have ey : (fs.map V.str)[i]? = some y := ey
                rw [List.getElem?_map] at ey
                cases h : fs[i]? with
                | none => rw [h] at ey; cases ey
                | some z => rw [h] at ey; exact ⟨z, rfl, (Option.some.inj ey).symm⟩
              have s4 := same_new (o := .tup [x, .str z]) nt
              refine ⟨t, [x, .str z], rfl, SqT.of upd_same, rfl, x, [.str z], rfl, .str z, [], rfl, rfl, rfl, yes ?_⟩
              refine ⟨_, rfl, x, d, rfl, hx.same (s3.trans s4), hz.part (List.mem_of_getElem? hd), fun H5 s5 => ⟨_, rfl, ?_⟩⟩
              have hpz : (ds.zip fs)[i]? = some (d, z) := by rw [List.getElem?_zip_eq_some]; exact ⟨hd, hz2⟩
              have s35 := (s3.trans s4).trans s5
              have hz5 := s5 _ _ (s4 _ _ hz3)
              have fin : ∀ r, r = partOk d z → ∃ acc, H5 Dl = some (.lst acc) ∧ acc.length < sizeLine ∧ Same H (upd H5 Dl (.lst (acc ++ [.bl r]))) ∧ (upd H5 Dl (.lst (acc ++ [.bl r]))) Dl = some (.lst (((ds.zip fs).take (i + 1)).map fun p => V.bl (partOk p.1 p.2))) := fun r er => by
                subst er
                refine ⟨_, hz5, Nat.lt_of_lt_of_le (show _ < 1000001 by rw [List.length_map, List.length_take]; have := hz.1; have := len_szL ds; simp only [sz] at *; omega) (by decide), same_put s35 hD, ?_⟩
                rw [upd_same, List.take_add_one, hpz, List.map_append]; rfl
              cases ho : okW 40 40 0 d with
              | true => exact iteT ⟨_, rfl, _, rfl, x, d, z, rfl, hx.same s35, fin _ (by simp [partOk, ho])⟩
              | false => exact iteF (fin _ (by simp [partOk, ho]))
            · rintro H3 ⟨s3, hz3⟩
              have hzl : (ds.zip fs).length = ds.length := by rw [List.length_zip]; omega
              rw [List.take_of_length_le (by omega)] at hz3
              refine ⟨Dl, (ds.zip fs).map fun p => partOk p.1 p.2, rfl, SqL.of (by rw [List.map_map]; exact hz3), ?_⟩
              have e9 : ((ds.zip fs).map fun p => partOk p.1 p.2).all id = (ds.zip fs).all fun p => partOk p.1 p.2 := by rw [List.all_map]; rfl
              rw [e9]
              exact q H3 s3
          · refine bT (by rw [hl, List.length_map, decide_eq_false (fun z => c3 (by have := V.int.inj z; omega))]; rfl) ?_
            rw [decide_eq_false c3, Bool.false_and] at q
            exact q H (Same.refl H)
      · rw [decide_eq_false c2]
        have e : isTermD (.str k) dt = false := by cases dt <;> first | rfl | exact absurd rfl c2
        rw [e] at q
        exact iteT (q H (Same.refl H))
    · refine iteF ⟨_, rfl, k, none, rfl, rfl, kn, _, rfl, iteT ?_⟩
      have e : isTermD (.str k) dt = false := by cases dt <;> simp [isTermD, isTermK, e1]
      rw [e] at q
      exact q H (Same.refl H)
  · rw [decide_eq_false c1]
    have e : isTermD dk dt = false := by cases dk <;> first | rfl | exact absurd rfl c1
    rw [e] at q
    exact iteT (q H (Same.refl H))
abbrev s_Atom___init__ : Stmt := L2.inClass (top 17) 0
theorem sc_Atom___init__ : FnScope ["self", "kind", "term", "rank"] ["self", "kind", "term"] (C8.fnScope s_Atom___init__) := C8.fnScope_by (by decide +kernel)
theorem ok_init {fI : Addr} {fdI : FuncData} (M : Mk K C fI) (hm : mg "Atom" = some (.ref C)) (F : C8.Fun K "__init__" "Atom.__init__" s_Atom___init__ fI fdI) (b : Binds K fdI ["self", "kind", "term"] []) (T : Txt K mg w C)
    (c__is_term : C8.Cal P w K mg base 4 "_is_term" (spTerm C) []) (c__rank_of_atom : C8.Cal P w K mg base 3 "_rank_of_atom" (spRk C) []) (c__most_rank : C8.Cal P w K mg base 1 "_most_rank" spMost []) : C8.Mak P w K mg base 5 "Atom" C (spInit C) [] := by
  refine C8.mak0 M hm F b .nil sc_Atom___init__ (fun vs H Q E h => ?_) (fun cdv A outer s H vs Q E hr h => ?_)
  · obtain ⟨p, dx, k, t, ds, rfl, _⟩ := h; rfl
  obtain ⟨p, dx, k, t, ds, rfl, hp, hx, ht, hrk, hz, q⟩ := h
  refine ⟨_, (pss_cons (ps_if (pt_not (pt_val (C8.pe_c c__is_term hr (by first | decide | omega) rfl (pa_cons (pv 1) (pa_cons (pv 2) pa_nil))))) (pss_one ps_never) pss_nil)
      (pss_cons (ps_set (i := 3) sc_Atom___init__.nd rfl (Or.inl rfl) (C8.pe_c c__rank_of_atom hr (by first | decide | omega) rfl (pa_cons (pv 1) (pa_cons (pv 2) pa_nil))))
      (pss_cons (ps_if (pt_cmpR op_gt (pv 3) (C8.pe_c c__most_rank hr (by first | decide | omega) rfl (pa_cons (pv 1) pa_nil)) (nomark _)) (pss_one ps_never) pss_nil)
      (pss_cons (ps_fld (pv 0) (pv 1) rfl)
      (pss_cons (ps_fld (pv 0) (pv 2) rfl)
      (pss_cons (ps_fld (pv 0) (pv 3) rfl)
      (pss_one (ps_fld (pv 0) pe_non rfl)))))))), ?_⟩
  refine ⟨_, rfl, _, rfl, _, _, .str k, .tup ds, rfl, .str k, hx, term_kind ht, hz, fun H1 s1 => ⟨_, rfl, ?_⟩⟩
  refine bF (by simp only [isTermD, ht]; rfl) ?_
  refine ⟨_, rfl, _, rfl, k, t, ds, rfl, hx.same s1, hz, fun H2 s2 => ?_⟩
  refine ⟨_, rfl, _, rfl, k, rfl, _, _, rfl, rfl, _, rfl, ?_⟩
  refine ifF (by omega) ?_
  have hp2 := s2 _ _ (s1 _ _ hp)
  refine ⟨_, rfl, _, rfl, p, C, dx, [], rfl, hp2, T.cl.cl, T.cl.nK, (by show 0 < 1000; decide), ?_⟩
  refine ⟨_, rfl, _, rfl, p, C, dx, _, rfl, upd_same, T.cl.cl, T.cl.nT, (by show 1 < 1000; decide), ?_⟩
  refine ⟨_, rfl, _, rfl, p, C, dx, _, rfl, upd_same, T.cl.cl, T.cl.nR, (by show 2 < 1000; decide), ?_⟩
  refine ⟨_, rfl, p, C, dx, _, rfl, upd_same, T.cl.cl, T.cl.nS, (by show 3 < 1000; decide), ?_⟩
  refine q _ (Eq.trans upd_same (congrArg (fun l => some (HO.ins C dx l)) (put_at k t _))) fun c o e n => ?_
  rw [upd_ne n, upd_ne n, upd_ne n, upd_ne n]
  exact s2 _ _ (s1 _ _ e)
end
end Hc

/-! == and != of an instance with an own == and something of another kind. -/
namespace Hr
open PySem PySem.Spec PyProof.Rows PySem.SeqAt
/-- what is asked of the class at C beside its own == -/
structure Oth (K : PySem.W.Frag) (C : Addr) : Prop where
  mo : PySem.W.mroIn K C (.type "object") = some true
  nn : PySem.W.findIn K (.ref C) "__ne__" = some (some (.builtin "object.__ne__"))
  sN : PySem.W.subIn K (.ref C) (.type "NoneType") = some false
  sI : PySem.W.subIn K (.ref C) (.type "int") = some false
  sS : PySem.W.subIn K (.ref C) (.type "str") = some false
  sT : PySem.W.subIn K (.ref C) (.type "tuple") = some false
theorem sub_bi {K : PySem.W.Frag} {C : Addr} {n : String} (h : n = "NoneType" ∨ n = "int" ∨ n = "str" ∨ n = "tuple") : PySem.W.subIn K (.type n) (.ref C) = some false := by
  rcases h with rfl | rfl | rfl | rfl
  · have e : fastBuiltinMro "NoneType" = some [.type "NoneType", .type "object"] := by decide +kernel
    show (fastBuiltinMro "NoneType").map (·.contains (.ref C)) = some false
    rw [e]; first | rfl | simp
  · have e : fastBuiltinMro "int" = some [.type "int", .type "object"] := by decide +kernel
    show (fastBuiltinMro "int").map (·.contains (.ref C)) = some false
    rw [e]; first | rfl | simp
  · have e : fastBuiltinMro "str" = some [.type "str", .type "object"] := by decide +kernel
    show (fastBuiltinMro "str").map (·.contains (.ref C)) = some false
    rw [e]; first | rfl | simp
  · have e : fastBuiltinMro "tuple" = some [.type "tuple", .type "object"] := by decide +kernel
    show (fastBuiltinMro "tuple").map (·.contains (.ref C)) = some false
    rw [e]; first | rfl | simp
section
variable {prog : Program} {w : World} {A : Around} {E : Value → Shared → Prop} {s : Shared} {K : PySem.W.Frag} {x C : Addr} {ox : Obj} {od : Option Obj} {b : Value}
theorem ne_entry {M : Model} {Q : Fin → Shared → Prop} (hu : A.units < cLine) (h : wpAny M A (callSpecialIfBound? (.ref x) (Str.ofString "__eq__") [b]) (fun r s' => ∃ v, r = some (.bool v) ∧ Q (.done (.ret (.bool (!v)))) s') E s) :
    wpAny M A (Builtin.«object.__ne__» ⟨[.ref x, b], []⟩) Q E s := by
  unfold Builtin.«object.__ne__»
  repeat (first
    | with_reducible refine wpAny_cRoomFor hu ?_
    | (refine wpAny_bind (m := callSpecialIfBound? (.ref x) (Str.ofString "__eq__") [b]) (wpAny_mono h (fun r s' hr => by
          obtain ⟨v, rfl, hq⟩ := hr
          repeat (first | exact hq | exact wpAny_pure hq | exact wpAny_truthy_bool hq | (refine wpAny_bind (m := truthy (.bool _)) (wpAny_truthy_bool ?_)) | wp_step)) fun _ _ e => e))
    | wp_step)
theorem ifBound_objNe {M : Model} {args : List Value} {Q : Option Value → Shared → Prop} (X : K.In s.heap) (I : PySem.W.InstAt s.heap x ox C od) (hs : PySem.W.findIn K (.ref C) "__ne__" = some (some (.builtin "object.__ne__")))
    (h : wpAny M A (call (.builtin "object.__ne__") (.ref x :: args)) (fun v => Q (some v)) E s) : wpAny M A (callSpecialIfBound? (.ref x) "__ne__" args) Q E s := by
  simp only [callSpecialIfBound?, bindSpecialIfBound?]
  refine wpAny_holding (wpAny_bind (wpAny_bind (wpAny_bind (I.type.here ((PySem.W.looks_findIn X hs).here ?_)))))
  refine wpAny_bind (wpAny_askSetting (wpAny_ite ?_))
  have last : wpAny M A (call (.builtin "object.__ne__") ([.ref x] ++ args) >>= fun v => pure (some v)) Q E s := wpAny_bind (wpAny_mono h (fun v s' g => wpAny_pure g) fun _ _ g => g)
  split
  · exact wpAny_bind (wpAny_of_eq (F.cmp_object.ne.bind _) (wpAny_pure (by exact last)))
  · exact wpAny_tryCatch (wpAny_bind (wpAny_of_eq (F.cmp_object.ne.bind _) (wpAny_pure (by exact last))))
/-- the own == is asked of the instance at x, it says v -/
def Own (prog : Program) (w : World) (A : Around) (E : Value → Shared → Prop) (x : Addr) (b : Value) (v : Bool) (J : Shared → Prop) (s : Shared) : Prop :=
  wpAny (model prog w) A (callSpecialIfBound? (.ref x) (Str.ofString "__eq__") [b]) (fun r s' => r = some (.bool v) ∧ J s') E s
theorem call_objNe {v : Bool} {J : Shared → Prop} {Q : Value → Shared → Prop} (hu : A.units < cLine) (X : K.In s.heap) (I : PySem.W.InstAt s.heap x ox C od) (hm : PySem.W.mroIn K C (.type "object") = some true)
    (h : Own prog w A.in1 E x b v J s) (q : ∀ s', J s' → Q (.bool (!v)) s') (hu1 : A.in1.units < cLine) : wpAny (model prog w) A (call (.builtin "object.__ne__") [.ref x, b]) Q E s :=
  wpAny_call (codeAny_call_builtin F.cmp_object.ne.plain F.cmpEntry_ne (PySem.W.check_slot F.cmpKind_ne F.cmpSplit_ne (I.type.andThen (PySem.W.looks_mroIn X hm)) (F.cmpArgs_ne _ _)
    (ne_entry hu1 (wpAny_mono h (fun r s' z => ⟨v, z.1, q s' z.2⟩) fun _ _ z => z))))
theorem try_eq {v : Bool} {J : Shared → Prop} (h : Own prog w A E x b v J s) : wpAny (model prog w) A (tryCompare (.ref x) "__eq__" b) (fun r s' => r = some (.bool v) ∧ J s') E s := by
  unfold tryCompare
  refine wpAny_bind (wpAny_mono h (fun r s' z => ?_) fun _ _ z => z)
  obtain ⟨rfl, j⟩ := z
  exact wpAny_pure ⟨rfl, j⟩
theorem try_ne {v : Bool} {J : Shared → Prop} (hu : A.units < cLine) (hu1 : A.in1.units < cLine) (X : K.In s.heap) (I : PySem.W.InstAt s.heap x ox C od) (o : Oth K C)
    (h : Own prog w A.in1 E x b v J s) : wpAny (model prog w) A (tryCompare (.ref x) "__ne__" b) (fun r s' => r = some (.bool (!v)) ∧ J s') E s := by
  unfold tryCompare
  refine wpAny_bind (ifBound_objNe X I o.nn (call_objNe hu X I o.mo h (fun s' j => ?_) hu1))
  exact wpAny_pure ⟨rfl, j⟩
/-- instance == something of a built-in type -/
theorem rc_left {T : String} {op : CmpOp} {v : Bool} {J : Shared → Prop} {Q : Value → Shared → Prop} (hu : A.units < cLine) (X : K.In s.heap) (I : PySem.W.InstAt s.heap x ox C od) (hb : s.TypeIs b T) (hT : T = "NoneType" ∨ T = "int" ∨ T = "str" ∨ T = "tuple")
    (h : wpAny (model prog w) A (tryCompare (.ref x) (cmpInfo op).2.1 b) (fun r s' => r = some (.bool v) ∧ J s') E s) (q : ∀ s', J s' → Q (.bool v) s') : wpAny (model prog w) A (richCompare op (.ref x) b) Q E s := by
  unfold richCompare
  simp only [oneThing_ref]
  refine wpAny_holding (wpAny_bind (wpAny_cRoomFor hu ?_))
  refine wpAny_bind (I.type.here (wpAny_bind (wpAny_typeOf hb ?_)))
  split
  · refine wpAny_bind ((PySem.W.looks_subIn X (sub_bi hT)).here ?_)
    simp only [Bool.false_eq_true, if_false]
    refine wpAny_bind (wpAny_mono h (fun r s' z => ?_) fun _ _ z => z)
    obtain ⟨rfl, j⟩ := z
    exact wpAny_pure (q s' j)
  · rename_i z
    exact absurd (by simp) z
/-- something of a built-in type == instance: the built-in one declines -/
theorem rc_right {T id : String} {op : CmpOp} {v : Bool} {J : Shared → Prop} {Q : Value → Shared → Prop} (hu : A.units < cLine) (X : K.In s.heap) (I : PySem.W.InstAt s.heap x ox C od) (hb : s.TypeIs b T)
    (hsub : PySem.W.subIn K (.ref C) (.type T) = some false) (hone : oneThing? op b (.ref x) = none) (sl : Slot T (cmpInfo op).2.1 id)
    (dec : wpAny (model prog w) A (call (.builtin id) [b, .ref x]) (fun v s' => v = .notImplemented ∧ s' = s) E s)
    (h : wpAny (model prog w) A (tryCompare (.ref x) (cmpInfo op).2.2 b) (fun r s' => r = some (.bool v) ∧ J s') E s) (q : ∀ s', J s' → Q (.bool v) s') : wpAny (model prog w) A (richCompare op b (.ref x)) Q E s := by
  have two : wpAny (model prog w) A (tryCompare b (cmpInfo op).2.1 (.ref x)) (fun r s' => r = none ∧ s' = s) E s :=
    wpAny_tryCompare_declines hb sl (wpAny_mono dec (fun v s' z => ⟨z.1, rfl, z.2⟩) fun _ _ z => z)
  unfold richCompare
  simp only [hone]
  refine wpAny_holding (wpAny_bind (wpAny_cRoomFor hu ?_))
  refine wpAny_bind (wpAny_typeOf hb (wpAny_bind (I.type.here ?_)))
  split
  · refine wpAny_bind ((PySem.W.looks_subIn X hsub).here ?_)
    simp only [Bool.false_eq_true, if_false, Bool.not_false, if_true]
    refine wpAny_bind (m := tryCompare b _ (.ref x)) (wpAny_mono two (fun r s1 z => ?_) fun _ _ z => z)
    obtain ⟨z1, z2⟩ := z
    subst z1
    subst z2
    refine wpAny_bind (m := tryCompare (.ref x) _ b) (wpAny_mono h (fun r s2 z => ?_) fun _ _ z => z)
    obtain ⟨rfl, j⟩ := z
    exact wpAny_pure (q s2 j)
  · rename_i z
    exact absurd (by simp) z
end
end Hr

namespace Hr
open PySem PySem.Spec PyProof.Rows PySem.SeqAt
open AutoSeq1 (wpAny_loadPart')
open MeetsSeq MeetsSeq2 MeetsSeq3 SeqRoads2
theorem int_eq_inst (b : Int) (u : Tok) (l C : Addr) (dx : Addr) : Meets (Builtin.«int.__eq__» ⟨[.int b u, .ref l], []⟩) (fun _ R s => s.heap.get? l = some { cls := .ref C, dict := some dx, data := .plain } ∧ R (.ok (.ret .notImplemented)) s) :=
  .of_wp fun prog w A R s h => by
    obtain ⟨hp, g, d, tk, os⟩ := s; obtain ⟨hl, h⟩ := h
    wp_walk using wpAny_loadPart' hl, wpAny_load hl
    exact ⟨_, rfl, h⟩
theorem int_ne_inst (b : Int) (u : Tok) (l C : Addr) (dx : Addr) : Meets (Builtin.«int.__ne__» ⟨[.int b u, .ref l], []⟩) (fun _ R s => s.heap.get? l = some { cls := .ref C, dict := some dx, data := .plain } ∧ R (.ok (.ret .notImplemented)) s) :=
  .of_wp fun prog w A R s h => by
    obtain ⟨hp, g, d, tk, os⟩ := s; obtain ⟨hl, h⟩ := h
    wp_walk using wpAny_loadPart' hl, wpAny_load hl
    exact ⟨_, rfl, h⟩
theorem str_eq_inst (b : Str) (u : Tok) (l C : Addr) (dx : Addr) : Meets (Builtin.«str.__eq__» ⟨[.str b u, .ref l], []⟩) (fun _ R s => s.heap.get? l = some { cls := .ref C, dict := some dx, data := .plain } ∧ R (.ok (.ret .notImplemented)) s) :=
  .of_wp fun prog w A R s h => by
    obtain ⟨hp, g, d, tk, os⟩ := s; obtain ⟨hl, h⟩ := h
    wp_walk using wpAny_loadPart' hl, wpAny_load hl
    exact ⟨_, rfl, h⟩
theorem str_ne_inst (b : Str) (u : Tok) (l C : Addr) (dx : Addr) : Meets (Builtin.«str.__ne__» ⟨[.str b u, .ref l], []⟩) (fun _ R s => s.heap.get? l = some { cls := .ref C, dict := some dx, data := .plain } ∧ R (.ok (.ret .notImplemented)) s) :=
  .of_wp fun prog w A R s h => by
    obtain ⟨hp, g, d, tk, os⟩ := s; obtain ⟨hl, h⟩ := h
    wp_walk using wpAny_loadPart' hl, wpAny_load hl
    exact ⟨_, rfl, h⟩
section
variable {prog : Program} {w : World} {A : Around} {E : Value → Shared → Prop} {s : Shared} {R : Result → Shared → Prop}
theorem tup_eq_inst {l x C dx : Addr} {items : Array Value} {n : Nat} {dd : Option Addr} {sl : Array (Option Value)} (hI : PySem.W.Looks (model prog w) s.heap (isSubtype (.ref C) (.type "tuple")) false) (hx : s.heap.get? x = some { cls := .ref C, dict := some dx, data := .plain })
    (hl : s.heap.get? l = some { cls := .type "tuple", dict := dd, data := .seq items n, slots := sl }) (h : R (.ok (.ret .notImplemented)) s) : wpAny (model prog w) A.in1 (Builtin.«tuple.__eq__» ⟨[.ref l, .ref x], []⟩) (GQ.FinOf prog w A R) (fun e s' => R (.error e) s') s := by
  obtain ⟨hp, g, d, tk, os⟩ := s
  wp_walk using wpAny_loadPart' hl, wpAny_loadPart' hx, hI.here
  exact h
theorem tup_ne_inst {l x C dx : Addr} {items : Array Value} {n : Nat} {dd : Option Addr} {sl : Array (Option Value)} (hI : PySem.W.Looks (model prog w) s.heap (isSubtype (.ref C) (.type "tuple")) false) (hx : s.heap.get? x = some { cls := .ref C, dict := some dx, data := .plain })
    (hl : s.heap.get? l = some { cls := .type "tuple", dict := dd, data := .seq items n, slots := sl }) (h : R (.ok (.ret .notImplemented)) s) : wpAny (model prog w) A.in1 (Builtin.«tuple.__ne__» ⟨[.ref l, .ref x], []⟩) (GQ.FinOf prog w A R) (fun e s' => R (.error e) s') s := by
  obtain ⟨hp, g, d, tk, os⟩ := s
  wp_walk using wpAny_loadPart' hl, wpAny_loadPart' hx, hI.here
  exact h
end
end Hr

/-! == of tuples whose items' == may run code, and may give False. -/
namespace Hr
open PySem PySem.Spec PyProof.Rows PySem.SeqAt
open AutoSeq1 (wpAny_loadPart')
open MeetsSeq MeetsSeq2 MeetsSeq3 SeqRoads2
section
variable {prog : Program} {w : World} {A : Around} {R : Result → Shared → Prop}
/-- all the pairs are equal, and there are as many -/
def allP (bs : Nat → Bool) (m n : Nat) : Bool := (List.range (min m n)).all bs && (m == n)
theorem allP_no {bs : Nat → Bool} {m n i : Nat} (hi : i < min m n) (h : bs i = false) : allP bs m n = false := by
  unfold allP
  have : (List.range (min m n)).all bs = false := by
    rw [List.all_eq_false]
    exact ⟨i, List.mem_range.mpr hi, by rw [h]; exact Bool.false_ne_true⟩
  rw [this]; rfl
theorem allP_yes {bs : Nat → Bool} {m n : Nat} (h : ∀ j, j < min m n → bs j = true) : allP bs m n = (m == n) := by
  unfold allP
  rw [List.all_eq_true.mpr fun j hj => h j (List.mem_range.mp hj)]; rfl
theorem tup_eqB {l b : Addr} {items items2 : Array Value} {n n2 : Nat} {dd dd2 : Option Addr} {sl sl2 : Array (Option Value)} {bs : Nat → Bool} {J : Shared → Prop}
    (turn : ∀ i (h1 : i < items.size) (h2 : i < items2.size) s, J s → wpAny (model prog w) A.in1 (eqBool items[i] items2[i]) (fun r s' => r = bs i ∧ J s') (fun e s' => R (.error e) s') s)
    (fin : ∀ s, J s → R (.ok (.ret (.bool (allP bs items.size items2.size)))) s) {s : Shared} (hl1 : s.heap.get? l = some { cls := .type "tuple", dict := dd, data := .seq items n, slots := sl }) (hb1 : s.heap.get? b = some { cls := .type "tuple", dict := dd2, data := .seq items2 n2, slots := sl2 }) (h : J s) :
    wpAny (model prog w) A.in1 (Builtin.«tuple.__eq__» ⟨[.ref l, .ref b], []⟩) (GQ.FinOf prog w A R) (fun e s' => R (.error e) s') s := by
  have f2 := AutoSeq1.sub_tuple_tuple
  have hZ : (items.toList.zip items2.toList).length = min items.size items2.size := by simp
  have h0 := h
  obtain ⟨hp, g, d, tk, os⟩ := s
  wp_walk using wpAny_loadPart' hl1, wpAny_loadPart' hb1, wpAny_forIn_list _ (fun rest b s' => b.1 = none ∧ ∃ i, rest = (items.toList.zip items2.toList).drop i ∧ i ≤ min items.size items2.size ∧ (∀ j, j < i → bs j = true) ∧ J s') _
  case turn =>
    rintro ⟨y, x⟩ rest b s' ⟨hb', i, hz, hi, hbs, hI⟩
    have hlt : i < (items.toList.zip items2.toList).length := by
      rcases Nat.lt_or_ge i (items.toList.zip items2.toList).length with h' | h'
      · exact h'
      · rw [List.drop_of_length_le h'] at hz; cases hz
    have hm : i < min items.size items2.size := hZ ▸ hlt
    have h1 : i < items.size := Nat.lt_of_lt_of_le hm (Nat.min_le_left _ _)
    have h2 : i < items2.size := Nat.lt_of_lt_of_le hm (Nat.min_le_right _ _)
    rw [List.drop_eq_getElem_cons hlt] at hz
    injection hz with hyx hrest
    have hy : y = items[i] := by have := congrArg Prod.fst hyx; simpa using this
    have hx : x = items2[i] := by have := congrArg Prod.snd hyx; simpa using this
    subst hy hx
    refine wpAny_bind (wpAny_mono (turn i h1 h2 s' hI) (fun r s2 q2 => ?_) fun _ _ x => x)
    obtain ⟨hr, q2⟩ := q2
    subst hr
    cases hbi : bs i with
    | true =>
      wp_walk
      exact ⟨rfl, i + 1, hrest, hm, fun j hj => by
        rcases Nat.lt_succ_iff_lt_or_eq.mp hj with h | rfl
        · exact hbs j h
        · exact hbi, q2⟩
    | false =>
      have hR := fin s2 q2
      rw [allP_no hm hbi] at hR
      wp_walk
      exact hR
  case fin =>
    rintro ⟨b1, b2⟩ s' ⟨hb', i, hz, hi, hbs, hI⟩
    simp only at hb'
    subst hb'
    have hge : min items.size items2.size ≤ i := by
      rcases Nat.lt_or_ge i (items.toList.zip items2.toList).length with h' | h'
      · rw [List.drop_eq_getElem_cons h'] at hz; cases hz
      · exact hZ ▸ h'
    have hR := fin s' hI
    rw [allP_yes fun j hj => hbs j (by omega)] at hR
    wp_walk
    simpa [Builtin.Tuple.tupleCompareSizes] using hR
  case h =>
    exact ⟨rfl, 0, rfl, Nat.zero_le _, fun j hj => absurd hj (Nat.not_lt_zero _), h0⟩
end
end Hr

namespace Hc
open PySem PySem.Spec PyProof.Rows L2 Hr PySem.SeqAt
mutual
def eqD : D → D → Bool
  | .tup a, .tup b => eqL a b
  | .atom k a, .atom k' b => decide (k = k') && eqL a b
  | .non, .non => true
  | .int i, .int j => decide (i = j)
  | .str x, .str y => decide (x = y)
  | _, _ => false
def eqL : List D → List D → Bool
  | [], [] => true
  | x :: a, y :: b => eqD x y && eqL a b
  | _, _ => false
end
mutual
/-- a word, whatever its depth -/
def wrd : D → Bool
  | .tup ds => wrdL ds
  | .atom k ds => wrdL ds && isTermK k ds
  | .non => true
  | .int _ => true
  | .str _ => true
  | _ => false
def wrdL : List D → Bool
  | [] => true
  | d :: ds => wrd d && wrdL ds
end
theorem eqL_app : ∀ {a b x y : List D}, a.length = b.length → eqL (a ++ x) (b ++ y) = (eqL a b && eqL x y)
  | [], [], x, y, _ => by simp [eqL]
  | p :: a, q :: b, x, y, h => by
    rw [List.cons_append, List.cons_append]
    simp only [eqL]
    rw [eqL_app (by simpa using h), Bool.and_assoc]
  | [], _ :: _, _, _, h => by simp at h
  | _ :: _, [], _, _, h => by simp at h
theorem eqL_len : ∀ {a b : List D}, a.length ≠ b.length → eqL a b = false
  | [], [], h => absurd rfl h
  | p :: a, q :: b, h => by
    simp only [eqL]
    rw [eqL_len (fun z => h (by simp [z])), Bool.and_false]
  | [], _ :: _, _ => rfl
  | _ :: _, [], _ => rfl
theorem wrdL_app : ∀ (a b : List D), wrdL (a ++ b) = (wrdL a && wrdL b)
  | [], b => by simp [wrdL]
  | x :: a, b => by rw [List.cons_append]; simp only [wrdL]; rw [wrdL_app a b, Bool.and_assoc]
def isAt : D → Bool | .atom _ _ => true | _ => false
def isTu : D → Bool | .tup _ => true | _ => false
/-- what the loop keeps -/
def LoopS (X : Cx) (pins : List (Addr × Obj)) (σ : L2.St) (H : Hp) (s' : Shared) : Prop := ∃ H', Inv X pins σ H' s' ∧ Same H H'
/-- an atom == something that is none -/
def spEqN (C : Addr) : Sp := fun vs H Q _ => ∃ x y d e, vs = [x, y] ∧ Is C H x d ∧ Is C H y e ∧ isAt d = true ∧ isAt e = false ∧ ∀ H', Same H H' → Q (.bl false) H'
structure OwnS (P : Program) (w : World) (K : PySem.W.Frag) (mg : Str → Option Value) (base : Heap) (n : Nat) (C : Addr) (sp : Sp) : Prop where
  ex : ∃ (f : Addr) (fd : FuncData) (ps : List Str), FnOk P w K mg base C8.CX0 n f fd ps sp ∧ PySem.W.findIn K (.ref C) "__eq__" = some (some (.ref f)) ∧ PySem.W.isFn K (.ref f) = true ∧ Binds K fd ps []
section
variable {X : Cx} {n : Nat} {C : Addr} {sp : Sp}
theorem own_run (O : OwnS X.prog X.w X.K X.mg X.base n C sp) {A : Around} {pins : List (Addr × Obj)} {s : Shared} {σ : L2.St} {H : Hp} {a dx : Addr} {fs : List (Str × V)} {y : V} {v : Value} {r : Bool} (sb : Sub X n A) (I : Inv X pins σ H s) (ha : H a = some (.ins C dx fs)) (ry : RelV y v)
    (hsp : sp [.ref a, y] H (fun z H' => z = .bl r ∧ Same H H') C8.E0) : Own X.prog X.w A X.xe a v r (LoopS X pins σ H) s := by
  obtain ⟨f, fd, ps, F, hs, hf, hb⟩ := O.ex
  obtain ⟨mA, J, _⟩ := ins_get I.hok ha
  obtain ⟨od, J, _⟩ := J.look
  have e0 : Env0 X.prog X.w X.K X.mg X.base A X.stack s H := by
    have e := I.env0
    exact ⟨by rw [sb.fr]; exact e.frames, e.mod, e.bs, e.bsz, e.funs, e.frf, e.hok, e.bare⟩
  have hl := F.len _ _ _ _ hsp
  have r2 : Vals [V.ref a, y] [Value.ref a, v] := .cons rfl (.cons ry .nil)
  refine PySem.W.ifBound_K I.kIn J hs hf (wpAny_call (codeAny_mono (F.run A X.stack s H ⟨[.ref a, v], []⟩ [.ref a, v] [.ref a, y] _ C8.E0 sb.room e0 (by
    have := hb s [.ref a, v] I.kIn (by simpa using hl)
    simpa using this) r2 hsp) fun r s' hq => ?_))
  cases r with
  | error e => exact C8.pass0 (E := C8.E0) pins σ H s e s' I hq
  | ok fl =>
    cases fl with
    | ret w =>
      obtain ⟨z, H', I', rz, ez, ex⟩ := I.after hq
      subst ez
      cases rz
      exact ⟨rfl, H', I', ex⟩
    | next => exact False.elim hq
    | brk => exact False.elim hq
    | cont => exact False.elim hq
end
section
variable {P : Program} {w : World} {K : PySem.W.Frag} {mg : Str → Option Value} {base : Heap} {f : Addr} {fd : FuncData} {C : Addr}
theorem kitA (T : Txt K mg w C) (d : D) : PySem.W.kitOne K (kyU C d) (.ref C) = some (isAt d) := by rw [T.kitC]; cases d <;> rfl
end
section
variable {X : Cx} {n : Nat} {C : Addr}
/-- != of two words of which not both are tuples and not both are atoms -/
def rNeMix (C : Addr) : R2 := fun x y H Q => ∃ d e, Is C H x d ∧ Is C H y e ∧ wrd d = true ∧ wrd e = true ∧ (isTu d && isTu e) = false ∧ (isAt d && isAt e) = false ∧ ∀ H', Same H H' → Q (.bl (!eqD d e)) H'
theorem op_neMix (O : OwnS X.prog X.w X.K X.mg X.base n C (spEqN C)) (o : Oth X.K C) (hr : Room (n + 1) X.A) : OpR X (compareOp .NotEq) (rNeMix C) := by
  intro pins s σ H x y v u Q I rx ry h
  obtain ⟨d, e, hx, hy, wd, we, ht, ha, q⟩ := h
  have sb : Sub X (n + 1) X.A := ⟨hr, rfl⟩
  have hu := hr.units0
  have hu1 := sb.in1.room.units0
  show wpAny (model X.prog X.w) X.A (richCompare .NotEq v u) (EP X pins σ Q) X.xe s
  have fin : ∀ (b : Bool), b = (!eqD d e) → ∀ s', LoopS X pins σ H s' → EP X pins σ Q (.bool b) s' := fun b hb s' j => by
    obtain ⟨H', I', e'⟩ := j
    rw [hb]
    exact ⟨.bl _, H', I', rfl, q H' e'⟩
  have here : LoopS X pins σ H s := ⟨H, I, Same.refl H⟩
  -- the own == says no
  have own : ∀ {a dx : Addr} {fs : List (Str × V)} {y : V} {v : Value} {d e : D}, H a = some (.ins C dx fs) → Is C H (.ref a) d → Is C H y e → RelV y v → isAt d = true → isAt e = false → Own X.prog X.w X.A.in1 X.xe a v false (LoopS X pins σ H) s :=
    fun u1 h1 h2 rv d1 e1 => own_run O sb.in1 I u1 rv ⟨_, _, _, _, rfl, h1, h2, d1, e1, fun H' s' => ⟨rfl, s'⟩⟩
  have inst : ∀ {a dx : Addr} {fs : List (Str × V)}, H a = some (.ins C dx fs) → ∃ od, PySem.W.InstAt s.heap a (PySem.W.instObj C dx) C (some od) := fun u1 => by
    obtain ⟨mA, J, _⟩ := ins_get I.hok u1
    obtain ⟨od, J, _⟩ := J.look
    exact ⟨od, J⟩
  have tups : ∀ {a : Addr} {xs : List V}, H a = some (.tup xs) → ∃ its : Array Value, s.heap.IsTuple a its := fun h => by
    obtain ⟨its, r, e, z⟩ := I.tuple (SqT.of h)
    exact ⟨_, e⟩
  have left : ∀ {a dx : Addr} {fs : List (Str × V)} {T : String}, H a = some (.ins C dx fs) → x = .ref a → s.TypeIs u T → (T = "NoneType" ∨ T = "int" ∨ T = "str" ∨ T = "tuple") → isAt d = true → isAt e = false → wpAny (model X.prog X.w) X.A (richCompare .NotEq v u) (EP X pins σ Q) X.xe s := fun {a dx fs T} u1 hxa ht1 hT d1 e1 => by
    subst hxa
    cases rx
    obtain ⟨od, J⟩ := inst u1
    refine rc_left (op := .NotEq) hu I.kIn J ht1 hT (try_ne hu hu1 I.kIn J o (own u1 hx hy ry d1 e1)) (fun s' j => fin _ ?_ s' j)
    cases d <;> cases e <;> first | rfl | (simp [isAt] at d1; done) | (simp [isAt] at e1; done)
  have right : ∀ {c dy : Addr} {gs : List (Str × V)} {T id : String}, H c = some (.ins C dy gs) → y = .ref c → s.TypeIs v T → PySem.W.subIn X.K (.ref C) (.type T) = some false → oneThing? .NotEq v (.ref c) = none → Slot T (cmpInfo .NotEq).2.1 id →
      wpAny (model X.prog X.w) X.A (call (.builtin id) [v, .ref c]) (fun z s' => z = .notImplemented ∧ s' = s) X.xe s → isAt e = true → isAt d = false → wpAny (model X.prog X.w) X.A (richCompare .NotEq v u) (EP X pins σ Q) X.xe s := fun {c dy gs T id} u1 hyc ht1 hT hone sl dec e1 d1 => by
    subst hyc
    cases ry
    obtain ⟨od, J⟩ := inst u1
    refine rc_right (op := .NotEq) hu I.kIn J ht1 hT hone sl dec (try_ne hu hu1 I.kIn J o (own u1 hy hx rx e1 d1)) (fun s' j => fin _ ?_ s' j)
    cases d <;> cases e <;> first | rfl | (simp [isAt] at d1; done) | (simp [isAt] at e1; done)
  have flat : scal x y = true → (!decide (x = y)) = (!eqD d e) → wpAny (model X.prog X.w) X.A (richCompare .NotEq v u) (EP X pins σ Q) X.xe s := fun hs he => op_ne pins s σ H x y v u Q I rx ry ⟨hs, by rw [he]; exact q H (Same.refl H)⟩
  cases hx with
  | bl b => cases wd
  | lst _ _ => cases wd
  | dct _ => cases wd
  | @atom a1 dx1 t1 k1 xs1 ds1 u1 v1 i1 =>
    cases hy with
    | bl b => cases we
    | lst _ _ => cases we
    | dct _ => cases we
    | atom _ _ _ => cases ha
    | non => cases ry; exact left u1 rfl rfl (.inl rfl) rfl rfl
    | int j => obtain ⟨t, rfl⟩ := ry; exact left u1 rfl rfl (.inr (.inl rfl)) rfl rfl
    | str z => obtain ⟨t, rfl⟩ := ry; exact left u1 rfl rfl (.inr (.inr (.inl rfl))) rfl rfl
    | tup h2 i2 =>
      cases ry
      obtain ⟨its, oo, ho, hc, _⟩ := tups h2
      exact left u1 rfl ⟨oo, ho, hc⟩ (.inr (.inr (.inr rfl))) rfl rfl
  | non =>
    cases rx
    cases hy with
    | bl b => cases we
    | lst _ _ => cases we
    | dct _ => cases we
    | non => exact flat rfl (by simp [eqD])
    | int j => exact flat rfl (by simp [eqD])
    | str z => exact flat rfl (by simp [eqD])
    | tup h2 i2 =>
      cases ry
      obtain ⟨its, hi⟩ := tups h2
      exact RcNeAt.none_tuple hi hu _ _ _ _ (fin _ rfl s here)
    | @atom c dy _ _ _ _ u2 _ _ => exact right u2 rfl rfl o.sN rfl F.slot_NoneType_ne (call_gives F.slot_NoneType_ne rfl F.entry_NoneType_ne (F.args_NoneType_ne_2 _ _) (NoneType___ne___none_ref_0 c) ⟨rfl, rfl⟩) rfl rfl
  | int i =>
    obtain ⟨t, rfl⟩ := rx
    cases hy with
    | bl b => cases we
    | lst _ _ => cases we
    | dct _ => cases we
    | non => exact flat rfl (by simp [eqD])
    | int j => exact flat rfl (by simp [eqD])
    | str z => exact flat rfl (by simp [eqD])
    | tup h2 i2 =>
      cases ry
      obtain ⟨its, hi⟩ := tups h2
      exact RcNeAt.int_tuple i t hi hu _ _ _ _ (fin _ rfl s here)
    | @atom c dy _ _ _ _ u2 _ _ =>
      obtain ⟨od, J⟩ := inst u2
      exact right u2 rfl rfl o.sI rfl F.slot_int_ne (call_meets F.slot_int_ne rfl F.entry_int_ne (F.args_int_ne_2 _ _) (int_ne_inst i t c C dy) ⟨J.at_, rfl, rfl⟩) rfl rfl
  | str z0 =>
    obtain ⟨t, rfl⟩ := rx
    cases hy with
    | bl b => cases we
    | lst _ _ => cases we
    | dct _ => cases we
    | non => exact flat rfl (by simp [eqD])
    | int j => exact flat rfl (by simp [eqD])
    | str z => exact flat rfl (by simp [eqD])
    | tup h2 i2 =>
      cases ry
      obtain ⟨its, hi⟩ := tups h2
      exact RcNeAt.str_tuple z0 t hi hu _ _ _ _ (fin _ rfl s here)
    | @atom c dy _ _ _ _ u2 _ _ =>
      obtain ⟨od, J⟩ := inst u2
      exact right u2 rfl rfl o.sS rfl F.slot_str_ne (call_meets F.slot_str_ne rfl F.entry_str_ne (F.args_str_ne_2 _ _) (str_ne_inst z0 t c C dy) ⟨J.at_, rfl, rfl⟩) rfl rfl
  | @tup a1 xs1 ds1 h1 i1 =>
    cases rx
    obtain ⟨its, hi⟩ := tups h1
    cases hy with
    | bl b => cases we
    | lst _ _ => cases we
    | dct _ => cases we
    | non => cases ry; exact RcNeAt.tuple_none hi hu _ _ _ _ (fin _ rfl s here)
    | int j => obtain ⟨t, rfl⟩ := ry; exact RcNeAt.tuple_int j t hi hu _ _ _ _ (fin _ rfl s here)
    | str z => obtain ⟨t, rfl⟩ := ry; exact RcNeAt.tuple_str z t hi hu _ _ _ _ (fin _ rfl s here)
    | tup h2 i2 => cases ht
    | @atom c dy _ _ _ _ u2 _ _ =>
      obtain ⟨od, J⟩ := inst u2
      obtain ⟨⟨cls, dd, data, sl⟩, ho, hc, k, hd⟩ := id hi
      simp only at hc hd
      subst hc hd
      exact right u2 rfl ⟨_, ho, rfl⟩ o.sT (oneThing_ref _ _ _) F.slot_tuple_ne (GQ.call_here F.slot_tuple_ne ⟨_, ho, rfl⟩ F.entry_tuple_ne (F.args_tuple_ne_2 _ _) (tup_ne_inst (PySem.W.looks_subIn I.kIn o.sT) J.at_ ho ⟨rfl, rfl⟩)) rfl rfl
end
end Hc

namespace Hc
open PySem PySem.Spec PyProof.Rows L2 Hr
mutual
theorem eqD_refl : ∀ {d : D}, wrd d = true → eqD d d = true
  | .tup ds, h => by simp only [eqD]; simp only [wrd] at h; exact eqL_refl h
  | .atom k ds, h => by
    simp only [wrd, Bool.and_eq_true] at h
    simp only [eqD]; rw [eqL_refl h.1]; simp
  | .non, _ => rfl
  | .int i, _ => by simp [eqD]
  | .str s, _ => by simp [eqD]
  | .bl _, h => by simp [wrd] at h
  | .lst _, h => by simp [wrd] at h
  | .dct, h => by simp [wrd] at h
theorem eqL_refl : ∀ {ds : List D}, wrdL ds = true → eqL ds ds = true
  | [], _ => rfl
  | d :: ds, h => by
    simp only [wrdL, Bool.and_eq_true] at h
    simp only [eqL]; rw [eqD_refl h.1, eqL_refl h.2]; rfl
end
theorem term_len {k : Str} {ds es : List D} (h : isTermK k ds = true) (g : isTermK k es = true) : ds.length = es.length := by
  unfold isTermK at h g
  cases hf : formsOf k with
  | none => rw [hf] at h; cases h
  | some fs =>
    rw [hf] at h g
    simp only [Bool.and_eq_true, decide_eq_true_eq] at h g
    rw [h.1, g.1]
def spAre (C : Addr) : Sp := fun vs H Q _ => ∃ a b ds es, vs = [.ref a, .ref b] ∧ Is C H (.ref a) (.tup ds) ∧ Is C H (.ref b) (.tup es) ∧ ds.length = es.length ∧ wrdL ds = true ∧ wrdL es = true ∧ szL ds ≤ 1000000 ∧ szL es ≤ 1000000 ∧ ∀ H', Same H H' → Q (.bl (eqL ds es)) H'
def spSame (C : Addr) : Sp := fun vs H Q _ => ∃ a b dx fs dx' fs', vs = [.ref a, .ref b] ∧ H a = some (.ins C dx fs) ∧ H b = some (.ins C dx' fs') ∧ Q (.bl (decide (a = b))) H
section
variable {P : Program} {w : World} {K : PySem.W.Frag} {mg : Str → Option Value} {base : Heap} {f : Addr} {fd : FuncData} {C : Addr}
abbrev s_Atom_is_same : Stmt := L2.inClass (top 17) 2
theorem sc_Atom_is_same : FnScope ["self", "other"] ["self", "other"] (C8.fnScope s_Atom_is_same) := C8.fnScope_by (by decide +kernel)
theorem ok_is_same {fI : Addr} {fdI : FuncData} (me : Meth K C "is_same" fI) (T : Txt K mg w C) (F : C8.Fun K "is_same" "Atom.is_same" s_Atom_is_same fI fdI) (b : Binds K fdI ["self", "other"] []) : C8.Met P w K mg base 1 C "is_same" (spSame C) [] := by
  refine C8.met0 T.cl.cl me F b sc_Atom_is_same (fun vs H Q E h => ?_) (fun cdv A outer s H vs Q E hr h => ?_)
  · obtain ⟨a, b, dx, fs, dx', fs', rfl, _⟩ := h; rfl
  obtain ⟨a, b, dx, fs, dx', fs', rfl, h1, h2, q⟩ := h
  refine ⟨_, (pss_one (ps_ret (pe_cmpR op_is_ref (pv 0) (pv 1) (nomark _)))), ?_⟩
  exact ⟨_, rfl, _, rfl, a, b, _, _, rfl, rfl, h1, rfl, h2, rfl, q⟩
abbrev s__are_equal : Stmt := top 20
theorem sc__are_equal : FnScope ["ones", "others", "left", "right", "one", "other"] ["ones", "others"] (C8.fnScope s__are_equal) := C8.fnScope_by (by decide +kernel)
theorem ok__are_equal (F : C8.Def K mg "_are_equal" s__are_equal f fd) (b : Binds K fd ["ones", "others"] []) (T : Txt K mg w C) (O : OwnS P w K mg base 1 C (spEqN C)) (o : Oth K C) (m_is_same : C8.Met P w K mg base 1 C "is_same" (spSame C) []) : C8.Cal P w K mg base 3 "_are_equal" (spAre C) [] := by
  refine C8.cal0 F b .nil sc__are_equal (fun vs H Q E h => ?_) (fun cdv A outer s H vs Q E hr h => ?_)
  · obtain ⟨a, b, ds, es, rfl, _⟩ := h; rfl
  obtain ⟨a, b, ds, es, rfl, ha, hb, hl, hs, hs2, hz1, hz2, q⟩ := h
  refine ⟨_, (pss_cons (ps_set (i := 2) sc__are_equal.nd rfl (Or.inl rfl) (pe_callTy call_list_of rfl T.z_list bt_list (pa_cons (pv 0) pa_nil)))
      (pss_cons (ps_set (i := 3) sc__are_equal.nd rfl (Or.inl rfl) (pe_callTy call_list_of rfl T.z_list bt_list (pa_cons (pv 1) pa_nil)))
      (pss_cons (ps_while PassesOwn.never (pt_truth (pv 2) (fun _ => rfl))
      (pss_cons (ps_set (i := 4) sc__are_equal.nd rfl (Or.inl rfl) (pe_bm0 PySem.F.plainAttrs_list PySem.F.slot_list_pop PySem.F.type_list_pop mt_pop (pv 2)))
      (pss_cons (ps_set (i := 5) sc__are_equal.nd rfl (Or.inl rfl) (pe_bm0 PySem.F.plainAttrs_list PySem.F.slot_list_pop PySem.F.type_list_pop mt_pop (pv 3)))
      (pss_one (ps_if (PW.pt (pw_and (pt_cmpR (op_isTyA (C := C)) (pe_callTy (call_typeA (C := C)) rfl T.z_type bt_type (pa_cons (pv 4) pa_nil)) (pe_bltn (v := .ty "tuple") rfl T.z_tuple bt_tuple rfl) (nomark _)) (pw_and1 (pt_cmpR (op_isTyA (C := C)) (pe_callTy (call_typeA (C := C)) rfl T.z_type bt_type (pa_cons (pv 5) pa_nil)) (pe_bltn (v := .ty "tuple") rfl T.z_tuple bt_tuple rfl) (nomark _))))) (pss_cons (ps_if (pt_cmpR op_ne (pe_callB call_lenS rfl T.z_len bt_len (pa_cons (pv 4) pa_nil)) (pe_callB call_lenS rfl T.z_len bt_len (pa_cons (pv 5) pa_nil)) (nomark _)) (pss_one (ps_ret pe_bl)) pss_nil)
      (pss_cons (ps_expr (pe_bm PySem.F.plainAttrs_list PySem.F.slot_list_extend PySem.F.type_list_extend mt_extendT (pv 2) (pa_cons (pv 4) pa_nil)))
      (pss_one (ps_expr (pe_bm PySem.F.plainAttrs_list PySem.F.slot_list_extend PySem.F.type_list_extend mt_extendT (pv 3) (pa_cons (pv 5) pa_nil)))))) (pss_one (ps_if (PW.pt (pw_and (pt_cmpR (op_isTyA (C := C)) (pe_callTy (call_typeA (C := C)) rfl T.z_type bt_type (pa_cons (pv 4) pa_nil)) (pe_glob (v := .ref C) rfl T.g_Atom rfl) (nomark _)) (pw_and1 (pt_cmpR (op_isTyA (C := C)) (pe_callTy (call_typeA (C := C)) rfl T.z_type bt_type (pa_cons (pv 5) pa_nil)) (pe_glob (v := .ref C) rfl T.g_Atom rfl) (nomark _))))) (pss_cons (ps_if (pt_val (C8.pe_mt m_is_same hr (by first | decide | omega) (pv 4) (pa_cons (pv 5) pa_nil))) (pss_one ps_continue) pss_nil)
      (pss_cons (ps_if (pt_cmpR op_ne (pe_fld (pv 4) rfl) (pe_fld (pv 5) rfl) (nomark _)) (pss_one (ps_ret pe_bl)) pss_nil)
      (pss_cons (ps_expr (pe_bm PySem.F.plainAttrs_list PySem.F.slot_list_extend PySem.F.type_list_extend mt_extendT (pv 2) (pa_cons (pe_fld (pv 4) rfl) pa_nil)))
      (pss_one (ps_expr (pe_bm PySem.F.plainAttrs_list PySem.F.slot_list_extend PySem.F.type_list_extend mt_extendT (pv 3) (pa_cons (pe_fld (pv 5) rfl) pa_nil))))))) (pss_one (ps_if (pt_cmpR (op_neMix O o (hr.mono (by decide))) (pv 4) (pv 5) (nomark _)) (pss_one (ps_ret pe_bl)) pss_nil)))))))))
      (pss_one (ps_ret pe_bl))))), ?_⟩
  cases ha with
  | @tup _ xs _ ta ia =>
    cases hb with
    | @tup _ ys _ tb ib =>
      refine ⟨_, rfl, a, xs, rfl, .inr (SqT.of ta), fun l hl0 => ?_⟩
      have s1 := same_new (o := .lst xs) hl0
      refine ⟨_, rfl, b, ys, rfl, .inr (SqT.of (s1 _ _ tb)), fun r hr0 => ?_⟩
      have s2 := same_new (o := .lst ys) hr0
      have hrH : H r = none := s1.free hr0
      have nlr : l ≠ r := fun z => by rw [← z, upd_same] at hr0; cases hr0
      refine ⟨fun m σ' H' => ∃ v4 v5 xs ys as bs, σ' = [some (.ref a), some (.ref b), some (.ref l), some (.ref r), v4, v5] ∧ Same H H' ∧ H' l = some (.lst xs) ∧ H' r = some (.lst ys) ∧ IsA C H xs as ∧ IsA C H ys bs ∧ as.length = bs.length ∧ wrdL as = true ∧ wrdL bs = true ∧ eqL as bs = eqL ds es ∧ m = szL as ∧ szL as ≤ 1000000 ∧ szL bs ≤ 1000000,
        ⟨_, none, none, xs, ys, ds, es, rfl, s1.trans s2, s2 _ _ upd_same, upd_same, ia, ib, hl, hs, hs2, rfl, rfl, hz1, hz2⟩, ?_⟩
      clear hs hs2 hz1 hz2 hl s1 s2 ia ib ta tb hr0
      rintro m σ' H' ⟨v4, v5, xs, ys, as, bs, rfl, sm, hxl, hyr, ixs, iys, hl, hs, hs2, he, rfl, hza, hzb⟩
      refine ⟨_, rfl, _, .inl ⟨xs, SqL.of hxl, rfl⟩, ?_⟩
      rcases List.eq_nil_or_concat as with rfl | ⟨as', d, rfl⟩
      · have hb0 : bs = [] := List.eq_nil_of_length_eq_zero hl.symm
        subst hb0
        cases ixs
        refine iteF ?_
        have q := q H' sm
        rw [← he] at q
        exact q
      rcases List.eq_nil_or_concat bs with rfl | ⟨bs', e, rfl⟩
      · simp at hl
      obtain ⟨xs', x, rfl, ixs', hx⟩ := ixs.concat
      obtain ⟨ys', y, rfl, iys', hy⟩ := iys.concat
      simp only [List.concat_eq_append] at hl hs hs2 he hza hzb ⊢
      have hl' : as'.length = bs'.length := by simpa using hl
      rw [wrdL_app, Bool.and_eq_true] at hs hs2
      rw [eqL_app hl'] at he
      have wd : wrd d = true := by simpa [wrdL] using hs.2
      have we : wrd e = true := by simpa [wrdL] using hs2.2
      have he2 : eqL [d] [e] = eqD d e := by simp [eqL]
      rw [he2] at he
      have hsa : szL (as' ++ [d]) = szL as' + sz d := by rw [szL_app]; simp [szL]
      have hsb : szL (bs' ++ [e]) = szL bs' + sz e := by rw [szL_app]; simp [szL]
      have hpd := sz_pos d
      have hla := len_szL as'
      have hlb := len_szL bs'
      have hlx := ixs'.len
      have hly := iys'.len
      refine bT (by simp) ⟨fun σ2 H2 => ∃ m', m' < szL (as' ++ [d]) ∧ ∃ v4 v5 xs ys as bs, σ2 = [some (.ref a), some (.ref b), some (.ref l), some (.ref r), v4, v5] ∧ Same H H2 ∧ H2 l = some (.lst xs) ∧ H2 r = some (.lst ys) ∧ IsA C H xs as ∧ IsA C H ys bs ∧ as.length = bs.length ∧ wrdL as = true ∧ wrdL bs = true ∧ eqL as bs = eqL ds es ∧ m' = szL as ∧ szL as ≤ 1000000 ∧ szL bs ≤ 1000000, fun σ2 H2 h => h, ?_⟩
      -- one = left.pop(); other = right.pop()
      refine ⟨_, rfl, .inl ⟨rfl, _, SqL.of hxl⟩, l, _, x, rfl, rfl, hxl, by simp, ?_⟩
      rw [List.dropLast_concat]
      have hyr1 : (upd H' l (.lst xs')) r = some (.lst (ys' ++ [y])) := by rw [upd_ne nlr.symm]; exact hyr
      refine ⟨_, rfl, .inl ⟨rfl, _, SqL.of hyr1⟩, r, _, y, rfl, rfl, hyr1, by simp, ?_⟩
      rw [List.dropLast_concat]
      have sm2 : Same H (upd (upd H' l (.lst xs')) r (.lst ys')) := same_put (same_put sm hl0) hrH
      have hl2 : (upd (upd H' l (.lst xs')) r (.lst ys')) l = some (.lst xs') := by rw [upd_ne nlr]; exact upd_same
      have hr2 : (upd (upd H' l (.lst xs')) r (.lst ys')) r = some (.lst ys') := upd_same
      generalize upd (upd H' l (.lst xs')) r (.lst ys') = H2 at sm2 hl2 hr2
      have hx2 := hx.same sm2
      have hy2 := hy.same sm2
      -- nothing more is asked of the pair
      have good : ∀ H3, Same H2 H3 → eqD d e = true → ∃ m', m' < szL (as' ++ [d]) ∧ ∃ v4 v5 xs ys as bs, ([some (.ref a), some (.ref b), some (.ref l), some (.ref r), some x, some y] : L2.St) = [some (.ref a), some (.ref b), some (.ref l), some (.ref r), v4, v5] ∧ Same H H3 ∧ H3 l = some (.lst xs) ∧ H3 r = some (.lst ys) ∧ IsA C H xs as ∧ IsA C H ys bs ∧ as.length = bs.length ∧ wrdL as = true ∧ wrdL bs = true ∧ eqL as bs = eqL ds es ∧ m' = szL as ∧ szL as ≤ 1000000 ∧ szL bs ≤ 1000000 := fun H3 s3 h =>
        ⟨szL as', by omega, _, _, xs', ys', as', bs', rfl, sm2.trans s3, s3 _ _ hl2, s3 _ _ hr2, ixs', iys', hl', hs.1, hs2.1, by rw [← he, h, Bool.and_true], rfl, by omega, by omega⟩
      have bad : ∀ H3, Same H2 H3 → eqD d e = false → Q (.bl false) H3 := fun H3 s3 h => by
        have q := q H3 (sm2.trans s3)
        rw [← he, h, Bool.and_false] at q
        exact q
      -- both are opened
      have open_ : ∀ {ts us : List V} {gs hs' : List D} {p1 p2 : Addr}, H2 p1 = some (.tup ts) → H2 p2 = some (.tup us) → IsA C H ts gs → IsA C H us hs' → gs.length = hs'.length → wrdL gs = true → wrdL hs' = true → eqL gs hs' = eqD d e → szL gs < sz d → szL hs' ≤ sz e →
          (xs'.length + ts.length ≤ sizeLine ∧ ys'.length + us.length ≤ sizeLine) ∧ (upd H2 l (.lst (xs' ++ ts))) r = some (.lst ys') ∧ (upd H2 l (.lst (xs' ++ ts))) p2 = some (.tup us) ∧
          ∃ m', m' < szL (as' ++ [d]) ∧ ∃ v4 v5 xs ys as bs, ([some (.ref a), some (.ref b), some (.ref l), some (.ref r), some x, some y] : L2.St) = [some (.ref a), some (.ref b), some (.ref l), some (.ref r), v4, v5] ∧ Same H (upd (upd H2 l (.lst (xs' ++ ts))) r (.lst (ys' ++ us))) ∧ (upd (upd H2 l (.lst (xs' ++ ts))) r (.lst (ys' ++ us))) l = some (.lst xs) ∧ (upd (upd H2 l (.lst (xs' ++ ts))) r (.lst (ys' ++ us))) r = some (.lst ys) ∧ IsA C H xs as ∧ IsA C H ys bs ∧ as.length = bs.length ∧ wrdL as = true ∧ wrdL bs = true ∧ eqL as bs = eqL ds es ∧ m' = szL as ∧ szL as ≤ 1000000 ∧ szL bs ≤ 1000000 := fun {ts us gs hs' p1 p2} e1 e2 i1 i2 hlen hsp hsp2 heq z1 z2 => by
        have k1 := i1.len
        have k2 := i2.len
        have k3 := len_szL gs
        have k4 := len_szL hs'
        refine ⟨⟨Nat.le_trans (show _ ≤ 1000000 by omega) (by decide), Nat.le_trans (show _ ≤ 1000000 by omega) (by decide)⟩, by rw [upd_ne nlr.symm]; exact hr2, Tups.put hl2 _ _ e2, ?_⟩
        refine ⟨szL (as' ++ gs), ?_, _, _, xs' ++ ts, ys' ++ us, as' ++ gs, bs' ++ hs', rfl, same_put (same_put sm2 hl0) hrH, by rw [upd_ne nlr]; exact upd_same, upd_same, ixs'.app i1, iys'.app i2, by simp; omega, ?_, ?_, ?_, rfl, ?_, ?_⟩
        · rw [szL_app, hsa]; omega
        · rw [wrdL_app, hs.1, hsp]; rfl
        · rw [wrdL_app, hs2.1, hsp2]; rfl
        · rw [eqL_app hl', heq]; exact he
        · rw [szL_app]; omega
        · rw [szL_app]; omega
      refine ⟨_, rfl, x, d, rfl, hx2, kyV_ok d, .inl ⟨_, rfl⟩, _, rfl, ?_⟩
      by_cases ct : kyV C d = .ty "tuple"
      · refine ifT ct ⟨_, rfl, y, e, rfl, hy2, kyV_ok e, .inl ⟨_, rfl⟩, _, rfl, ?_⟩
        obtain ⟨gs, rfl⟩ := kyV_tup.mp ct
        by_cases cu : kyV C e = .ty "tuple"
        · refine ifT cu ?_
          obtain ⟨hs', rfl⟩ := kyV_tup.mp cu
          cases hx with
          | @tup p1 ts _ t1 i1 =>
            cases hy with
            | @tup p2 us _ t2 i2 =>
              have k1 := i1.len
              have k2 := i2.len
              refine ⟨_, rfl, p1, ts, rfl, .inr (SqT.of (sm2 _ _ t1)), _, rfl, p2, us, rfl, .inr (SqT.of (sm2 _ _ t2)), rfl, _, rfl, ?_⟩
              by_cases cl : gs.length = hs'.length
              · refine bF (by rw [k1, k2, cl]; simp) ?_
                have hsp : wrdL gs = true := by simpa [wrd] using wd
                have hsp2 : wrdL hs' = true := by simpa [wrd] using we
                obtain ⟨⟨b1, b2⟩, f1, f2, fin⟩ := open_ (sm2 _ _ t1) (sm2 _ _ t2) i1 i2 cl hsp hsp2 (by simp [eqD]) (by simp only [sz]; omega) (by simp only [sz]; omega)
                refine ⟨_, rfl, .inl ⟨rfl, _, SqL.of hl2⟩, _, rfl, l, p1, xs', ts, rfl, rfl, hl2, sm2 _ _ t1, b1, ?_⟩
                exact ⟨_, rfl, .inl ⟨rfl, _, SqL.of f1⟩, _, rfl, r, p2, ys', us, rfl, rfl, f1, f2, b2, fin⟩
              · refine bT (by rw [k1, k2, decide_eq_false (fun z => cl (by have := V.int.inj z; omega))]; rfl) ?_
                exact bad H2 (Same.refl H2) (by simp only [eqD]; exact eqL_len cl)
        · refine ifF cu ?_
          have hnt : (isTu (.tup gs) && isTu e) = false := by cases e <;> first | exact absurd rfl cu | simp [isTu]
          have hna : (isAt (.tup gs) && isAt e) = false := rfl
          refine ⟨_, rfl, x, .tup gs, rfl, hx2, kyV_ok _, .inr rfl, _, rfl, ifF (fun z => nomatch z) ?_⟩
          refine ⟨_, rfl, _, rfl, .tup gs, e, hx2, hy2, wd, we, hnt, hna, fun H3 s3 => ⟨_, rfl, ?_⟩⟩
          cases hq : eqD (.tup gs) e with
          | true => exact bF rfl (good H3 s3 hq)
          | false => exact bT rfl (bad H3 s3 hq)
      · refine ifF ct ?_
        refine ⟨_, rfl, x, d, rfl, hx2, kyV_ok d, .inr rfl, _, rfl, ?_⟩
        by_cases ca : kyV C d = .ref C
        · refine ifT ca ⟨_, rfl, y, e, rfl, hy2, kyV_ok e, .inr rfl, _, rfl, ?_⟩
          obtain ⟨k, gs, rfl⟩ := kyV_atom.mp ca
          by_cases cb : kyV C e = .ref C
          · refine ifT cb ?_
            obtain ⟨k', hs', rfl⟩ := kyV_atom.mp cb
            cases hx with
            | @atom a1 dx1 q1 _ ts _ u1 v1 i1 =>
              cases hy with
              | @atom a2 dx2 q2 _ us _ u2 v2 i2 =>
                refine ⟨_, rfl, a1, dx1, _, rfl, sm2 _ _ u1, rfl, _, rfl, a1, a2, dx1, _, dx2, _, rfl, sm2 _ _ u1, sm2 _ _ u2, ⟨_, rfl, ?_⟩⟩
                by_cases cs : a1 = a2
                · subst cs
                  have eds := Is.uniq (Is.atom u1 v1 i1) (Is.atom u2 v2 i2)
                  refine bT (by simp) ?_
                  exact good H2 (Same.refl H2) (by rw [eds]; exact eqD_refl we)
                refine bF (by simp [cs]) ?_
                refine ⟨_, rfl, a1, C, dx1, _, _, rfl, sm2 _ _ u1, T.cl.cl, T.cl.nK, rfl, _, rfl, a2, C, dx2, _, _, rfl, sm2 _ _ u2, T.cl.cl, T.cl.nK, rfl, rfl, _, rfl, ?_⟩
                by_cases ck : k = k'
                · refine bF (by rw [ck]; simp) ?_
                  have w1 : wrdL gs = true ∧ isTermK k gs = true := by simpa [wrd] using wd
                  have w2 : wrdL hs' = true ∧ isTermK k hs' = true := by subst ck; simpa [wrd] using we
                  have hlk := term_len w1.2 w2.2
                  obtain ⟨⟨b1, b2⟩, f1, f2, fin⟩ := open_ (sm2 _ _ v1) (sm2 _ _ v2) i1 i2 hlk w1.1 w2.1 (by simp [eqD, ck]) (by simp only [sz]; omega) (by simp only [sz]; omega)
                  refine ⟨_, rfl, .inl ⟨rfl, _, SqL.of hl2⟩, _, rfl, a1, C, dx1, _, _, rfl, sm2 _ _ u1, T.cl.cl, T.cl.nT, rfl, l, q1, xs', ts, rfl, rfl, hl2, sm2 _ _ v1, b1, ?_⟩
                  have n2 : a2 ≠ l := fun z => by have := sm2 _ _ u2; rw [z, hl2] at this; cases this
                  exact ⟨_, rfl, .inl ⟨rfl, _, SqL.of f1⟩, _, rfl, a2, C, dx2, _, _, rfl, by rw [upd_ne n2]; exact sm2 _ _ u2, T.cl.cl, T.cl.nT, rfl, r, q2, ys', us, rfl, rfl, f1, f2, b2, fin⟩
                · refine bT (by rw [decide_eq_false (fun z => ck (V.str.inj z))]; rfl) ?_
                  exact bad H2 (Same.refl H2) (by simp [eqD, ck])
          · refine ifF cb ?_
            have hnt : (isTu (.atom k gs) && isTu e) = false := rfl
            have hna : (isAt (.atom k gs) && isAt e) = false := by cases e <;> first | exact absurd rfl cb | simp [isAt]
            refine ⟨_, rfl, _, rfl, .atom k gs, e, hx2, hy2, wd, we, hnt, hna, fun H3 s3 => ⟨_, rfl, ?_⟩⟩
            cases hq : eqD (.atom k gs) e with
            | true => exact bF rfl (good H3 s3 hq)
            | false => exact bT rfl (bad H3 s3 hq)
        · refine ifF ca ?_
          have hnt : (isTu d && isTu e) = false := by cases d <;> first | rfl | exact absurd rfl ct
          have hna : (isAt d && isAt e) = false := by cases d <;> first | rfl | exact absurd rfl ca
          refine ⟨_, rfl, _, rfl, d, e, hx2, hy2, wd, we, hnt, hna, fun H3 s3 => ⟨_, rfl, ?_⟩⟩
          cases hq : eqD (d) e with
          | true => exact bF rfl (good H3 s3 hq)
          | false => exact bT rfl (bad H3 s3 hq)
end
end Hc

namespace Hc
open PySem PySem.Spec PyProof.Rows L2 Hr
section
variable {P : Program} {w : World} {K : PySem.W.Frag} {mg : Str → Option Value} {base : Heap} {f : Addr} {fd : FuncData} {C : Addr}
abbrev s_Atom___eq__ : Stmt := L2.inClass (top 17) 1
theorem sc_Atom___eq__ : FnScope ["self", "other"] ["self", "other"] (C8.fnScope s_Atom___eq__) := C8.fnScope_by (by decide +kernel)
theorem ok_eqN {fI : Addr} {fdI : FuncData} (F : C8.Fun K "__eq__" "Atom.__eq__" s_Atom___eq__ fI fdI) (T : Txt K mg w C) : FnOk P w K mg base C8.CX0 1 fI fdI ["self", "other"] (spEqN C) := by
  refine C8.fn0 F sc_Atom___eq__ (fun vs H Q E h => ?_) (fun cdv A outer s H vs Q E hr h => ?_)
  · obtain ⟨x, y, d, e, rfl, _⟩ := h; rfl
  obtain ⟨x, y, d, e, rfl, hx, hy, hd, he, q⟩ := h
  refine ⟨_, (pss_cons (ps_if (pt_not (pt_val (pe_callB (call_isiA T.cl) rfl T.z_isinstance bt_isinstance (pa_cons (pv 1) (pa_cons (pe_glob (v := .ref C) rfl T.g_Atom rfl) pa_nil))))) (pss_one (ps_ret pe_bl)) pss_nil)
      (pss_one ps_never)), ?_⟩
  refine ⟨_, rfl, y, _, _, _, _, rfl, hy, .own C, kitA T e, _, rfl, ?_⟩
  rw [he]
  exact bT rfl (q H (Same.refl H))
end
end Hc

namespace Hc
open PySem PySem.Spec PyProof.Rows L2 Hr
/-- an atom == a word -/
def spEqG (C : Addr) : Sp := fun vs H Q _ => ∃ x y d e, vs = [x, y] ∧ Is C H x d ∧ Is C H y e ∧ isAt d = true ∧ wrd d = true ∧ wrd e = true ∧ sz d ≤ 1000000 ∧ sz e ≤ 1000000 ∧ ∀ H', Same H H' → Q (.bl (eqD d e)) H'
section
variable {P : Program} {w : World} {K : PySem.W.Frag} {mg : Str → Option Value} {base : Heap} {f : Addr} {fd : FuncData} {C : Addr}
theorem ok_eq {fI : Addr} {fdI : FuncData} (F : C8.Fun K "__eq__" "Atom.__eq__" s_Atom___eq__ fI fdI) (T : Txt K mg w C)
    (c__are_equal : C8.Cal P w K mg base 3 "_are_equal" (spAre C) []) : FnOk P w K mg base C8.CX0 4 fI fdI ["self", "other"] (spEqG C) := by
  refine C8.fn0 F sc_Atom___eq__ (fun vs H Q E h => ?_) (fun cdv A outer s H vs Q E hr h => ?_)
  · obtain ⟨x, y, d, e, rfl, _⟩ := h; rfl
  obtain ⟨x, y, d, e, rfl, hx, hy, hd, wd, we, zd, ze, q⟩ := h
  obtain ⟨k, ds, rfl⟩ : ∃ k ds, d = .atom k ds := by cases d <;> first | exact ⟨_, _, rfl⟩ | (simp [isAt] at hd; done)
  refine ⟨_, (pss_cons (ps_if (pt_not (pt_val (pe_callB (call_isiA T.cl) rfl T.z_isinstance bt_isinstance (pa_cons (pv 1) (pa_cons (pe_glob (v := .ref C) rfl T.g_Atom rfl) pa_nil))))) (pss_one (ps_ret pe_bl)) pss_nil)
      (pss_one (ps_ret (pe_and (pe_cmpR op_eq (pe_fld (pv 0) rfl) (pe_fld (pv 1) rfl) (nomark _)) (pe_one (C8.pe_c c__are_equal hr (by first | decide | omega) rfl (pa_cons (pe_fld (pv 0) rfl) (pa_cons (pe_fld (pv 1) rfl) pa_nil)))))))), ?_⟩
  refine ⟨_, rfl, y, _, _, _, _, rfl, hy, .own C, kitA T e, _, rfl, ?_⟩
  cases hA : isAt e with
  | false =>
    have e0 : eqD (.atom k ds) e = false := by cases e <;> first | rfl | (simp [isAt] at hA; done)
    rw [e0] at q
    exact bT rfl (q H (Same.refl H))
  | true =>
    obtain ⟨k', es, rfl⟩ : ∃ k ds, e = .atom k ds := by cases e <;> first | exact ⟨_, _, rfl⟩ | (simp [isAt] at hA; done)
    refine bF rfl ?_
    have w1 : wrdL ds = true ∧ isTermK k ds = true := by simpa [wrd] using wd
    have w2 : wrdL es = true ∧ isTermK k' es = true := by simpa [wrd] using we
    cases hx with
    | @atom a1 dx1 t1 _ xs _ u1 v1 i1 =>
      cases hy with
      | @atom a2 dx2 t2 _ ys _ u2 v2 i2 =>
        refine ⟨_, rfl, a1, C, dx1, _, _, rfl, u1, T.cl.cl, T.cl.nK, rfl, _, rfl, a2, C, dx2, _, _, rfl, u2, T.cl.cl, T.cl.nK, rfl, rfl, _, rfl, ?_⟩
        by_cases ck : k = k'
        · subst ck
          refine bT (by simp) ?_
          refine ⟨_, rfl, a1, C, dx1, _, _, rfl, u1, T.cl.cl, T.cl.nT, rfl, _, rfl, a2, C, dx2, _, _, rfl, u2, T.cl.cl, T.cl.nT, rfl, ?_⟩
          simp only [sz] at zd ze
          refine ⟨_, _, ds, es, rfl, .tup v1 i1, .tup v2 i2, term_len w1.2 w2.2, w1.1, w2.1, by omega, by omega, fun H' s' => ?_⟩
          have e0 : eqD (.atom k ds) (.atom k es) = eqL ds es := by simp [eqD]
          rw [e0] at q
          exact q H' s'
        · refine bF (by simpa using ck) ?_
          have e0 : eqD (.atom k ds) (.atom k' es) = false := by simp [eqD, ck]
          rw [e0] at q
          exact q H (Same.refl H)
end
end Hc

namespace Hc
open PySem PySem.Spec PyProof.Rows L2 Hr PySem.SeqAt
mutual
/-- how deep tuples lie in one another -/
def dep : D → Nat
  | .tup ds => depL ds + 1
  | _ => 0
def depL : List D → Nat
  | [] => 0
  | d :: ds => max (dep d) (depL ds)
end
theorem depL_mem : ∀ {ds : List D} {d : D}, d ∈ ds → dep d ≤ depL ds
  | x :: ds, d, h => by
    simp only [depL]
    rcases List.mem_cons.mp h with rfl | h
    · omega
    · have := depL_mem h; omega
theorem szL_mem : ∀ {ds : List D} {d : D}, d ∈ ds → sz d ≤ szL ds
  | x :: ds, d, h => by
    simp only [szL]
    rcases List.mem_cons.mp h with rfl | h
    · omega
    · have := szL_mem h; omega
theorem wrdL_mem : ∀ {ds : List D} {d : D}, wrdL ds = true → d ∈ ds → wrd d = true
  | x :: ds, d, w, h => by
    simp only [wrdL, Bool.and_eq_true] at w
    rcases List.mem_cons.mp h with rfl | h
    · exact w.1
    · exact wrdL_mem w.2 h
section
variable {prog : Program} {w : World} {A : Around} {E : Value → Shared → Prop} {s : Shared}
def noFl : Value → Bool
  | .none => true | .int _ _ => true | .str _ _ => true | .ref _ => true | _ => false
theorem eqB_of_rc {u v : Value} {Q : Bool → Shared → Prop} (hne : (u == v) = true → False) (h : wpAny (model prog w) A (richCompare .Eq u v) (fun z s' => ∃ r, z = .bool r ∧ Q r s') E s) (hf : noFl u = true := by rfl) : wpAny (model prog w) A (eqBool u v) Q E s := by
  have go : wpAny (model prog w) A (do truthOfDropped (← richCompare .Eq u v)) Q E s := by
    refine wpAny_bind (wpAny_mono h (fun z s' hz => ?_) fun _ _ x => x)
    obtain ⟨r, rfl, q⟩ := hz
    exact wpAny_truthy_bool q
  cases u <;> first
    | (simp [noFl] at hf; done)
    | (unfold eqBool
       refine wpAny_holding ?_
       exact wpAny_ite_split (fun hab => (hne hab).elim) (fun _ => go))
end
section
variable {X : Cx} {n : Nat} {C : Addr}
/-- == of two words that are not both tuples -/
theorem eqMix (O : OwnS X.prog X.w X.K X.mg X.base n C (spEqG C)) (o : Oth X.K C) {A : Around} (sb : Sub X n A) {pins : List (Addr × Obj)} {s : Shared} {σ : L2.St} {H : Hp} {x y : V} {v u : Value} {d e : D} (I : Inv X pins σ H s) (rx : RelV x v) (ry : RelV y u)
    (hx : Is C H x d) (hy : Is C H y e) (wd : wrd d = true) (we : wrd e = true) (zd : sz d ≤ 1000000) (ze : sz e ≤ 1000000) (ht : (isTu d && isTu e) = false) : wpAny (model X.prog X.w) A (eqBool v u) (fun r s' => r = eqD d e ∧ LoopS X pins σ H s') X.xe s := by
  have hu := sb.room.units0
  have here : LoopS X pins σ H s := ⟨H, I, Same.refl H⟩
  have own : ∀ {a dx : Addr} {fs : List (Str × V)} {y : V} {v : Value} {d e : D}, H a = some (.ins C dx fs) → Is C H (.ref a) d → Is C H y e → RelV y v → isAt d = true → wrd d = true → wrd e = true → sz d ≤ 1000000 → sz e ≤ 1000000 → Own X.prog X.w A X.xe a v (eqD d e) (LoopS X pins σ H) s :=
    fun u1 h1 h2 rv d1 wd we zd ze => own_run O sb I u1 rv ⟨_, _, _, _, rfl, h1, h2, d1, wd, we, zd, ze, fun H' s' => ⟨rfl, s'⟩⟩
  have inst : ∀ {a dx : Addr} {fs : List (Str × V)}, H a = some (.ins C dx fs) → ∃ od, PySem.W.InstAt s.heap a (PySem.W.instObj C dx) C (some od) := fun u1 => by
    obtain ⟨mA, J, _⟩ := ins_get I.hok u1
    obtain ⟨od, J, _⟩ := J.look
    exact ⟨od, J⟩
  have tups : ∀ {a : Addr} {xs : List V}, H a = some (.tup xs) → ∃ its : Array Value, s.heap.IsTuple a its := fun h => by
    obtain ⟨its, r, e, z⟩ := I.tuple (SqT.of h)
    exact ⟨_, e⟩
  have comm : isAt d = false → isAt e = true → eqD e d = eqD d e := fun h1 h2 => by
    cases d <;> cases e <;> first | rfl | (simp [isAt] at h1; done) | (simp [isAt] at h2; done)
  have left : ∀ {a dx : Addr} {fs : List (Str × V)} {T : String}, H a = some (.ins C dx fs) → x = .ref a → s.TypeIs u T → (T = "NoneType" ∨ T = "int" ∨ T = "str" ∨ T = "tuple") → isAt d = true → wpAny (model X.prog X.w) A (richCompare .Eq v u) (fun z s' => ∃ r, z = .bool r ∧ r = eqD d e ∧ LoopS X pins σ H s') X.xe s := fun {a dx fs T} u1 hxa ht1 hT d1 => by
    subst hxa
    cases rx
    obtain ⟨od, J⟩ := inst u1
    exact rc_left (op := .Eq) hu I.kIn J ht1 hT (try_eq (own u1 hx hy ry d1 wd we zd ze)) (fun s' j => ⟨_, rfl, rfl, j⟩)
  have right : ∀ {c dy : Addr} {gs : List (Str × V)} {T id : String}, H c = some (.ins C dy gs) → y = .ref c → s.TypeIs v T → PySem.W.subIn X.K (.ref C) (.type T) = some false → oneThing? .Eq v (.ref c) = none → Slot T (cmpInfo .Eq).2.1 id →
      wpAny (model X.prog X.w) A (call (.builtin id) [v, .ref c]) (fun z s' => z = .notImplemented ∧ s' = s) X.xe s → isAt e = true → isAt d = false → wpAny (model X.prog X.w) A (richCompare .Eq v u) (fun z s' => ∃ r, z = .bool r ∧ r = eqD d e ∧ LoopS X pins σ H s') X.xe s := fun {c dy gs T id} u1 hyc ht1 hT hone sl dec e1 d1 => by
    subst hyc
    cases ry
    obtain ⟨od, J⟩ := inst u1
    exact rc_right (op := .Eq) hu I.kIn J ht1 hT hone sl dec (try_eq (own u1 hy hx rx e1 we wd ze zd)) (fun s' j => ⟨_, rfl, comm d1 e1, j⟩)
  have flat : flatV x = true → flatV y = true → eqV x y = eqD d e → wpAny (model X.prog X.w) A (eqBool v u) (fun r s' => r = eqD d e ∧ LoopS X pins σ H s') X.xe s := fun h1 h2 he => eqAt_V (A := A) (s := s) rx ry h1 h2 X.prog X.w X.xe _ ⟨he, here⟩
  cases hx with
  | bl b => cases wd
  | lst _ _ => cases wd
  | dct _ => cases wd
  | @atom a1 dx1 t1 k1 xs1 ds1 u1 v1 i1 =>
    cases hy with
    | bl b => cases we
    | lst _ _ => cases we
    | dct _ => cases we
    | non => cases rx; cases ry; exact eqB_of_rc (fun z => nomatch (eq_of_beq z)) (left u1 rfl rfl (.inl rfl) rfl)
    | int j => cases rx; obtain ⟨t, rfl⟩ := ry; exact eqB_of_rc (fun z => nomatch (eq_of_beq z)) (left u1 rfl rfl (.inr (.inl rfl)) rfl)
    | str z => cases rx; obtain ⟨t, rfl⟩ := ry; exact eqB_of_rc (fun z => nomatch (eq_of_beq z)) (left u1 rfl rfl (.inr (.inr (.inl rfl))) rfl)
    | @tup t2 _ _ h2 i2 =>
      cases rx
      cases ry
      obtain ⟨its, oo, ho, hc, _⟩ := tups h2
      refine eqB_of_rc (fun z => ?_) (left u1 rfl ⟨oo, ho, hc⟩ (.inr (.inr (.inr rfl))) rfl)
      have e1 := Value.ref.inj (eq_of_beq z)
      rw [e1, h2] at u1; cases u1
    | @atom a2 dx2 t2 k2 xs2 ds2 u2 v2 i2 =>
      cases rx
      cases ry
      by_cases hac : a1 = a2
      · subst hac
        have ed := Is.uniq (Is.atom u1 v1 i1) (Is.atom u2 v2 i2)
        rw [← ed, eqD_refl wd]
        exact SeqAt.EqAt.same (A := A) (s := s) (.ref a1) X.prog X.w X.xe _ ⟨rfl, here⟩
      · refine eqB_of_rc (fun z => hac (Value.ref.inj (eq_of_beq z))) ?_
        obtain ⟨od, J⟩ := inst u1
        obtain ⟨od2, J2⟩ := inst u2
        have ow := try_eq (own u1 (.atom u1 v1 i1) (.atom u2 v2 i2) (rfl : RelV (.ref a2) (.ref a2)) rfl wd we zd ze)
        unfold richCompare
        simp only [oneThing_ref]
        refine wpAny_holding (wpAny_bind (wpAny_cRoomFor hu ?_))
        refine wpAny_bind (J.type.here (wpAny_bind (J2.type.here ?_)))
        split
        · rename_i z
          exact absurd z (by simp)
        · refine wpAny_bind (wpAny_pure ?_)
          simp only [Bool.false_eq_true, if_false]
          refine wpAny_bind (wpAny_mono ow (fun r s' z => ?_) fun _ _ z => z)
          obtain ⟨rfl, j⟩ := z
          exact wpAny_pure ⟨_, rfl, rfl, j⟩
  | non =>
    cases hy with
    | bl b => cases we
    | lst _ _ => cases we
    | dct _ => cases we
    | non => exact flat rfl rfl rfl
    | int j => exact flat rfl rfl rfl
    | str z => exact flat rfl rfl rfl
    | tup h2 i2 =>
      cases rx
      cases ry
      obtain ⟨its, hi⟩ := tups h2
      exact EqAt.none_tuple hi hu _ _ _ _ ⟨rfl, here⟩
    | @atom c dy _ _ _ _ u2 _ _ =>
      cases rx
      have r := right u2 rfl (T := "NoneType") rfl o.sN rfl F.slot_NoneType_eq (call_gives F.slot_NoneType_eq rfl F.entry_NoneType_eq (F.args_NoneType_eq_2 _ _) (NoneType___eq___none_ref_0 c) ⟨rfl, rfl⟩) rfl rfl
      cases ry
      exact eqB_of_rc (fun z => nomatch (eq_of_beq z)) r
  | int i =>
    cases hy with
    | bl b => cases we
    | lst _ _ => cases we
    | dct _ => cases we
    | non => exact flat rfl rfl rfl
    | int j => exact flat rfl rfl (by simp only [eqV, eqD]; exact Bool.eq_iff_iff.mpr (by simp))
    | str z => exact flat rfl rfl rfl
    | tup h2 i2 =>
      obtain ⟨t, rfl⟩ := rx
      cases ry
      obtain ⟨its, hi⟩ := tups h2
      exact EqAt.int_tuple i t hi hu _ _ _ _ ⟨rfl, here⟩
    | @atom c dy _ _ _ _ u2 _ _ =>
      obtain ⟨t, rfl⟩ := rx
      obtain ⟨od, J⟩ := inst u2
      have r := right u2 rfl (T := "int") rfl o.sI rfl F.slot_int_eq (call_meets F.slot_int_eq rfl F.entry_int_eq (F.args_int_eq_2 _ _) (int_eq_inst i t c C dy) ⟨J.at_, rfl, rfl⟩) rfl rfl
      cases ry
      exact eqB_of_rc (fun z => nomatch (eq_of_beq z)) r
  | str z0 =>
    cases hy with
    | bl b => cases we
    | lst _ _ => cases we
    | dct _ => cases we
    | non => exact flat rfl rfl rfl
    | int j => exact flat rfl rfl rfl
    | str z => exact flat rfl rfl (by simp only [eqV, eqD]; exact Bool.eq_iff_iff.mpr (by simp))
    | tup h2 i2 =>
      obtain ⟨t, rfl⟩ := rx
      cases ry
      obtain ⟨its, hi⟩ := tups h2
      exact EqAt.str_tuple z0 t hi hu _ _ _ _ ⟨rfl, here⟩
    | @atom c dy _ _ _ _ u2 _ _ =>
      obtain ⟨t, rfl⟩ := rx
      obtain ⟨od, J⟩ := inst u2
      have r := right u2 rfl (T := "str") rfl o.sS rfl F.slot_str_eq (call_meets F.slot_str_eq rfl F.entry_str_eq (F.args_str_eq_2 _ _) (str_eq_inst z0 t c C dy) ⟨J.at_, rfl, rfl⟩) rfl rfl
      cases ry
      exact eqB_of_rc (fun z => nomatch (eq_of_beq z)) r
  | @tup a1 xs1 ds1 h1 i1 =>
    cases rx
    obtain ⟨its, hi⟩ := tups h1
    cases hy with
    | bl b => cases we
    | lst _ _ => cases we
    | dct _ => cases we
    | non => cases ry; exact EqAt.tuple_none hi hu _ _ _ _ ⟨rfl, here⟩
    | int j => obtain ⟨t, rfl⟩ := ry; exact EqAt.tuple_int j t hi hu _ _ _ _ ⟨rfl, here⟩
    | str z => obtain ⟨t, rfl⟩ := ry; exact EqAt.tuple_str z t hi hu _ _ _ _ ⟨rfl, here⟩
    | tup h2 i2 => cases ht
    | @atom c dy _ _ _ _ u2 _ _ =>
      obtain ⟨od, J⟩ := inst u2
      obtain ⟨⟨cls, dd, data, sl⟩, ho, hc, k, hd⟩ := id hi
      simp only at hc hd
      subst hc hd
      have r := right u2 rfl (T := "tuple") ⟨_, ho, rfl⟩ o.sT (oneThing_ref _ _ _) F.slot_tuple_eq (GQ.call_here F.slot_tuple_eq ⟨_, ho, rfl⟩ F.entry_tuple_eq (F.args_tuple_eq_2 _ _) (tup_eq_inst (PySem.W.looks_subIn I.kIn o.sT) J.at_ ho ⟨rfl, rfl⟩)) rfl rfl
      cases ry
      refine eqB_of_rc (fun z => ?_) r
      have e1 := Value.ref.inj (eq_of_beq z)
      rw [e1, u2] at h1; cases h1
end
end Hc

namespace Hc
open PySem PySem.Spec PyProof.Rows L2 Hr PySem.SeqAt
theorem eqL_all : ∀ {ds es : List D} (bs : Nat → Bool), (∀ i d e, ds[i]? = some d → es[i]? = some e → bs i = eqD d e) → allP bs ds.length es.length = eqL ds es
  | [], [], bs, _ => rfl
  | [], _ :: _, bs, _ => by simp [allP, eqL]
  | _ :: _, [], bs, _ => by simp [allP, eqL]
  | d :: ds, e :: es, bs, h => by
    have h0 := h 0 d e rfl rfl
    have ih := eqL_all (ds := ds) (es := es) (fun i => bs (i + 1)) fun i d' e' h1 h2 => h (i + 1) d' e' (by simpa using h1) (by simpa using h2)
    simp only [eqL]
    rw [← ih, ← h0]
    unfold allP
    simp only [List.length_cons]
    have hm : min (ds.length + 1) (es.length + 1) = min ds.length es.length + 1 := by omega
    rw [hm, List.range_succ_eq_map, List.all_cons, List.all_map]
    have : (ds.length + 1 == es.length + 1) = (ds.length == es.length) := by simp
    rw [this, Bool.and_assoc]
    rfl
section
variable {X : Cx} {n : Nat} {C : Addr}
/-- what is asked of two words that are compared -/
structure W2 (C : Addr) (H : Hp) (x y : V) (d e : D) : Prop where
  x : Is C H x d
  y : Is C H y e
  wd : wrd d = true
  we : wrd e = true
  zd : sz d ≤ 1000000
  ze : sz e ≤ 1000000
theorem W2.same {H H' : Hp} {x y : V} {d e : D} (w : W2 C H x y d e) (s : Same H H') : W2 C H' x y d e := ⟨w.x.same s, w.y.same s, w.wd, w.we, w.zd, w.ze⟩
/-- == of two words -/
theorem eqW (O : OwnS X.prog X.w X.K X.mg X.base n C (spEqG C)) (o : Oth X.K C) : ∀ (N : Nat) {A : Around} (sb : Sub X (N + n) A) {pins : List (Addr × Obj)} {s : Shared} {σ : L2.St} {H : Hp} {x y : V} {v u : Value} {d e : D}, dep d ≤ N → Inv X pins σ H s → RelV x v → RelV y u → W2 C H x y d e →
    wpAny (model X.prog X.w) A (eqBool v u) (fun r s' => r = eqD d e ∧ LoopS X pins σ H s') X.xe s := by
  intro N
  induction N with
  | zero =>
    intro A sb pins s σ H x y v u d e hd I rx ry w
    have ht : isTu d = false := by cases d <;> first | rfl | (simp [dep] at hd; done)
    exact eqMix O o (sb.mono (by omega)) I rx ry w.x w.y w.wd w.we w.zd w.ze (by rw [ht]; rfl)
  | succ N ih =>
    intro A sb pins s σ H x y v u d e hd I rx ry w
    by_cases ht : (isTu d && isTu e) = false
    · exact eqMix O o (sb.mono (by omega)) I rx ry w.x w.y w.wd w.we w.zd w.ze ht
    · have ht2 : isTu d = true ∧ isTu e = true := by simpa using ht
      obtain ⟨ds, rfl⟩ : ∃ ds, d = .tup ds := by cases d <;> first | exact ⟨_, rfl⟩ | (simp [isTu] at ht2; done)
      obtain ⟨es, rfl⟩ : ∃ es, e = .tup es := by cases e <;> first | exact ⟨_, rfl⟩ | (simp [isTu] at ht2; done)
      have hx := w.x
      have hy := w.y
      have wd := w.wd
      have we := w.we
      have zd := w.zd
      have ze := w.ze
      simp only [wrd] at wd we
      simp only [sz] at zd ze
      cases hx with
      | @tup a xs _ h1 i1 =>
      cases hy with
      | @tup b ys _ h2 i2 =>
      cases rx
      cases ry
      have here : LoopS X pins σ H s := ⟨H, I, Same.refl H⟩
      by_cases hab : a = b
      · subst hab
        have ed := Is.uniq w.x w.y
        rw [← ed, eqD_refl w.wd]
        exact SeqAt.EqAt.same (A := A) (s := s) (.ref a) X.prog X.w X.xe _ ⟨rfl, here⟩
      · refine eqB_of_rc (fun z => hab (Value.ref.inj (eq_of_beq z))) ?_
        obtain ⟨its, r, eT, z⟩ := I.tuple (SqT.of h1)
        obtain ⟨its2, r2, eT2, z2⟩ := I.tuple (SqT.of h2)
        have l1 := r.length
        have l2 := r2.length
        have l3 := i1.len
        have l4 := i2.len
        obtain ⟨⟨cls, dd, data, sl⟩, ho, hc, n1, hd1⟩ := id eT
        obtain ⟨⟨cls2, dd2, data2, sl2⟩, ho2, hc2, n2, hd2⟩ := id eT2
        simp only at hc hd1 hc2 hd2
        subst hc hd1 hc2 hd2
        have hdep : depL ds ≤ N := by simp only [dep] at hd; omega
        have sb1 : Sub X (N + n + 1) A := sb.mono (by omega)
        -- the pairs
        have pair : ∀ i (k1 : i < its.toArray.size) (k2 : i < its2.toArray.size) s1, LoopS X pins σ H s1 → wpAny (model X.prog X.w) A.in1 (eqBool its.toArray[i] its2.toArray[i]) (fun r s' => r = (match ds[i]?, es[i]? with | some d, some e => eqD d e | _, _ => false) ∧ LoopS X pins σ H s') X.xe s1 := fun i k1 k2 s1 j => by
          obtain ⟨H1, I1, e1⟩ := j
          have k1' : i < its.length := by simpa using k1
          have k2' : i < its2.length := by simpa using k2
          obtain ⟨p, hp, rp⟩ := r.get (List.getElem?_eq_getElem (show i < xs.length by omega))
          obtain ⟨q, hq, rq⟩ := r2.get (List.getElem?_eq_getElem (show i < ys.length by omega))
          rw [List.getElem?_eq_getElem k1'] at hp
          rw [List.getElem?_eq_getElem k2'] at hq
          have ep : its.toArray[i] = p := by simpa using Option.some.inj hp
          have eq : its2.toArray[i] = q := by simpa using Option.some.inj hq
          obtain ⟨d', hd', ix⟩ := i1.at (List.getElem?_eq_getElem (show i < xs.length by omega))
          obtain ⟨e', he', iy⟩ := i2.at (List.getElem?_eq_getElem (show i < ys.length by omega))
          have md := List.mem_of_getElem? hd'
          have me := List.mem_of_getElem? he'
          have s1' := szL_mem md
          have s2' := szL_mem me
          rw [ep, eq, hd', he']
          refine wpAny_mono (ih (A := A.in1) sb1.in1 (Nat.le_trans (depL_mem md) hdep) I1 rp rq ⟨ix.same e1, iy.same e1, wrdL_mem wd md, wrdL_mem we me, by omega, by omega⟩) (fun r s2 q2 => ?_) fun _ _ z => z
          obtain ⟨hr, H2, I2, e2⟩ := q2
          exact ⟨hr, H2, I2, e1.trans e2⟩
        have hall : allP (fun i => match ds[i]?, es[i]? with | some d, some e => eqD d e | _, _ => false) its.toArray.size its2.toArray.size = eqL ds es := by
          rw [List.size_toArray, List.size_toArray, ← l1, ← l2, l3, l4]
          exact eqL_all _ fun i d' e' h1 h2 => by simp only [h1, h2]
        refine wpAny_richCompare_same_room (op := .Eq) ⟨_, ho, rfl⟩ ⟨_, ho2, rfl⟩ F.slot_tuple_eq (GQ.call_here F.slot_tuple_eq ⟨_, ho, rfl⟩ F.entry_tuple_eq (F.args_tuple_eq_2 _ _) ?_) sb.room.units0
        exact tup_eqB (R := wants (fun z s' => z ≠ .notImplemented ∧ ∃ r, z = .bool r ∧ r = eqD (.tup ds) (.tup es) ∧ LoopS X pins σ H s') X.xe) pair (fun s' j => ⟨(fun z => nomatch z), _, rfl, by rw [hall]; rfl, j⟩) ho ho2 here
end
section
variable {X : Cx} {n N : Nat} {C : Addr}
/-- x in l, x not in l: words -/
def rInW (C : Addr) (N : Nat) (g : Bool → Bool) : R2 := fun x y H Q => ∃ l xs ds d, y = .ref l ∧ H l = some (.lst xs) ∧ IsA C H xs ds ∧ Is C H x d ∧ wrd d = true ∧ wrdL ds = true ∧ depL ds ≤ N ∧ sz d ≤ 1000000 ∧ szL ds ≤ 1000000 ∧ ∀ H', Same H H' → Q (.bl (g (ds.any fun e => eqD e d))) H'
theorem asksW (O : OwnS X.prog X.w X.K X.mg X.base n C (spEqG C)) (o : Oth X.K C) {A : Around} {pins : List (Addr × Obj)} {σ : L2.St} {H : Hp} (sb : Sub X (N + n + 1) A) {l : Addr} {xs : List V} {ds : List D} {x : V} {v : Value} {d : D}
    (hl : H l = some (.lst xs)) (hxs : IsA C H xs ds) (hx : Is C H x d) (rx : RelV x v) (wd : wrd d = true) (ws : wrdL ds = true) (hdp : depL ds ≤ N) (zd : sz d ≤ 1000000) (zs : szL ds ≤ 1000000) : Asks X.prog X.w A X.xe l v (LoopS X pins σ H) (ds.map fun e => eqD e d) := by
  refine ⟨fun s1 j => ?_⟩
  obtain ⟨H1, I1, e1⟩ := j
  obtain ⟨z, its, k, r, e⟩ := I1.hok l _ (e1 _ _ hl)
  have hlen := r.length
  have hxl := hxs.len
  refine ⟨its.toArray, k, e, by rw [List.size_toArray, List.length_map]; omega, fun i h h2 => ?_⟩
  have h' : i < its.length := by simpa using h
  have hi : i < xs.length := by omega
  obtain ⟨u, hu, ru⟩ := r.get (List.getElem?_eq_getElem hi)
  rw [List.getElem?_eq_getElem h'] at hu
  have hu2 : its.toArray[i] = u := by simpa using Option.some.inj hu
  obtain ⟨y, hy, hyi⟩ := hxs.at (List.getElem?_eq_getElem hi)
  have my := List.mem_of_getElem? hy
  have hb : (ds.map fun e => eqD e d)[i] = eqD y d := by
    have : (ds.map fun e => eqD e d)[i]? = some (eqD y d) := by rw [List.getElem?_map, hy]; rfl
    rw [List.getElem?_eq_getElem h2] at this
    exact Option.some.inj this
  rw [hu2, hb]
  have sy := szL_mem my
  refine wpAny_mono (eqW O o N sb.in1 (Nat.le_trans (depL_mem my) hdp) I1 ru rx ⟨hyi.same e1, hx.same e1, wrdL_mem ws my, wd, by omega, zd⟩) (fun r s2 q => ?_) fun _ _ x => x
  obtain ⟨hr, H2, I2, e2⟩ := q
  exact ⟨hr, H2, I2, e1.trans e2⟩
theorem op_inW (O : OwnS X.prog X.w X.K X.mg X.base n C (spEqG C)) (o : Oth X.K C) (hr : Room (N + n + 1) X.A) : OpR X (compareOp .In) (rInW C N id) := by
  intro pins s σ H x y v u Q I rx ry h
  obtain ⟨l, xs, ds, d, rfl, hl, hxs, hx, wd, ws, hdp, zd, zs, q⟩ := h
  cases ry
  refine op_in_ (asksW O o ⟨hr, rfl⟩ hl hxs hx rx wd ws hdp zd zs) (s := s) ⟨H, I, Same.refl H⟩ (fun s' j => ?_)
  obtain ⟨H', I', e⟩ := j
  have e9 : ((ds.map fun e => eqD e d).any id) = ds.any fun e => eqD e d := by rw [List.any_map]; rfl
  rw [e9]
  exact ⟨.bl _, H', I', rfl, q H' e⟩
theorem op_notInW (O : OwnS X.prog X.w X.K X.mg X.base n C (spEqG C)) (o : Oth X.K C) (hr : Room (N + n + 1) X.A) : OpR X (compareOp .NotIn) (rInW C N not) := by
  intro pins s σ H x y v u Q I rx ry h
  obtain ⟨l, xs, ds, d, rfl, hl, hxs, hx, wd, ws, hdp, zd, zs, q⟩ := h
  cases ry
  refine op_notIn_ (asksW O o ⟨hr, rfl⟩ hl hxs hx rx wd ws hdp zd zs) (s := s) ⟨H, I, Same.refl H⟩ (fun s' j => ?_)
  obtain ⟨H', I', e⟩ := j
  have e9 : ((ds.map fun e => eqD e d).any id) = ds.any fun e => eqD e d := by rw [List.any_map]; rfl
  rw [e9]
  exact ⟨.bl _, H', I', rfl, q H' e⟩
/-- x == y as an expression, from the == inside a list -/
def rEqW (C : Addr) (N : Nat) : R2 := fun x y H Q => ∃ d e, W2 C H x y d e ∧ dep d ≤ N ∧ ∀ H', Same H H' → Q (.bl (eqD d e)) H'
end
end Hc

namespace Hc
open PySem PySem.Spec PyProof.Rows L2 Hr
/-- tuples and atoms stay -/
structure Keep (C : Addr) (H H' : Hp) : Prop where
  tup : ∀ b xs, H b = some (.tup xs) → H' b = some (.tup xs)
  ins : ∀ b dx fs, H b = some (.ins C dx fs) → H' b = some (.ins C dx fs)
theorem Keep.of {C : Addr} {H H' : Hp} (s : Same H H') : Keep C H H' := ⟨fun b _ e => s b _ e, fun b _ _ e => s b _ e⟩
theorem Keep.trans {C : Addr} {H H1 H2 : Hp} (a : Keep C H H1) (b : Keep C H1 H2) : Keep C H H2 := ⟨fun c xs e => b.tup c xs (a.tup c xs e), fun c dx fs e => b.ins c dx fs (a.ins c dx fs e)⟩
theorem Keep.lst {C : Addr} {H : Hp} {l : Addr} {xs ys : List V} (h : H l = some (.lst xs)) : Keep C H (upd H l (.lst ys)) :=
  ⟨fun b _ e => by rw [upd_ne (fun z => by rw [z, h] at e; cases e)]; exact e, fun b _ _ e => by rw [upd_ne (fun z => by rw [z, h] at e; cases e)]; exact e⟩
/-- all but the list at l stays -/
def But (l : Addr) (H H' : Hp) : Prop := ∀ b o, H b = some o → b ≠ l → H' b = some o
theorem But.keep {C l : Addr} {H H' : Hp} {xs : List V} (h : H l = some (.lst xs)) (b : But l H H') : Keep C H H' :=
  ⟨fun c _ e => b c _ e (fun z => by rw [z, h] at e; cases e), fun c _ _ e => b c _ e (fun z => by rw [z, h] at e; cases e)⟩
mutual
/-- no lists and no dicts within -/
def cln : D → Bool
  | .tup ds => clnL ds
  | .atom _ ds => clnL ds
  | .lst _ => false
  | .dct => false
  | _ => true
def clnL : List D → Bool
  | [] => true
  | d :: ds => cln d && clnL ds
end
mutual
theorem Is.keep {C : Addr} {H H' : Hp} (k : Keep C H H') : ∀ {x : V} {d : D}, cln d = true → Is C H x d → Is C H' x d
  | _, _, _, .non => .non
  | _, _, _, .bl b => .bl b
  | _, _, _, .int i => .int i
  | _, _, _, .str s => .str s
  | _, _, c, .tup h t => .tup (k.tup _ _ h) (IsA.keep k (by simpa [cln] using c) t)
  | _, _, c, .lst h t => by simp [cln] at c
  | _, _, c, .dct h => by simp [cln] at c
  | _, _, c, .atom h h2 t => .atom (k.ins _ _ _ h) (k.tup _ _ h2) (IsA.keep k (by simpa [cln] using c) t)
theorem IsA.keep {C : Addr} {H H' : Hp} (k : Keep C H H') : ∀ {xs : List V} {ds : List D}, clnL ds = true → IsA C H xs ds → IsA C H' xs ds
  | _, _, _, .nil => .nil
  | _, _, c, .cons h t => by
    simp only [clnL, Bool.and_eq_true] at c
    exact .cons (Is.keep k c.1 h) (IsA.keep k c.2 t)
end
theorem clnL_iff : ∀ {ds : List D}, clnL ds = true ↔ ∀ d ∈ ds, cln d = true
  | [] => by simp [clnL]
  | d :: ds => by simp [clnL, clnL_iff (ds := ds)]
theorem clnL_app (a b : List D) : clnL (a ++ b) = (clnL a && clnL b) := by
  induction a with
  | nil => simp [clnL]
  | cons x a ih => rw [List.cons_append]; simp only [clnL]; rw [ih, Bool.and_assoc]
/-- what is there already is passed over -/
def add1 (ds : List D) (a : D) : List D := if ds.any (fun e => eqD e a) then ds else ds ++ [a]
def addAll (ds ps : List D) : List D := ps.foldl add1 ds
theorem add1_mem {ds : List D} {a e : D} (h : e ∈ add1 ds a) : e ∈ ds ∨ e = a := by
  unfold add1 at h
  split at h
  · exact .inl h
  · simpa using h
theorem addAll_mem : ∀ {ps ds : List D} {e : D}, e ∈ addAll ds ps → e ∈ ds ∨ e ∈ ps
  | [], ds, e, h => .inl h
  | p :: ps, ds, e, h => by
    rcases addAll_mem (ps := ps) (ds := add1 ds p) h with h | h
    · rcases add1_mem h with h | h
      · exact .inl h
      · exact .inr (by rw [h]; exact List.mem_cons_self)
    · exact .inr (List.mem_cons_of_mem _ h)
theorem addAll_app (ds ps qs : List D) : addAll ds (ps ++ qs) = addAll (addAll ds ps) qs := List.foldl_append
theorem add1_len (ds : List D) (a : D) : (add1 ds a).length ≤ ds.length + 1 := by
  unfold add1
  split
  · omega
  · simp
theorem addAll_len : ∀ (ps ds : List D), (addAll ds ps).length ≤ ds.length + ps.length
  | [], ds => Nat.le_refl _
  | p :: ps, ds => by
    have := addAll_len ps (add1 ds p)
    have := add1_len ds p
    show (addAll (add1 ds p) ps).length ≤ _
    simp only [List.length_cons]; omega
mutual
theorem wrd_cln : ∀ {d : D}, wrd d = true → cln d = true
  | .tup ds, h => by simp only [wrd] at h; simp only [cln]; exact wrdL_cln h
  | .atom k ds, h => by simp only [wrd, Bool.and_eq_true] at h; simp only [cln]; exact wrdL_cln h.1
  | .non, _ => rfl
  | .int _, _ => rfl
  | .str _, _ => rfl
  | .bl _, h => by simp [wrd] at h
  | .lst _, h => by simp [wrd] at h
  | .dct, h => by simp [wrd] at h
theorem wrdL_cln : ∀ {ds : List D}, wrdL ds = true → clnL ds = true
  | [], _ => rfl
  | d :: ds, h => by
    simp only [wrdL, Bool.and_eq_true] at h
    simp only [clnL]; rw [wrd_cln h.1, wrdL_cln h.2]; rfl
end
theorem wrdL_iff : ∀ {ds : List D}, wrdL ds = true ↔ ∀ d ∈ ds, wrd d = true
  | [] => by simp [wrdL]
  | d :: ds => by simp [wrdL, wrdL_iff (ds := ds)]
mutual
theorem places_sz : ∀ d : D, szL (places d) ≤ sz d
  | .tup ds => by simp only [places, sz]; have := placesL_sz ds; omega
  | .atom k ds => by simp [places, sz, szL]
  | .non | .bl _ | .int _ | .str _ | .lst _ | .dct => by simp [places, szL]
theorem placesL_sz : ∀ ds : List D, szL (placesL ds) ≤ szL ds
  | [] => Nat.le_refl _
  | d :: ds => by simp only [placesL, szL]; rw [szL_app]; have := places_sz d; have := placesL_sz ds; omega
end
theorem add1_sz (ds : List D) (a : D) : szL (add1 ds a) ≤ szL ds + sz a := by
  unfold add1
  split
  · omega
  · rw [szL_app]; simp [szL]
theorem addAll_sz : ∀ (ps ds : List D), szL (addAll ds ps) ≤ szL ds + szL ps
  | [], ds => Nat.le_refl _
  | p :: ps, ds => by
    have h1 := addAll_sz ps (add1 ds p)
    have h2 := add1_sz ds p
    show szL (addAll (add1 ds p) ps) ≤ _
    simp only [szL]; omega
theorem szL_take (ds : List D) (i : Nat) : szL (ds.take i) ≤ szL ds := by
  have : szL ds = szL (ds.take i) + szL (ds.drop i) := by rw [← szL_app, List.take_append_drop]
  omega
theorem depL_atoms : ∀ {ds : List D}, (∀ d ∈ ds, ∃ k gs, d = .atom k gs) → depL ds = 0
  | [], _ => rfl
  | d :: ds, h => by
    obtain ⟨k, gs, rfl⟩ := h d List.mem_cons_self
    simp only [depL]
    rw [depL_atoms fun e he => h e (List.mem_cons_of_mem _ he)]; rfl
end Hc

namespace Hc
open PySem PySem.Spec PyProof.Rows L2 Hr
theorem pmk_own0 {X : Cx} {C : Addr} {bmB : List Value} {B newId initId : String} {x : Str} {p pos : Pos} (F : ExcBaseFacts B newId initId bmB) (q : PySem.W.excIn X.K C bmB newId = true) (gC : X.mg x = some (.ref C))
    (kC : PySem.W.keepIn X.K (.ref C) = true) (r : Raises X (.ref C)) (hg : Gl X x) (hdb : (x == ("__debug__" : Str)) = false := by decide) :
    PMk X (.Call (.Name x p) [] [] pos) (fun _ H Q => Q (.ref C) none H) := by
  intro pins s σ H Q I h
  refine wpAny_Call_Name_kw (ld_glob I hg gC ?_ hdb)
  refine PySem.W.callWith_K0 I.kIn kC ?_
  obtain ⟨bm, N, nm, qn, bs, hdct, sn, sub, ab, col, dd, k0, k1, k2, k3, k5, mN, hC, hN, hni, T⟩ := exc_obj I.kIn q
  refine wpAny_call_exc_subT F T hC hN hni (fun h' e hm => ?_) (by decide)
  exact mk_of I hm r h (I.hok.gone hm.new)
/-- the class NotValid at V -/
structure NvOk (K : PySem.W.Frag) (mg : Str → Option Value) (V : Addr) (bmB : List Value) (newId : String) : Prop where
  q : PySem.W.excIn K V bmB newId = true
  g : mg "NotValid" = some (.ref V)
  k : PySem.W.keepIn K (.ref V) = true
  e : PySem.W.subIn K (.ref V) (.type "BaseException") = some true
  t : PySem.W.typeIn K (.ref V) = some (.type "type")
/-- a def that may raise -/
theorem fnX {P : Program} {w : World} {K : PySem.W.Frag} {mg : Str → Option Value} {base : Heap} {x qual : Str} {st : Stmt} {f : Addr} {fd : FuncData} {N ps : List Str} {k : Nat} {sp : Sp} (F : C8.Fun K x qual st f fd) (S : FnScope N ps (C8.fnScope st)) (len : ∀ vs H Q E, sp vs H Q E → vs.length = ps.length)
    (hbody : ∀ (cdv : Value) (A : Around) (outer : List Env) (s : Shared) (H : Hp) (vs : List V) (Q : VK) (E : XK), Room k (A.deeper (envOfC qual (C8.fnScope st) s.heap.objs.size f cdv)) → sp vs H Q E →
      ∃ t, PSs (cxOf (L2.CX P w) P w K mg base N qual (C8.fnScope st) f cdv A outer s H E) (C8.fnBody st) t ∧ t { nx := fun _ H' => Q .non H', rt := Q } (L2.start N vs) H) : FnOk P w K mg base (L2.CX P w) (k + 1) f fd ps sp := by
  obtain ⟨oc, od, dV, kV, doc, pm, an, cdv, ct, osl, rfl, lk, hcd⟩ := F.ex
  exact fn_of lk hcd S len fun A outer s H vs Q E hr hsp => hbody cdv A outer s H vs Q E hr hsp
def spInitR (C N : Addr) : Sp := fun vs H _ E => ∃ p dx xk xt dk dt, vs = [.ref p, xk, xt] ∧ H p = some (.ins C dx []) ∧ Is C H xk dk ∧ Is C H xt dt ∧ KindOk dk ∧ Fit dt ∧ (isTermD dk dt = false ∨ ∃ k ds, dk = .str k ∧ dt = .tup ds ∧ isTermK k ds = true ∧ mostR k < rank (.atom k ds)) ∧ ∀ H', Same H H' → E (.ref N) none H'
section
variable {P : Program} {w : World} {K : PySem.W.Frag} {mg : Str → Option Value} {base : Heap} {f : Addr} {fd : FuncData} {C N : Addr} {bmB : List Value} {newId : String}
theorem ok_initX {fI : Addr} {fdI : FuncData} {initId : String} (FB : ExcBaseFacts "ValueError" newId initId bmB) (nv : NvOk K mg N bmB newId) (F : C8.Fun K "__init__" "Atom.__init__" s_Atom___init__ fI fdI) (T : Txt K mg w C)
    (c__is_term : C8.Cal P w K mg base 4 "_is_term" (spTerm C) []) (c__rank_of_atom : C8.Cal P w K mg base 3 "_rank_of_atom" (spRk C) []) (c__most_rank : C8.Cal P w K mg base 1 "_most_rank" spMost []) : FnOk P w K mg base (L2.CX P w) 5 fI fdI ["self", "kind", "term"] (spInitR C N) := by
  refine fnX F sc_Atom___init__ (fun vs H Q E h => ?_) (fun cdv A outer s H vs Q E hr h => ?_)
  · obtain ⟨p, dx, xk, xt, dk, dt, rfl, _⟩ := h; rfl
  obtain ⟨p, dx, xk, xt, dk, dt, rfl, hp, hk, ht, hok, hz, hbad, q⟩ := h
  refine ⟨_, (pss_cons (ps_if (pt_not (pt_val (C8.pe_c c__is_term hr (by first | decide | omega) rfl (pa_cons (pv 1) (pa_cons (pv 2) pa_nil))))) (pss_one (ps_raise rfl (takes_of rfl rfl rfl rfl) (pmk_own0 FB nv.q nv.g nv.k (raises_own nv.e nv.t) rfl))) pss_nil)
      (pss_cons (ps_set (i := 3) sc_Atom___init__.nd rfl (Or.inl rfl) (C8.pe_c c__rank_of_atom hr (by first | decide | omega) rfl (pa_cons (pv 1) (pa_cons (pv 2) pa_nil))))
      (pss_cons (ps_if (pt_cmpR op_gt (pv 3) (C8.pe_c c__most_rank hr (by first | decide | omega) rfl (pa_cons (pv 1) pa_nil)) (nomark _)) (pss_one (ps_raise rfl (takes_of rfl rfl rfl rfl) (pmk_own0 FB nv.q nv.g nv.k (raises_own nv.e nv.t) rfl))) pss_nil)
      (pss_cons (ps_fld (pv 0) (pv 1) rfl)
      (pss_cons (ps_fld (pv 0) (pv 2) rfl)
      (pss_cons (ps_fld (pv 0) (pv 3) rfl)
      (pss_one (ps_fld (pv 0) pe_non rfl)))))))), ?_⟩
  refine ⟨_, rfl, _, rfl, _, _, dk, dt, rfl, hk, ht, hok, hz, fun H1 s1 => ⟨_, rfl, ?_⟩⟩
  rcases hbad with hb | ⟨k, ds, rfl, rfl, hterm, hrk⟩
  · refine bT (by rw [hb]; rfl) ?_
    exact q H1 s1
  · cases hk
    refine bF (by simp only [isTermD, hterm]; rfl) ?_
    have htx := ht.same s1
    obtain ⟨t, rfl⟩ : ∃ t, xt = .ref t := by cases ht; exact ⟨_, rfl⟩
    refine ⟨_, rfl, _, rfl, k, t, ds, rfl, htx, hz, fun H2 s2 => ?_⟩
    refine ⟨_, rfl, _, rfl, k, rfl, _, _, rfl, rfl, _, rfl, ?_⟩
    refine ifT (by omega) ?_
    exact q H2 (s1.trans s2)
end
end Hc

namespace Hc
open PySem PySem.Spec PyProof.Rows L2 Hr
/-! ### slices and sums of tuples, whatever they are -/
theorem cut_to (xs : List V) (k : Nat) : cutV xs none (some (k : Int)) = xs.take k := by
  unfold cutV
  rw [HT.sIx_none, HT.sIx_nat, List.drop_zero, Nat.sub_zero]
  by_cases h : k ≤ xs.length
  · rw [Nat.min_eq_left h]
  · rw [Nat.min_eq_right (by omega), List.take_of_length_le (Nat.le_refl _), List.take_of_length_le (by omega)]
theorem cut_from (xs : List V) (k : Nat) : cutV xs (some (k : Int)) none = xs.drop k := by
  unfold cutV
  rw [HT.sIx_none, HT.sIx_nat]
  by_cases h : k ≤ xs.length
  · rw [Nat.min_eq_left h]
    exact List.take_of_length_le (by rw [List.length_drop]; exact Nat.le_refl _)
  · rw [Nat.min_eq_right (by omega), List.drop_of_length_le (Nat.le_refl _), List.drop_of_length_le (by omega), List.take_nil]
theorem sl_go {K : PySem.W.Frag} {H : Hp} {a : Addr} {xs : List V} {lo hi : Option Int} {Q : VK} (h : H a = some (.tup xs)) (q : ∀ H' p, Same H H' → H' p = some (.tup (cutV xs lo hi)) → Q (.ref p) H') : rSlA K (.ref a) lo hi H Q := by
  refine ⟨a, xs, rfl, SqT.of h, fun z => q H a (Same.refl H) ?_, fun _ p hp => q _ p (same_new hp) upd_same⟩
  have e : cutV xs lo hi = xs := by
    unfold cutV
    rw [z.1, z.2, List.drop_zero, Nat.sub_zero]
    exact List.take_of_length_le (Nat.le_refl _)
  rw [e]; exact h
theorem sl_goL {K : PySem.W.Frag} {σ : L2.St} {H : Hp} {a : Addr} {xs : List V} {lo : Int} {Q : VK} (h : H a = some (.tup xs)) (q : ∀ H' p, Same H H' → H' p = some (.tup (cutV xs (some lo) none)) → Q (.ref p) H') : tNoPart σ H (fun u H3 => rSlA K (.ref a) (some lo) u H3 Q) := sl_go h q
theorem cat_go {K : PySem.W.Frag} {H : Hp} {a b : Addr} {xs ys : List V} {Q : VK} (ha : H a = some (.tup xs)) (hb : H b = some (.tup ys)) (hl : xs.length + ys.length ≤ sizeLine) (q : ∀ H' p, Same H H' → H' p = some (.tup (xs ++ ys)) → Q (.ref p) H') : rCatA K (.ref a) (.ref b) H Q := by
  refine ⟨a, b, xs, ys, rfl, rfl, SqT.of ha, SqT.of hb, hl, fun z => q H b (Same.refl H) (by rw [z]; exact hb), fun _ z => q H a (Same.refl H) (by rw [z, List.append_nil]; exact ha), fun _ _ p hp => q _ p (same_new hp) upd_same⟩
theorem isA_take {C : Addr} {H : Hp} : ∀ {xs : List V} {ds : List D} (n : Nat), IsA C H xs ds → IsA C H (xs.take n) (ds.take n)
  | _, _, 0, _ => by simp only [List.take_zero]; exact .nil
  | _, _, n + 1, .nil => by simp only [List.take_nil]; exact .nil
  | _, _, n + 1, .cons h t => by simp only [List.take_succ_cons]; exact .cons h (isA_take n t)
theorem isA_drop {C : Addr} {H : Hp} : ∀ {xs : List V} {ds : List D} (n : Nat), IsA C H xs ds → IsA C H (xs.drop n) (ds.drop n)
  | _, _, 0, h => by simp only [List.drop_zero]; exact h
  | _, _, n + 1, .nil => by simp only [List.drop_nil]; exact .nil
  | _, _, n + 1, .cons h t => by simp only [List.drop_succ_cons]; exact isA_drop n t
theorem szLtk : ∀ (ds : List D) (n : Nat), szL (ds.take n) ≤ szL ds
  | _, 0 => by simp only [List.take_zero, szL]; omega
  | [], n + 1 => by simp only [List.take_nil, szL]; omega
  | d :: ds, n + 1 => by simp only [List.take_succ_cons, szL]; have := szLtk ds n; omega
theorem szLdr : ∀ (ds : List D) (n : Nat), szL (ds.drop n) ≤ szL ds
  | _, 0 => by simp only [List.drop_zero]; omega
  | [], n + 1 => by simp only [List.drop_nil, szL]; omega
  | d :: ds, n + 1 => by simp only [List.drop_succ_cons, szL]; have := szLdr ds n; omega
theorem txlL_app : ∀ (a b : List D), txlL (a ++ b) ↔ txlL a ∧ txlL b
  | [], b => by simp [txlL]
  | x :: a, b => by rw [List.cons_append]; simp only [txlL]; rw [txlL_app a b, and_assoc]
theorem txlLtk : ∀ (ds : List D) (n : Nat), txlL ds → txlL (ds.take n)
  | _, 0, _ => by simp only [List.take_zero, txlL]
  | [], n + 1, _ => by simp only [List.take_nil, txlL]
  | d :: ds, n + 1, h => by simp only [txlL] at h; simp only [List.take_succ_cons, txlL]; exact ⟨h.1, txlLtk ds n h.2⟩
theorem txlLdr : ∀ (ds : List D) (n : Nat), txlL ds → txlL (ds.drop n)
  | _, 0, h => by simp only [List.drop_zero]; exact h
  | [], n + 1, _ => by simp only [List.drop_nil, txlL]
  | d :: ds, n + 1, h => by simp only [txlL] at h; simp only [List.drop_succ_cons]; exact txlLdr ds n h.2
/-! ### terms that are none -/
theorem bad_len {k : Str} {fs : List Str} {ds : List D} (h : formsOf k = some fs) (hl : ds.length ≠ fs.length) : isTermK k ds = false := by
  unfold isTermK; rw [h]; simp [hl]
theorem bad_at {k : Str} {fs : List Str} {ds : List D} (h : formsOf k = some fs) {i : Nat} {d : D} {z : Str} (h1 : ds[i]? = some d) (h2 : fs[i]? = some z) (hb : partOk d z = false) : isTermK k ds = false := by
  unfold isTermK; rw [h]
  have h3 : (ds.zip fs)[i]? = some (d, z) := List.getElem?_zip_eq_some.mpr ⟨h1, h2⟩
  have h4 : ((ds.zip fs).all fun p => partOk p.1 p.2) = false := by
    rw [List.all_eq_false]
    exact ⟨(d, z), List.mem_of_getElem? h3, by simp [hb]⟩
  simp only [h4, Bool.and_false]
theorem set_at {ds : List D} {i : Nat} {e : D} {r : List D} (h : i ≤ ds.length) : (ds.take i ++ [e] ++ r)[i]? = some e := by
  have h1 : (ds.take i).length = i := by rw [List.length_take]; omega
  rw [List.append_assoc, List.getElem?_append_right (by omega), h1, Nat.sub_self]; rfl
/-- a pair of a kind and a term that is none -/
def BadP (dk dt : D) : Prop := KindOk dk ∧ Fit dt ∧ isTermD dk dt = false
def RowB (C : Addr) (H : Hp) (x : V) : Prop := ∃ a xk xt dk dt, x = .ref a ∧ H a = some (.tup [xk, xt]) ∧ Is C H xk dk ∧ Is C H xt dt ∧ BadP dk dt
theorem RowB.same {C : Addr} {H H' : Hp} {x : V} (s : Same H H') (h : RowB C H x) : RowB C H' x := by
  obtain ⟨a, xk, xt, dk, dt, rfl, h1, h2, h3, h4⟩ := h
  exact ⟨a, xk, xt, dk, dt, rfl, s _ _ h1, h2.same s, h3.same s, h4⟩
/-! ### a heap without some cells -/
def nx (ps : List Addr) (H : Hp) : Hp := fun b => if b ∈ ps then none else H b
theorem nx_le {ps : List Addr} {H : Hp} : Same (nx ps H) H := fun b o e => by
  unfold nx at e
  by_cases h : b ∈ ps
  · rw [if_pos h] at e; cases e
  · rwa [if_neg h] at e
theorem nx_off {ps : List Addr} {H : Hp} {b : Addr} (h : b ∉ ps) : nx ps H b = H b := if_neg h
theorem nx_in {ps : List Addr} {H : Hp} {b : Addr} {o : HO} (e : nx ps H b = some o) : b ∉ ps := fun h => by
  unfold nx at e; rw [if_pos h] at e; cases e
theorem nx_same {ps : List Addr} {H H' : Hp} (s : Same H H') : Same (nx ps H) (nx ps H') := fun x o e => by
  have h := nx_in e
  rw [nx_off h] at e ⊢
  exact s _ _ e
theorem nx_upd {ps : List Addr} {H : Hp} {l : Addr} {o : HO} (h : l ∈ ps) : Same (nx ps H) (nx ps (upd H l o)) := fun x u e => by
  have n := nx_in e
  rw [nx_off n] at e ⊢
  rw [upd_ne (fun z => n (by rw [z]; exact h))]; exact e
/-- a fresh cell is left out, too -/
theorem nx_add {ps : List Addr} {H : Hp} {l : Addr} {o : HO} (h : H l = none) : Same (nx ps H) (nx (ps ++ [l]) (upd H l o)) := fun x u e => by
  have n := nx_in e
  rw [nx_off n] at e
  have nl : x ≠ l := fun z => by rw [z, h] at e; cases e
  rw [nx_off (by simp [n, nl]), upd_ne nl]; exact e
end Hc

set_option maxHeartbeats 8000000
namespace Hr
open PySem PySem.Spec PyProof.Rows PySem.SeqAt
open AutoSeq1 (wpAny_loadPart')
open MeetsSeq MeetsSeq2 MeetsSeq3 SeqRoads2
section
variable {prog : Program} {w : World} {A : Around} {R : Result → Shared → Prop}
theorem tup_neB {l b : Addr} {items items2 : Array Value} {n n2 : Nat} {dd dd2 : Option Addr} {sl sl2 : Array (Option Value)} {bs : Nat → Bool} {J : Shared → Prop}
    (turn : ∀ i (h1 : i < items.size) (h2 : i < items2.size) s, J s → wpAny (model prog w) A.in1 (eqBool items[i] items2[i]) (fun r s' => r = bs i ∧ J s') (fun e s' => R (.error e) s') s)
    (fin : ∀ s, J s → R (.ok (.ret (.bool (!allP bs items.size items2.size)))) s) {s : Shared} (hl1 : s.heap.get? l = some { cls := .type "tuple", dict := dd, data := .seq items n, slots := sl }) (hb1 : s.heap.get? b = some { cls := .type "tuple", dict := dd2, data := .seq items2 n2, slots := sl2 }) (h : J s) :
    wpAny (model prog w) A.in1 (Builtin.«tuple.__ne__» ⟨[.ref l, .ref b], []⟩) (GQ.FinOf prog w A R) (fun e s' => R (.error e) s') s := by
  have f2 := AutoSeq1.sub_tuple_tuple
  have hZ : (items.toList.zip items2.toList).length = min items.size items2.size := by simp
  have h0 := h
  obtain ⟨hp, g, d, tk, os⟩ := s
  wp_walk using wpAny_loadPart' hl1, wpAny_loadPart' hb1, wpAny_forIn_list _ (fun rest b s' => b.1 = none ∧ ∃ i, rest = (items.toList.zip items2.toList).drop i ∧ i ≤ min items.size items2.size ∧ (∀ j, j < i → bs j = true) ∧ J s') _
  case turn =>
    rintro ⟨y, x⟩ rest b s' ⟨hb', i, hz, hi, hbs, hI⟩
    have hlt : i < (items.toList.zip items2.toList).length := by
      rcases Nat.lt_or_ge i (items.toList.zip items2.toList).length with h' | h'
      · exact h'
      · rw [List.drop_of_length_le h'] at hz; cases hz
    have hm : i < min items.size items2.size := hZ ▸ hlt
    have h1 : i < items.size := Nat.lt_of_lt_of_le hm (Nat.min_le_left _ _)
    have h2 : i < items2.size := Nat.lt_of_lt_of_le hm (Nat.min_le_right _ _)
    rw [List.drop_eq_getElem_cons hlt] at hz
    injection hz with hyx hrest
    have hy : y = items[i] := by have := congrArg Prod.fst hyx; simpa using this
    have hx : x = items2[i] := by have := congrArg Prod.snd hyx; simpa using this
    subst hy hx
    refine wpAny_bind (wpAny_mono (turn i h1 h2 s' hI) (fun r s2 q2 => ?_) fun _ _ x => x)
    obtain ⟨hr, q2⟩ := q2
    subst hr
    cases hbi : bs i with
    | true =>
      wp_walk
      exact ⟨rfl, i + 1, hrest, hm, fun j hj => by
        rcases Nat.lt_succ_iff_lt_or_eq.mp hj with h | rfl
        · exact hbs j h
        · exact hbi, q2⟩
    | false =>
      have hR := fin s2 q2
      rw [allP_no hm hbi] at hR
      wp_walk
      exact hR
  case fin =>
    rintro ⟨b1, b2⟩ s' ⟨hb', i, hz, hi, hbs, hI⟩
    simp only at hb'
    subst hb'
    have hge : min items.size items2.size ≤ i := by
      rcases Nat.lt_or_ge i (items.toList.zip items2.toList).length with h' | h'
      · rw [List.drop_eq_getElem_cons h'] at hz; cases hz
      · exact hZ ▸ h'
    have hR := fin s' hI
    rw [allP_yes fun j hj => hbs j (by omega)] at hR
    wp_walk
    simpa [Builtin.Tuple.tupleCompareSizes, bne] using hR
  case h =>
    exact ⟨rfl, 0, rfl, Nat.zero_le _, fun j hj => absurd hj (Nat.not_lt_zero _), h0⟩
end
end Hr
namespace Hc
open PySem PySem.Spec PyProof.Rows L2 Hr PySem.SeqAt
section
variable {X : Cx} {n N : Nat} {C : Addr}
def rNeW (C : Addr) (N : Nat) : R2 := fun x y H Q => ∃ d e, W2 C H x y d e ∧ dep d ≤ N ∧ ∀ H', Same H H' → Q (.bl (!eqD d e)) H'

theorem op_eqW (O : OwnS X.prog X.w X.K X.mg X.base n C (spEqG C)) (o : Oth X.K C) (hr : Room (N + n + 1) X.A) : OpR X (compareOp .Eq) (rEqW C N) := by
  intro pins s σ H x y v u Q I rx ry h
  obtain ⟨d, e, w2, hdp, q⟩ := h
  have hx := w2.x
  have hy := w2.y
  have wd := w2.wd
  have we := w2.we
  have zd := w2.zd
  have ze := w2.ze
  have sb0 : Sub X (N + n + 1) X.A := ⟨hr, rfl⟩
  have sb1 : Sub X n X.A.in1 := (sb0.mono (by omega : n + 1 ≤ N + n + 1)).in1
  have sb : Sub X n X.A := sb0.mono (by omega)
  have hu := hr.units0
  have hu1 := sb1.room.units0
  show wpAny (model X.prog X.w) X.A (richCompare .Eq v u) (EP X pins σ Q) X.xe s
  have fin : ∀ (b : Bool), b = (eqD d e) → ∀ s', LoopS X pins σ H s' → EP X pins σ Q (.bool b) s' := fun b hb s' j => by
    obtain ⟨H', I', e'⟩ := j
    rw [hb]
    exact ⟨.bl _, H', I', rfl, q H' e'⟩
  have here : LoopS X pins σ H s := ⟨H, I, Same.refl H⟩
  have own : ∀ {a dx : Addr} {fs : List (Str × V)} {y : V} {v : Value} {d e : D}, H a = some (.ins C dx fs) → Is C H (.ref a) d → Is C H y e → RelV y v → isAt d = true → wrd d = true → wrd e = true → sz d ≤ 1000000 → sz e ≤ 1000000 → Own X.prog X.w X.A X.xe a v (eqD d e) (LoopS X pins σ H) s :=
    fun u1 h1 h2 rv d1 wd we zd ze => own_run O sb I u1 rv ⟨_, _, _, _, rfl, h1, h2, d1, wd, we, zd, ze, fun H' s' => ⟨rfl, s'⟩⟩
  have inst : ∀ {a dx : Addr} {fs : List (Str × V)}, H a = some (.ins C dx fs) → ∃ od, PySem.W.InstAt s.heap a (PySem.W.instObj C dx) C (some od) := fun u1 => by
    obtain ⟨mA, J, _⟩ := ins_get I.hok u1
    obtain ⟨od, J, _⟩ := J.look
    exact ⟨od, J⟩
  have tups : ∀ {a : Addr} {xs : List V}, H a = some (.tup xs) → ∃ its : Array Value, s.heap.IsTuple a its := fun h => by
    obtain ⟨its, r, e, z⟩ := I.tuple (SqT.of h)
    exact ⟨_, e⟩
  have comm : isAt d = false → isAt e = true → eqD e d = eqD d e := fun h1 h2 => by
    cases d <;> cases e <;> first | rfl | (simp [isAt] at h1; done) | (simp [isAt] at h2; done)
  have left : ∀ {a dx : Addr} {fs : List (Str × V)} {T : String}, H a = some (.ins C dx fs) → x = .ref a → s.TypeIs u T → (T = "NoneType" ∨ T = "int" ∨ T = "str" ∨ T = "tuple") → isAt d = true → wpAny (model X.prog X.w) X.A (richCompare .Eq v u) (EP X pins σ Q) X.xe s := fun {a dx fs T} u1 hxa ht1 hT d1 => by
    subst hxa
    cases rx
    obtain ⟨od, J⟩ := inst u1
    exact rc_left (op := .Eq) hu I.kIn J ht1 hT (try_eq (own u1 hx hy ry d1 wd we zd ze)) (fun s' j => fin _ rfl s' j)
  have right : ∀ {c dy : Addr} {gs : List (Str × V)} {T id : String}, H c = some (.ins C dy gs) → y = .ref c → s.TypeIs v T → PySem.W.subIn X.K (.ref C) (.type T) = some false → oneThing? .Eq v (.ref c) = none → Slot T (cmpInfo .Eq).2.1 id →
      wpAny (model X.prog X.w) X.A (call (.builtin id) [v, .ref c]) (fun z s' => z = .notImplemented ∧ s' = s) X.xe s → isAt e = true → isAt d = false → wpAny (model X.prog X.w) X.A (richCompare .Eq v u) (EP X pins σ Q) X.xe s := fun {c dy gs T id} u1 hyc ht1 hT hone sl dec e1 d1 => by
    subst hyc
    cases ry
    obtain ⟨od, J⟩ := inst u1
    exact rc_right (op := .Eq) hu I.kIn J ht1 hT hone sl dec (try_eq (own u1 hy hx rx e1 we wd ze zd)) (fun s' j => fin _ (by rw [comm d1 e1]) s' j)
  have flat : scal x y = true → (decide (x = y)) = ((eqD d e)) → wpAny (model X.prog X.w) X.A (richCompare .Eq v u) (EP X pins σ Q) X.xe s := fun hs he => op_eq pins s σ H x y v u Q I rx ry ⟨hs, by rw [he]; exact q H (Same.refl H)⟩
  cases hx with
  | bl b => cases wd
  | lst _ _ => cases wd
  | dct _ => cases wd
  | @atom a1 dx1 t1 k1 xs1 ds1 u1 v1 i1 =>
    cases hy with
    | bl b => cases we
    | lst _ _ => cases we
    | dct _ => cases we
    | @atom a2 dx2 t2 k2 xs2 ds2 u2 v2 i2 =>
      cases rx
      cases ry
      obtain ⟨od, J⟩ := inst u1
      obtain ⟨od2, J2⟩ := inst u2
      have ow := try_eq (own u1 (.atom u1 v1 i1) (.atom u2 v2 i2) (rfl : RelV (.ref a2) (.ref a2)) rfl wd we zd ze)
      unfold richCompare
      simp only [oneThing_ref]
      refine wpAny_holding (wpAny_bind (wpAny_cRoomFor hu ?_))
      refine wpAny_bind (J.type.here (wpAny_bind (J2.type.here ?_)))
      split
      · rename_i z
        exact absurd z (by simp)
      · refine wpAny_bind (wpAny_pure ?_)
        simp only [Bool.false_eq_true, if_false]
        refine wpAny_bind (wpAny_mono ow (fun r s' z => ?_) fun _ _ z => z)
        obtain ⟨rfl, j⟩ := z
        exact wpAny_pure (fin _ rfl s' j)
    | non => cases ry; exact left u1 rfl rfl (.inl rfl) rfl
    | int j => obtain ⟨t, rfl⟩ := ry; exact left u1 rfl rfl (.inr (.inl rfl)) rfl
    | str z => obtain ⟨t, rfl⟩ := ry; exact left u1 rfl rfl (.inr (.inr (.inl rfl))) rfl
    | tup h2 i2 =>
      cases ry
      obtain ⟨its, oo, ho, hc, _⟩ := tups h2
      exact left u1 rfl ⟨oo, ho, hc⟩ (.inr (.inr (.inr rfl))) rfl
  | non =>
    cases rx
    cases hy with
    | bl b => cases we
    | lst _ _ => cases we
    | dct _ => cases we
    | non => exact flat rfl (by simp [eqD])
    | int j => exact flat rfl (by simp [eqD])
    | str z => exact flat rfl (by simp [eqD])
    | tup h2 i2 =>
      cases ry
      obtain ⟨its, hi⟩ := tups h2
      exact RcAt.none_tuple hi hu _ _ _ _ (fin _ rfl s here)
    | @atom c dy _ _ _ _ u2 _ _ => exact right u2 rfl rfl o.sN rfl F.slot_NoneType_eq (call_gives F.slot_NoneType_eq rfl F.entry_NoneType_eq (F.args_NoneType_eq_2 _ _) (NoneType___eq___none_ref_0 c) ⟨rfl, rfl⟩) rfl rfl
  | int i =>
    obtain ⟨t, rfl⟩ := rx
    cases hy with
    | bl b => cases we
    | lst _ _ => cases we
    | dct _ => cases we
    | non => exact flat rfl (by simp [eqD])
    | int j => exact flat rfl (by simp [eqD])
    | str z => exact flat rfl (by simp [eqD])
    | tup h2 i2 =>
      cases ry
      obtain ⟨its, hi⟩ := tups h2
      exact RcAt.int_tuple i t hi hu _ _ _ _ (fin _ rfl s here)
    | @atom c dy _ _ _ _ u2 _ _ =>
      obtain ⟨od, J⟩ := inst u2
      exact right u2 rfl rfl o.sI rfl F.slot_int_eq (call_meets F.slot_int_eq rfl F.entry_int_eq (F.args_int_eq_2 _ _) (int_eq_inst i t c C dy) ⟨J.at_, rfl, rfl⟩) rfl rfl
  | str z0 =>
    obtain ⟨t, rfl⟩ := rx
    cases hy with
    | bl b => cases we
    | lst _ _ => cases we
    | dct _ => cases we
    | non => exact flat rfl (by simp [eqD])
    | int j => exact flat rfl (by simp [eqD])
    | str z => exact flat rfl (by simp [eqD])
    | tup h2 i2 =>
      cases ry
      obtain ⟨its, hi⟩ := tups h2
      exact RcAt.str_tuple z0 t hi hu _ _ _ _ (fin _ rfl s here)
    | @atom c dy _ _ _ _ u2 _ _ =>
      obtain ⟨od, J⟩ := inst u2
      exact right u2 rfl rfl o.sS rfl F.slot_str_eq (call_meets F.slot_str_eq rfl F.entry_str_eq (F.args_str_eq_2 _ _) (str_eq_inst z0 t c C dy) ⟨J.at_, rfl, rfl⟩) rfl rfl
  | @tup a1 xs1 ds1 h1 i1 =>
    cases rx
    obtain ⟨its, hi⟩ := tups h1
    cases hy with
    | bl b => cases we
    | lst _ _ => cases we
    | dct _ => cases we
    | non => cases ry; exact RcAt.tuple_none hi hu _ _ _ _ (fin _ rfl s here)
    | int j => obtain ⟨t, rfl⟩ := ry; exact RcAt.tuple_int j t hi hu _ _ _ _ (fin _ rfl s here)
    | str z => obtain ⟨t, rfl⟩ := ry; exact RcAt.tuple_str z t hi hu _ _ _ _ (fin _ rfl s here)
    | @atom c dy _ _ _ _ u2 _ _ =>
      obtain ⟨od, J⟩ := inst u2
      obtain ⟨⟨cls, dd, data, sl⟩, ho, hc, k, hd⟩ := id hi
      simp only at hc hd
      subst hc hd
      exact right u2 rfl ⟨_, ho, rfl⟩ o.sT (oneThing_ref _ _ _) F.slot_tuple_eq (GQ.call_here F.slot_tuple_eq ⟨_, ho, rfl⟩ F.entry_tuple_eq (F.args_tuple_eq_2 _ _) (tup_eq_inst (PySem.W.looks_subIn I.kIn o.sT) J.at_ ho ⟨rfl, rfl⟩)) rfl rfl
    | @tup a2 ys1 es1 h2 i2 =>
      cases ry
      obtain ⟨its, r, eT, z⟩ := I.tuple (SqT.of h1)
      obtain ⟨its2, r2, eT2, z2⟩ := I.tuple (SqT.of h2)
      simp only [wrd] at wd we
      simp only [sz] at zd ze
      have l1 := r.length
      have l2 := r2.length
      have l3 := i1.len
      have l4 := i2.len
      obtain ⟨⟨cls, dd, data, sl⟩, ho, hc, n1, hd1⟩ := id eT
      obtain ⟨⟨cls2, dd2, data2, sl2⟩, ho2, hc2, n2, hd2⟩ := id eT2
      simp only at hc hd1 hc2 hd2
      subst hc hd1 hc2 hd2
      have hdep : depL ds1 ≤ N := by simp only [dep] at hdp; omega
      have pair : ∀ i (k1 : i < its.toArray.size) (k2 : i < its2.toArray.size) s1, LoopS X pins σ H s1 → wpAny (model X.prog X.w) X.A.in1 (eqBool its.toArray[i] its2.toArray[i]) (fun r s' => r = (match ds1[i]?, es1[i]? with | some d, some e => eqD d e | _, _ => false) ∧ LoopS X pins σ H s') X.xe s1 := fun i k1 k2 s1 j => by
        obtain ⟨H1, I1, e1⟩ := j
        have k1' : i < its.length := by simpa using k1
        have k2' : i < its2.length := by simpa using k2
        obtain ⟨p, hp, rp⟩ := r.get (List.getElem?_eq_getElem (show i < xs1.length by omega))
        obtain ⟨q, hq, rq⟩ := r2.get (List.getElem?_eq_getElem (show i < ys1.length by omega))
        rw [List.getElem?_eq_getElem k1'] at hp
        rw [List.getElem?_eq_getElem k2'] at hq
        have ep : its.toArray[i] = p := by simpa using Option.some.inj hp
        have eq : its2.toArray[i] = q := by simpa using Option.some.inj hq
        obtain ⟨d', hd', ix⟩ := i1.at (List.getElem?_eq_getElem (show i < xs1.length by omega))
        obtain ⟨e', he', iy⟩ := i2.at (List.getElem?_eq_getElem (show i < ys1.length by omega))
        have md := List.mem_of_getElem? hd'
        have me := List.mem_of_getElem? he'
        have s1' := szL_mem md
        have s2' := szL_mem me
        rw [ep, eq, hd', he']
        refine wpAny_mono (eqW O o N (A := X.A.in1) sb0.in1 (Nat.le_trans (depL_mem md) hdep) I1 rp rq ⟨ix.same e1, iy.same e1, wrdL_mem wd md, wrdL_mem we me, by omega, by omega⟩) (fun r s2 q2 => ?_) fun _ _ z => z
        obtain ⟨hr, H2, I2, e2⟩ := q2
        exact ⟨hr, H2, I2, e1.trans e2⟩
      have hall : allP (fun i => match ds1[i]?, es1[i]? with | some d, some e => eqD d e | _, _ => false) its.toArray.size its2.toArray.size = eqL ds1 es1 := by
        rw [List.size_toArray, List.size_toArray, ← l1, ← l2, l3, l4]
        exact eqL_all _ fun i d' e' h1 h2 => by simp only [h1, h2]
      refine wpAny_richCompare_same_room (op := .Eq) ⟨_, ho, rfl⟩ ⟨_, ho2, rfl⟩ F.slot_tuple_eq (GQ.call_here F.slot_tuple_eq ⟨_, ho, rfl⟩ F.entry_tuple_eq (F.args_tuple_eq_2 _ _) ?_) hu
      exact tup_eqB (R := wants (fun z s' => z ≠ .notImplemented ∧ EP X pins σ Q z s') X.xe) pair (fun s' j => ⟨(fun z => nomatch z), fin _ (by rw [hall]; rfl) s' j⟩) ho ho2 here

theorem op_neW (O : OwnS X.prog X.w X.K X.mg X.base n C (spEqG C)) (o : Oth X.K C) (hr : Room (N + n + 1) X.A) : OpR X (compareOp .NotEq) (rNeW C N) := by
  intro pins s σ H x y v u Q I rx ry h
  obtain ⟨d, e, w2, hdp, q⟩ := h
  have hx := w2.x
  have hy := w2.y
  have wd := w2.wd
  have we := w2.we
  have zd := w2.zd
  have ze := w2.ze
  have sb0 : Sub X (N + n + 1) X.A := ⟨hr, rfl⟩
  have sb1 : Sub X n X.A.in1 := (sb0.mono (by omega : n + 1 ≤ N + n + 1)).in1
  have sb : Sub X n X.A := sb0.mono (by omega)
  have hu := hr.units0
  have hu1 := sb1.room.units0
  show wpAny (model X.prog X.w) X.A (richCompare .NotEq v u) (EP X pins σ Q) X.xe s
  have fin : ∀ (b : Bool), b = !(eqD d e) → ∀ s', LoopS X pins σ H s' → EP X pins σ Q (.bool b) s' := fun b hb s' j => by
    obtain ⟨H', I', e'⟩ := j
    rw [hb]
    exact ⟨.bl _, H', I', rfl, q H' e'⟩
  have here : LoopS X pins σ H s := ⟨H, I, Same.refl H⟩
  have own : ∀ {a dx : Addr} {fs : List (Str × V)} {y : V} {v : Value} {d e : D}, H a = some (.ins C dx fs) → Is C H (.ref a) d → Is C H y e → RelV y v → isAt d = true → wrd d = true → wrd e = true → sz d ≤ 1000000 → sz e ≤ 1000000 → Own X.prog X.w X.A.in1 X.xe a v (eqD d e) (LoopS X pins σ H) s :=
    fun u1 h1 h2 rv d1 wd we zd ze => own_run O sb1 I u1 rv ⟨_, _, _, _, rfl, h1, h2, d1, wd, we, zd, ze, fun H' s' => ⟨rfl, s'⟩⟩
  have inst : ∀ {a dx : Addr} {fs : List (Str × V)}, H a = some (.ins C dx fs) → ∃ od, PySem.W.InstAt s.heap a (PySem.W.instObj C dx) C (some od) := fun u1 => by
    obtain ⟨mA, J, _⟩ := ins_get I.hok u1
    obtain ⟨od, J, _⟩ := J.look
    exact ⟨od, J⟩
  have tups : ∀ {a : Addr} {xs : List V}, H a = some (.tup xs) → ∃ its : Array Value, s.heap.IsTuple a its := fun h => by
    obtain ⟨its, r, e, z⟩ := I.tuple (SqT.of h)
    exact ⟨_, e⟩
  have comm : isAt d = false → isAt e = true → eqD e d = eqD d e := fun h1 h2 => by
    cases d <;> cases e <;> first | rfl | (simp [isAt] at h1; done) | (simp [isAt] at h2; done)
  have left : ∀ {a dx : Addr} {fs : List (Str × V)} {T : String}, H a = some (.ins C dx fs) → x = .ref a → s.TypeIs u T → (T = "NoneType" ∨ T = "int" ∨ T = "str" ∨ T = "tuple") → isAt d = true → wpAny (model X.prog X.w) X.A (richCompare .NotEq v u) (EP X pins σ Q) X.xe s := fun {a dx fs T} u1 hxa ht1 hT d1 => by
    subst hxa
    cases rx
    obtain ⟨od, J⟩ := inst u1
    exact rc_left (op := .NotEq) hu I.kIn J ht1 hT (try_ne hu hu1 I.kIn J o (own u1 hx hy ry d1 wd we zd ze)) (fun s' j => fin _ rfl s' j)
  have right : ∀ {c dy : Addr} {gs : List (Str × V)} {T id : String}, H c = some (.ins C dy gs) → y = .ref c → s.TypeIs v T → PySem.W.subIn X.K (.ref C) (.type T) = some false → oneThing? .NotEq v (.ref c) = none → Slot T (cmpInfo .NotEq).2.1 id →
      wpAny (model X.prog X.w) X.A (call (.builtin id) [v, .ref c]) (fun z s' => z = .notImplemented ∧ s' = s) X.xe s → isAt e = true → isAt d = false → wpAny (model X.prog X.w) X.A (richCompare .NotEq v u) (EP X pins σ Q) X.xe s := fun {c dy gs T id} u1 hyc ht1 hT hone sl dec e1 d1 => by
    subst hyc
    cases ry
    obtain ⟨od, J⟩ := inst u1
    exact rc_right (op := .NotEq) hu I.kIn J ht1 hT hone sl dec (try_ne hu hu1 I.kIn J o (own u1 hy hx rx e1 we wd ze zd)) (fun s' j => fin _ (by rw [comm d1 e1]) s' j)
  have flat : scal x y = true → (!decide (x = y)) = (!(eqD d e)) → wpAny (model X.prog X.w) X.A (richCompare .NotEq v u) (EP X pins σ Q) X.xe s := fun hs he => op_ne pins s σ H x y v u Q I rx ry ⟨hs, by rw [he]; exact q H (Same.refl H)⟩
  cases hx with
  | bl b => cases wd
  | lst _ _ => cases wd
  | dct _ => cases wd
  | @atom a1 dx1 t1 k1 xs1 ds1 u1 v1 i1 =>
    cases hy with
    | bl b => cases we
    | lst _ _ => cases we
    | dct _ => cases we
    | @atom a2 dx2 t2 k2 xs2 ds2 u2 v2 i2 =>
      cases rx
      cases ry
      obtain ⟨od, J⟩ := inst u1
      obtain ⟨od2, J2⟩ := inst u2
      have ow := try_ne hu hu1 I.kIn J o (own u1 (.atom u1 v1 i1) (.atom u2 v2 i2) (rfl : RelV (.ref a2) (.ref a2)) rfl wd we zd ze)
      unfold richCompare
      simp only [oneThing_ref]
      refine wpAny_holding (wpAny_bind (wpAny_cRoomFor hu ?_))
      refine wpAny_bind (J.type.here (wpAny_bind (J2.type.here ?_)))
      split
      · rename_i z
        exact absurd z (by simp)
      · refine wpAny_bind (wpAny_pure ?_)
        simp only [Bool.false_eq_true, if_false]
        refine wpAny_bind (wpAny_mono ow (fun r s' z => ?_) fun _ _ z => z)
        obtain ⟨rfl, j⟩ := z
        exact wpAny_pure (fin _ rfl s' j)
    | non => cases ry; exact left u1 rfl rfl (.inl rfl) rfl
    | int j => obtain ⟨t, rfl⟩ := ry; exact left u1 rfl rfl (.inr (.inl rfl)) rfl
    | str z => obtain ⟨t, rfl⟩ := ry; exact left u1 rfl rfl (.inr (.inr (.inl rfl))) rfl
    | tup h2 i2 =>
      cases ry
      obtain ⟨its, oo, ho, hc, _⟩ := tups h2
      exact left u1 rfl ⟨oo, ho, hc⟩ (.inr (.inr (.inr rfl))) rfl
  | non =>
    cases rx
    cases hy with
    | bl b => cases we
    | lst _ _ => cases we
    | dct _ => cases we
    | non => exact flat rfl (by simp [eqD])
    | int j => exact flat rfl (by simp [eqD])
    | str z => exact flat rfl (by simp [eqD])
    | tup h2 i2 =>
      cases ry
      obtain ⟨its, hi⟩ := tups h2
      exact RcNeAt.none_tuple hi hu _ _ _ _ (fin _ rfl s here)
    | @atom c dy _ _ _ _ u2 _ _ => exact right u2 rfl rfl o.sN rfl F.slot_NoneType_ne (call_gives F.slot_NoneType_ne rfl F.entry_NoneType_ne (F.args_NoneType_ne_2 _ _) (NoneType___ne___none_ref_0 c) ⟨rfl, rfl⟩) rfl rfl
  | int i =>
    obtain ⟨t, rfl⟩ := rx
    cases hy with
    | bl b => cases we
    | lst _ _ => cases we
    | dct _ => cases we
    | non => exact flat rfl (by simp [eqD])
    | int j => exact flat rfl (by simp [eqD])
    | str z => exact flat rfl (by simp [eqD])
    | tup h2 i2 =>
      cases ry
      obtain ⟨its, hi⟩ := tups h2
      exact RcNeAt.int_tuple i t hi hu _ _ _ _ (fin _ rfl s here)
    | @atom c dy _ _ _ _ u2 _ _ =>
      obtain ⟨od, J⟩ := inst u2
      exact right u2 rfl rfl o.sI rfl F.slot_int_ne (call_meets F.slot_int_ne rfl F.entry_int_ne (F.args_int_ne_2 _ _) (int_ne_inst i t c C dy) ⟨J.at_, rfl, rfl⟩) rfl rfl
  | str z0 =>
    obtain ⟨t, rfl⟩ := rx
    cases hy with
    | bl b => cases we
    | lst _ _ => cases we
    | dct _ => cases we
    | non => exact flat rfl (by simp [eqD])
    | int j => exact flat rfl (by simp [eqD])
    | str z => exact flat rfl (by simp [eqD])
    | tup h2 i2 =>
      cases ry
      obtain ⟨its, hi⟩ := tups h2
      exact RcNeAt.str_tuple z0 t hi hu _ _ _ _ (fin _ rfl s here)
    | @atom c dy _ _ _ _ u2 _ _ =>
      obtain ⟨od, J⟩ := inst u2
      exact right u2 rfl rfl o.sS rfl F.slot_str_ne (call_meets F.slot_str_ne rfl F.entry_str_ne (F.args_str_ne_2 _ _) (str_ne_inst z0 t c C dy) ⟨J.at_, rfl, rfl⟩) rfl rfl
  | @tup a1 xs1 ds1 h1 i1 =>
    cases rx
    obtain ⟨its, hi⟩ := tups h1
    cases hy with
    | bl b => cases we
    | lst _ _ => cases we
    | dct _ => cases we
    | non => cases ry; exact RcNeAt.tuple_none hi hu _ _ _ _ (fin _ rfl s here)
    | int j => obtain ⟨t, rfl⟩ := ry; exact RcNeAt.tuple_int j t hi hu _ _ _ _ (fin _ rfl s here)
    | str z => obtain ⟨t, rfl⟩ := ry; exact RcNeAt.tuple_str z t hi hu _ _ _ _ (fin _ rfl s here)
    | @atom c dy _ _ _ _ u2 _ _ =>
      obtain ⟨od, J⟩ := inst u2
      obtain ⟨⟨cls, dd, data, sl⟩, ho, hc, k, hd⟩ := id hi
      simp only at hc hd
      subst hc hd
      exact right u2 rfl ⟨_, ho, rfl⟩ o.sT (oneThing_ref _ _ _) F.slot_tuple_ne (GQ.call_here F.slot_tuple_ne ⟨_, ho, rfl⟩ F.entry_tuple_ne (F.args_tuple_ne_2 _ _) (tup_ne_inst (PySem.W.looks_subIn I.kIn o.sT) J.at_ ho ⟨rfl, rfl⟩)) rfl rfl
    | @tup a2 ys1 es1 h2 i2 =>
      cases ry
      obtain ⟨its, r, eT, z⟩ := I.tuple (SqT.of h1)
      obtain ⟨its2, r2, eT2, z2⟩ := I.tuple (SqT.of h2)
      simp only [wrd] at wd we
      simp only [sz] at zd ze
      have l1 := r.length
      have l2 := r2.length
      have l3 := i1.len
      have l4 := i2.len
      obtain ⟨⟨cls, dd, data, sl⟩, ho, hc, n1, hd1⟩ := id eT
      obtain ⟨⟨cls2, dd2, data2, sl2⟩, ho2, hc2, n2, hd2⟩ := id eT2
      simp only at hc hd1 hc2 hd2
      subst hc hd1 hc2 hd2
      have hdep : depL ds1 ≤ N := by simp only [dep] at hdp; omega
      have pair : ∀ i (k1 : i < its.toArray.size) (k2 : i < its2.toArray.size) s1, LoopS X pins σ H s1 → wpAny (model X.prog X.w) X.A.in1 (eqBool its.toArray[i] its2.toArray[i]) (fun r s' => r = (match ds1[i]?, es1[i]? with | some d, some e => eqD d e | _, _ => false) ∧ LoopS X pins σ H s') X.xe s1 := fun i k1 k2 s1 j => by
        obtain ⟨H1, I1, e1⟩ := j
        have k1' : i < its.length := by simpa using k1
        have k2' : i < its2.length := by simpa using k2
        obtain ⟨p, hp, rp⟩ := r.get (List.getElem?_eq_getElem (show i < xs1.length by omega))
        obtain ⟨q, hq, rq⟩ := r2.get (List.getElem?_eq_getElem (show i < ys1.length by omega))
        rw [List.getElem?_eq_getElem k1'] at hp
        rw [List.getElem?_eq_getElem k2'] at hq
        have ep : its.toArray[i] = p := by simpa using Option.some.inj hp
        have eq : its2.toArray[i] = q := by simpa using Option.some.inj hq
        obtain ⟨d', hd', ix⟩ := i1.at (List.getElem?_eq_getElem (show i < xs1.length by omega))
        obtain ⟨e', he', iy⟩ := i2.at (List.getElem?_eq_getElem (show i < ys1.length by omega))
        have md := List.mem_of_getElem? hd'
        have me := List.mem_of_getElem? he'
        have s1' := szL_mem md
        have s2' := szL_mem me
        rw [ep, eq, hd', he']
        refine wpAny_mono (eqW O o N (A := X.A.in1) sb0.in1 (Nat.le_trans (depL_mem md) hdep) I1 rp rq ⟨ix.same e1, iy.same e1, wrdL_mem wd md, wrdL_mem we me, by omega, by omega⟩) (fun r s2 q2 => ?_) fun _ _ z => z
        obtain ⟨hr, H2, I2, e2⟩ := q2
        exact ⟨hr, H2, I2, e1.trans e2⟩
      have hall : allP (fun i => match ds1[i]?, es1[i]? with | some d, some e => eqD d e | _, _ => false) its.toArray.size its2.toArray.size = eqL ds1 es1 := by
        rw [List.size_toArray, List.size_toArray, ← l1, ← l2, l3, l4]
        exact eqL_all _ fun i d' e' h1 h2 => by simp only [h1, h2]
      refine wpAny_richCompare_same_room (op := .NotEq) ⟨_, ho, rfl⟩ ⟨_, ho2, rfl⟩ F.slot_tuple_ne (GQ.call_here F.slot_tuple_ne ⟨_, ho, rfl⟩ F.entry_tuple_ne (F.args_tuple_ne_2 _ _) ?_) hu
      exact tup_neB (R := wants (fun z s' => z ≠ .notImplemented ∧ EP X pins σ Q z s') X.xe) pair (fun s' j => ⟨(fun z => nomatch z), fin _ (by rw [hall]; rfl) s' j⟩) ho ho2 here
end
end Hc

namespace Hr
open PySem PySem.Spec PyProof.Rows L2 PySem.W
section
variable {prog : Program} {w : World} {A : Around} {E : Value → Shared → Prop} {s : Shared}
theorem star_run {l : Addr} {items : Array Value} {x : Value} {xs : List Value} {Q : List Value → Shared → Prop} (hl : IsTup s.heap l items) (hh : A.handled = none) (he : items.toList = x :: xs) (hz : items.size ≤ 16384)
    (h : ∀ h₂ tk, Heap.ExtBut s.heap.objs.size s.heap h₂ → wpAny (model prog w) A (newList xs) (fun D s' => Q [x, D] s') E { s with heap := h₂, toks := tk }) : wpAny (model prog w) A (unpackItems (.ref l) 2 (some 1)) Q E s := by
  have hn : items.size = xs.length + 1 := by rw [← Array.length_toList, he]; rfl
  have hlt : l ≠ s.heap.objs.size := by obtain ⟨o, ho, _⟩ := hl; exact Nat.ne_of_lt (Heap.lt_size ho)
  unfold unpackItems
  refine wpAny_bind ?_
  unfold notIterableAtAll
  refine wpAny_bind (wpAny_specialOf hl.typeIs slot_tuple_iter.lookup ?_)
  refine wpAny_pure ?_
  simp only [Bool.false_eq_true, if_false]
  refine wpAny_bind (wpAny_holding (iter_tuple hl ?_))
  refine wpAny_bind (wpAny_holding (draw_tuple hlt 1 0 _ _ ⟨_, Heap.get?_push_size _ rfl, rfl, rfl⟩ (hl.push _) (by omega) fun h₁ hit₁ hs₁ => ?_))
  have hl₁ : IsTup h₁ l items := (hl.push _).extBut hs₁.extBut hlt
  rw [Nat.zero_add] at hit₁
  have hit₁' := hit₁
  obtain ⟨oi, hoi, _⟩ := hit₁'
  have hl₁' := hl₁
  obtain ⟨ol, hol, _⟩ := hl₁'
  rw [List.drop_zero, he]
  rw [if_neg (show ¬ (((x :: xs).take 1).length < 1) by simp)]
  refine wpAny_bind (wpAny_holding (kun_collect (s := { s with heap := h₁ }) (T := "tuple_iterator") (.inr (.inr (.inr rfl))) (Walks.tuple (A := A.in1) hh s.heap.objs.size l hlt items) (fun j u st => st.1.typeIs) (k := 1) (by omega) ⟨hit₁, hl₁⟩ (Heap.lt_size hoi) (Heap.lt_size hol) (fun h₂ tk hk => ?_) (by rw [sizeLine_eq]; omega)))
  rw [he]
  have e0 : ((x :: xs).drop 1) = xs := rfl
  rw [e0]
  show wpAny _ _ (if xs.length < 0 then _ else _) _ _ _
  rw [if_neg (by omega)]
  show wpAny _ _ (newList (xs.take (xs.length - 0)) >>= fun d => pure ([x] ++ [d] ++ xs.drop (xs.length - 0))) _ _ _
  rw [Nat.sub_zero, List.take_length, List.drop_length]
  have hE : Heap.ExtBut s.heap.objs.size s.heap h₂ := fun b o hb e => hk b o hb (hs₁.extBut b o hb (Heap.get?_push_of_some _ e))
  refine wpAny_bind (wpAny_mono (h h₂ tk hE) (fun D s' hq => wpAny_pure hq) fun _ _ z => z)
end
/-- a, *b = a tuple -/
def gStar (K : PySem.W.Frag) (t : TGs) : TG := fun v σ H Q => ∃ a x xs, v = .ref a ∧ SqT K H a (x :: xs) ∧ xs.length ≤ 1000 ∧ ∀ l, H l = none → t [x, .ref l] σ (upd H l (.lst xs)) Q
theorem pg_star {X : Cx} {e1 e2 : Expr} {p pos : Pos} {k : Nat} {t : TGs} (hc : X.calm = true) (h : PGs X [e1, e2] t)
    (hm : (assignEach [e1, .Starred e2 p] X.env).map (·.2) = (assignEach [e1, e2] X.env).map (·.2) := by rfl) (hl : (assignEach [e1, .Starred e2 p] X.env).length = 2 := by rfl) (hst : (assignEach [e1, .Starred e2 p] X.env).findIdx? (·.1) = some 1 := by rfl) : PG X (.Tuple [e1, .Starred e2 p] k pos) (gStar X.K t) := by
  refine ⟨fun pins s σ H v u Q I r hw => ?_⟩
  obtain ⟨a, x, xs, e1, hq, hz, hw⟩ := hw
  subst e1
  cases r
  obtain ⟨its, rv, ht, hzz⟩ := I.tuple hq
  obtain ⟨u, us, rfl, ru, rus⟩ : ∃ u us, its = u :: us ∧ RelV x u ∧ Vals xs us := by
    cases rv with
    | cons h1 h2 => exact ⟨_, _, rfl, h1, h2⟩
  rw [assign_Tuple]
  refine wpAny_bind (wpAny_standAt ?_)
  unfold unpack
  rw [hl, hst, hm]
  refine wpAny_bind (wpAny_holding (star_run (x := u) (xs := us) ht (I.ok.hd hc) rfl (by rw [List.size_toArray, List.length_cons, ← rus.length]; omega) fun h' tk hx => ?_))
  have I1 : Inv X pins σ H { s with heap := h', toks := tk } := I.kept (t' := tk) fun b o e => hx b o (Nat.ne_of_lt (Heap.lt_size e)) e
  refine wpAny_newList ?_ (by rw [← rus.length, sizeLine_eq]; omega)
  have hf : H h'.objs.size = none := I1.hok.fresh (Nat.le_refl _)
  have I2 : Inv X pins σ (upd H h'.objs.size (.lst xs)) _ := I1.laid (t' := tk) (fun b u e => Heap.get?_push_of_some _ e) (Nat.le_refl _) ⟨by rw [sizeLine_eq]; omega, us, 0, rus, Heap.get?_push_size _ rfl⟩
  exact h.run pins _ σ _ [x, .ref h'.objs.size] _ Q I2 (.cons ru (.cons (show RelV (.ref h'.objs.size) (.ref h'.objs.size) from rfl) .nil)) (hw _ hf)
end Hr

namespace Hc
open PySem PySem.Spec PyProof.Rows L2 Hr
section
variable {X : Cx}
/-- xs[i] of a list, by values, for xs[i] op= e -/
def rGetL (K : PySem.W.Frag) : V → V → Hp → VK → Prop := fun x y H Q => ∃ p xs j v, x = .ref p ∧ y = .int ((j : Nat) : Int) ∧ SqL K H p xs ∧ xs[j]? = some v ∧ Q v H
theorem pget_list : PGet X (rGetL X.K) := by
  intro pins s σ H o i ov iv Q I ro ri h
  obtain ⟨p, xs, j, v, rfl, rfl, hq, he, q⟩ := h
  cases ro
  obtain ⟨t, rfl⟩ := ri
  obtain ⟨its, r, pl, hz⟩ := I.list hq
  obtain ⟨w, ew, rw'⟩ := r.get he
  have hj := (List.getElem?_eq_some_iff.mp he).1
  have hn := line63
  exact wpAny_getItem_list pl.isList (by omega) (by omega) (by simpa using ew) ⟨v, H, I, rw', q⟩

end
/-- the tape at p: the script's ints at s, a place in them, what is left of a number, a number -/
def TapeIs (H : Hp) (p s : Addr) (ns : List Int) (pos : Nat) (rest mix : Int) : Prop :=
  H p = some (.lst [.ref s, .int (pos : Int), .int rest, .int mix]) ∧ H s = some (.lst (ns.map V.int)) ∧ p ≠ s ∧ pos ≤ ns.length
def Tape (H : Hp) (p s : Addr) : Prop := ∃ ns pos rest mix, TapeIs H p s ns pos rest mix
theorem Tape.s {H : Hp} {p s : Addr} (t : Tape H p s) : ∃ ns : List Int, H s = some (.lst (ns.map V.int)) := by
  obtain ⟨ns, pos, rest, mix, _, h2, _⟩ := t
  exact ⟨ns, h2⟩
theorem Tape.put {H : Hp} {p s l : Addr} {o : HO} (t : Tape H p s) (h1 : l ≠ p) (h2 : l ≠ s) : Tape (L2.upd H l o) p s := by
  obtain ⟨ns, pos, rest, mix, a1, a2, a3, a4⟩ := t
  exact ⟨ns, pos, rest, mix, by rw [upd_ne h1.symm]; exact a1, by rw [upd_ne h2.symm]; exact a2, a3, a4⟩
/-- all but p is as it was -/
def Off (p : Addr) (H H' : Hp) : Prop := ∀ b o, H b = some o → b ≠ p → H' b = some o
theorem Off.refl (p : Addr) (H : Hp) : Off p H H := fun _ _ h _ => h
theorem Off.trans {p : Addr} {H H1 H2 : Hp} (a : Off p H H1) (b : Off p H1 H2) : Off p H H2 := fun c o h n => b c o (a c o h n) n
theorem Off.upd {p : Addr} {H H1 : Hp} {o : HO} (a : Off p H H1) : Off p H (upd H1 p o) := fun c x h n => by rw [upd_ne n]; exact a c x h n
theorem Off.new {p q : Addr} {H : Hp} {o : HO} (h : H q = none) : Off p H (L2.upd H q o) := fun c x e n => by rw [upd_ne (ne_of_none e h)]; exact e
theorem Same.off {p : Addr} {H H1 : Hp} (h : Same H H1) : Off p H H1 := fun c x e _ => h c x e
theorem Tape.same {H H1 : Hp} {p s : Addr} (t : Tape H p s) (h : Same H H1) : Tape H1 p s := by
  obtain ⟨ns, pos, rest, mix, h1, h2, h3, h4⟩ := t
  exact ⟨ns, pos, rest, mix, h _ _ h1, h _ _ h2, h3, h4⟩
theorem Tape.upd {H : Hp} {p s : Addr} {ns : List Int} {pos pos' : Nat} {rest mix rest' mix' : Int} (t : TapeIs H p s ns pos rest mix) (hp : pos' ≤ ns.length) : TapeIs (L2.upd H p (.lst [.ref s, .int (pos' : Int), .int rest', .int mix'])) p s ns pos' rest' mix' := by
  obtain ⟨h1, h2, h3, h4⟩ := t
  exact ⟨upd_same, by rw [upd_ne h3.symm]; exact h2, h3, hp⟩
theorem Tape.ne {H : Hp} {p s q : Addr} (t : Tape H p s) (h : H q = none) : q ≠ p := fun z => by
  obtain ⟨ns, pos, rest, mix, h1, _⟩ := t
  rw [z, h1] at h; cases h
def spNext : Sp := fun vs H Q _ => ∃ p s m, vs = [.ref p, .int m] ∧ Tape H p s ∧ 0 < m ∧ m < 2 ^ 60 ∧ ∀ H' r, Tape H' p s → Off p H H' → 0 ≤ r → r < m → Q (.int r) H'
section
variable {P : Program} {w : World} {K : PySem.W.Frag} {mg : Str → Option Value} {base : Heap} {f : Addr} {fd : FuncData} {C : Addr}
abbrev s__law_next : Stmt := top 44
theorem sc__law_next : FnScope ["tape", "many", "rest", "cell"] ["tape", "many"] (C8.fnScope s__law_next) := C8.fnScope_by (by decide +kernel)
theorem ok__law_next (F : C8.Def K mg "_law_next" s__law_next f fd) (b : Binds K fd ["tape", "many"] []) (T : Txt K mg w C) : C8.Cal P w K mg base 1 "_law_next" spNext [] := by
  refine C8.cal0 F b .nil sc__law_next (fun vs H Q E h => ?_) (fun cdv A outer s H vs Q E hr h => ?_)
  · obtain ⟨p, sa, m, rfl, _⟩ := h; rfl
  obtain ⟨p, sa, m, rfl, ⟨ns, pos, rest, mix, t⟩, hm, hm2, q⟩ := h
  refine ⟨_, (pss_cons (ps_set (i := 2) sc__law_next.nd rfl (Or.inl rfl) (pe_ix ix_list (pv 0) pe_int (fun _ _ => rfl)))
      (pss_cons (ps_if (pt_cmpR op_gt (pv 2) pe_int (nomark _)) (pss_cons (ps_asg (pe_op op_fdivW (pv 2) (pv 1)) (pg_sub (pv 0) pe_int set_list))
      (pss_one (ps_ret (pe_op op_mod (pe_callTy call_int1 rfl T.z_int bt_int (pa_cons (pv 2) pa_nil)) (pv 1))))) pss_nil)
      (pss_cons (ps_set (i := 3) sc__law_next.nd rfl (Or.inl rfl) pe_int)
      (C8.pss_cut (ps_if (pt_cmpR op_lt (pe_ix ix_list (pv 0) pe_int (fun _ _ => rfl)) (pe_callB call_lenS rfl T.z_len bt_len (pa_cons (pe_ix ix_list (pv 0) pe_int (fun _ _ => rfl)) pa_nil)) (nomark _)) (pss_cons (ps_set (i := 3) sc__law_next.nd rfl (Or.inl rfl) (pe_callB call_abs rfl T.z_abs bt_abs (pa_cons (pe_ix ix_list (pe_ix ix_list (pv 0) pe_int (fun _ _ => rfl)) (pe_ix ix_list (pv 0) pe_int (fun _ _ => rfl)) (fun _ _ => rfl)) pa_nil)))
      (pss_one (ps_augS (pv 0) pe_int pget_list pe_int ip_add set_list))) pss_nil)
      (pss_cons (ps_if (pt_cmpR op_ge (pv 3) (pe_op op_pow pe_int pe_int) (nomark _)) (pss_cons (ps_asg (pe_op op_fdivW (pv 3) (pv 1)) (pg_sub (pv 0) pe_int set_list))
      (pss_one (ps_ret (pe_op op_mod (pe_callTy call_int1 rfl T.z_int bt_int (pa_cons (pv 3) pa_nil)) (pv 1))))) pss_nil)
      (pss_cons (ps_asg (pe_op op_mod (pe_callTy call_int1 rfl T.z_int bt_int (pa_cons (pe_op op_add (pe_op op_add (pe_op op_mul (pe_ix ix_list (pv 0) pe_int (fun _ _ => rfl)) pe_int) (pe_op op_mul (pv 3) pe_int)) pe_int) pa_nil)) pe_int) (pg_sub (pv 0) pe_int set_list))
      (pss_one (ps_ret (pe_op op_mod (pe_callTy call_int1 rfl T.z_int bt_int (pa_cons (pe_op op_fdiv (pe_op op_mod (pe_op op_mul (pe_ix ix_list (pv 0) pe_int (fun _ _ => rfl)) pe_int) pe_int) pe_int) pa_nil)) (pv 1)))))))))), ?_⟩
  obtain ⟨hp, hs, hne, hpos⟩ := id t
  refine ⟨_, rfl, p, _, 2, _, rfl, rfl, SqL.of hp, atI_nat (j := 2) rfl, ?_⟩
  refine ⟨_, rfl, _, _, rfl, rfl, _, rfl, ite2 (fun c => ?_) (fun c => ?_)⟩
  · refine ⟨_, rfl, _, rfl, _, _, rfl, rfl, wide_div hm (b := 60) (by have := hm2; omega) (by decide) (by decide), _, rfl, p, _, 2, 2, rfl, rfl, hp, rfl, ?_⟩
    refine ⟨_, rfl, .inl ⟨_, rfl, _, rfl, _, _, rfl, rfl, hm, ?_⟩⟩
    exact q _ _ ⟨ns, pos, _, mix, Tape.upd t hpos⟩ (Off.upd (Off.refl p H)) (Int.emod_nonneg _ (by omega)) (Int.emod_lt_of_pos _ hm)
  refine ⟨fun σ' H' => ∃ cell pos', σ' = [some (.ref p), some (.int m), some (.int rest), some (.int cell)] ∧ TapeIs H' p sa ns pos' rest mix ∧ Off p H H', ?_, ?_⟩
  · refine ⟨_, rfl, p, _, 1, _, rfl, rfl, SqL.of hp, atI_nat (j := 1) rfl, _, rfl, p, _, 0, _, rfl, rfl, SqL.of hp, atI_nat (j := 0) rfl, sa, _, rfl, .inl (SqL.of hs), _, _, rfl, rfl, _, rfl, ite2 (fun c1 => ?_) (fun c1 => ?_)⟩
    · have c2 : (pos : Int) < ((ns.map V.int).length : Int) := of_decide_eq_true c1
      rw [List.length_map] at c2
      have c3 : pos < ns.length := by omega
      have hz : (ns.map V.int)[pos]? = some (.int ns[pos]) := by rw [List.getElem?_map, List.getElem?_eq_getElem c3]; rfl
      refine ⟨_, rfl, p, _, 0, _, rfl, rfl, SqL.of hp, atI_nat (j := 0) rfl, _, rfl, p, _, 1, _, rfl, rfl, SqL.of hp, atI_nat (j := 1) rfl, sa, _, _, _, rfl, rfl, SqL.of hs, atI_nat hz, _, rfl, ?_⟩
      refine ⟨_, rfl, p, _, 1, _, rfl, rfl, SqL.of hp, rfl, _, _, rfl, rfl, p, _, 1, 1, rfl, rfl, hp, rfl, ?_⟩
      exact ⟨_, pos + 1, rfl, Tape.upd (pos' := pos + 1) (rest' := rest) (mix' := mix) t c3, Off.upd (Off.refl p H)⟩
    · exact ⟨0, pos, rfl, t, Off.refl p H⟩
  rintro σ' H' ⟨cell, pos', rfl, t', off⟩
  obtain ⟨hp', hs', hne', hpos'⟩ := id t'
  refine ⟨_, rfl, _, _, rfl, rfl, ⟨by decide, by decide, by decide⟩, _, _, rfl, rfl, _, rfl, ite2 (fun c => ?_) (fun c => ?_)⟩
  · refine ⟨_, rfl, _, rfl, _, _, rfl, rfl, wide_div hm (b := 60) (by have := hm2; omega) (by decide) (by decide), _, rfl, p, _, 2, 2, rfl, rfl, hp', rfl, ?_⟩
    refine ⟨_, rfl, .inl ⟨_, rfl, _, rfl, _, _, rfl, rfl, hm, ?_⟩⟩
    exact q _ _ ⟨ns, pos', _, mix, Tape.upd t' hpos'⟩ (Off.upd off) (Int.emod_nonneg _ (by omega)) (Int.emod_lt_of_pos _ hm)
  · refine ⟨_, rfl, p, _, 3, _, rfl, rfl, SqL.of hp', atI_nat (j := 3) rfl, _, _, rfl, rfl, .inr ⟨by decide, by decide⟩, _, rfl, _, _, rfl, rfl, .inr ⟨by decide, by decide⟩, _, _, rfl, rfl, _, _, rfl, rfl, .inl ⟨_, rfl, _, _, rfl, rfl, (by show (0 : Int) < 2147483647; decide), _, rfl, p, _, 3, 3, rfl, rfl, hp', rfl, ?_⟩⟩
    refine ⟨_, rfl, p, _, 3, _, rfl, rfl, SqL.of upd_same, atI_nat (j := 3) rfl, _, _, rfl, rfl, .inr ⟨by decide, by decide⟩, _, _, rfl, rfl, (by show (0 : Int) < 2147483647; decide), _, _, rfl, rfl, ⟨by decide, by decide⟩, .inl ⟨_, rfl, _, rfl, _, _, rfl, rfl, hm, ?_⟩⟩
    exact q _ _ ⟨ns, pos', rest, _, Tape.upd t' hpos'⟩ (Off.upd off) (Int.emod_nonneg _ (by omega)) (Int.emod_lt_of_pos _ hm)
end
end Hc

namespace Hc
open PySem PySem.Spec PyProof.Rows L2 Hr
section
variable {P : Program} {w : World} {K : PySem.W.Frag} {mg : Str → Option Value} {base : Heap} {f : Addr} {fd : FuncData} {C : Addr}
abbrev s__law_rank : Stmt := top 46
theorem sc__law_rank : FnScope ["word", "part"] ["word"] (C8.fnScope s__law_rank) := C8.fnScope_by (by decide +kernel)
mutual
/-- no atoms of the kinds seal and page -/
def plk : D → Bool
  | .tup ds => plkL ds
  | .atom k ds => decide (¬ (k = "seal" ∨ k = "page")) && plkL ds
  | _ => true
def plkL : List D → Bool
  | [] => true
  | d :: ds => plk d && plkL ds
end
theorem plkL_mem : ∀ {ds : List D} {d : D}, plkL ds = true → d ∈ ds → plk d = true
  | x :: ds, d, h, m => by
    simp only [plkL, Bool.and_eq_true] at h
    rcases List.mem_cons.mp m with rfl | m
    · exact h.1
    · exact plkL_mem h.2 m
theorem kitTu (T : Txt K mg w C) (d : D) : PySem.W.kitOne K (kyU C d) (.type "tuple") = some (isTu d) := by rw [T.kit d "tuple" (by simp)]; cases d <;> simp [isTu]
mutual
def full : D → Nat
  | .tup ds => fullL ds + 1
  | .atom _ ds => fullL ds + 2
  | _ => 0
def fullL : List D → Nat
  | [] => 0
  | d :: ds => max (full d) (fullL ds)
end
theorem fullL_mem : ∀ {ds : List D} {d : D}, d ∈ ds → full d ≤ fullL ds
  | x :: ds, d, h => by
    simp only [fullL]
    rcases List.mem_cons.mp h with rfl | h
    · omega
    · have := fullL_mem h; omega
theorem rankL_ge : ∀ {ds : List D} {d : D}, d ∈ ds → rank d ≤ rankL ds
  | x :: ds, d, h => by
    simp only [rankL]
    rcases List.mem_cons.mp h with rfl | h
    · omega
    · have := rankL_ge h; omega
theorem rankL_in : ∀ {ds : List D}, rankL ds = 0 ∨ ∃ d ∈ ds, rank d = rankL ds
  | [] => .inl rfl
  | d :: ds => by
    simp only [rankL]
    rcases rankL_in (ds := ds) with h | ⟨e, he, h⟩
    · by_cases c : rank d = 0
      · left; omega
      · right; exact ⟨d, List.mem_cons_self, by omega⟩
    · by_cases c : rank d ≤ rankL ds
      · right; exact ⟨e, List.mem_cons_of_mem _ he, by omega⟩
      · right; exact ⟨d, List.mem_cons_self, by omega⟩
def spLR (C : Addr) (n : Nat) : Sp := fun vs H Q _ => ∃ x d, vs = [x] ∧ Is C H x d ∧ full d < n ∧ sz d ≤ 1000000 ∧ plk d = true ∧ ∀ H', Same H H' → Q (.int ((rank d : Nat) : Int)) H'
theorem ok__law_rank (F : C8.Def K mg "_law_rank" s__law_rank f fd) (b : Binds K fd ["word"] []) (T : Txt K mg w C) : ∀ n, C8.Cal P w K mg base (n + 1) "_law_rank" (spLR C n) [] := by
  intro n
  induction n with
  | zero =>
    refine C8.cal0 F b .nil sc__law_rank (fun vs H Q E h => ?_) (fun cdv A outer s H vs Q E hr h => ?_)
    · obtain ⟨x, d, _, _, h, _⟩ := h; omega
    · obtain ⟨x, d, _, _, h, _⟩ := h; omega
  | succ n ih =>
    have c__law_rank := ih
    refine C8.cal0 F b .nil sc__law_rank (fun vs H Q E h => ?_) (fun cdv A outer s H vs Q E hr h => ?_)
    · obtain ⟨x, d, rfl, _⟩ := h; rfl
    obtain ⟨x, d, rfl, hx, hf, hz, hpk, q⟩ := h
    refine ⟨_, (pss_cons (ps_if (pt_val (pe_callB (call_isiA T.cl) rfl T.z_isinstance bt_isinstance (pa_cons (pv 0) (pa_cons (pe_glob (v := .ref C) rfl T.g_Atom rfl) pa_nil)))) (pss_one (ps_ret (pe_op op_add pe_int (C8.pe_c c__law_rank hr (Nat.le_refl _) rfl (pa_cons (pe_fld (pv 0) rfl) pa_nil))))) pss_nil)
      (pss_cons (ps_if (pt_val (pe_callB (call_isiA T.cl) rfl T.z_isinstance bt_isinstance (pa_cons (pv 0) (pa_cons (pe_bltn (v := .ty "tuple") rfl T.z_tuple bt_tuple rfl) pa_nil)))) (pss_one (ps_ret (pe_callB (cr_max rfl) rfl T.z_max bt_max (pa_cons (pe_op op_cat (pe_lst (pa_cons pe_int pa_nil)) (pe_lc (own := [("part", 1)]) (g := gName 1) rfl sc__law_rank.nd (pi_tup (pv 0)) (blkOk_by (own := [("part", 1)]) (N := ["word", "part"]) (sc := C8.fnScope s__law_rank) (by decide +kernel)) (fun _ _ _ _ _ => (pg_name (i := 1) sc__law_rank.nd rfl (Or.inl rfl))) (fun _ _ _ _ _ => pts_nil) (fun _ _ _ _ _ => (C8.pe_c c__law_rank hr (Nat.le_refl _) rfl (pa_cons (pv 1) pa_nil))))) pa_nil)))) pss_nil)
      (pss_one (ps_ret pe_int)))), ?_⟩
    refine ⟨_, rfl, x, _, _, _, _, rfl, hx, .own C, kitA T d, _, rfl, ?_⟩
    cases hA : isAt d with
    | true =>
      obtain ⟨k, ds, rfl⟩ : ∃ k ds, d = .atom k ds := by cases d <;> first | exact ⟨_, _, rfl⟩ | (simp [isAt] at hA; done)
      have hx0 := hx
      cases hx with
      | @atom a dx t _ xs _ u1 v1 i1 =>
      simp only [plk, Bool.and_eq_true, decide_eq_true_eq] at hpk
      refine iteT ⟨_, rfl, a, C, dx, _, _, rfl, u1, T.cl.cl, T.cl.nT, rfl, .ref t, .tup ds, rfl, Is.tup v1 i1, by simp only [full] at hf ⊢; omega, by simp only [sz] at hz ⊢; omega, by simp only [plk]; exact hpk.2, fun H2 s2 => ⟨_, _, rfl, rfl, ?_⟩⟩
      have q2 := q H2 s2
      have e : ((rank (.atom k ds) : Nat) : Int) = 1 + ((rank (.tup ds) : Nat) : Int) := by
        have : rank (.atom k ds) = rankL ds + 1 := by simp only [rank]; rw [if_neg hpk.1]
        rw [this]; simp only [rank]; omega
      rw [e] at q2
      exact q2
    | false =>
      refine iteF ⟨_, rfl, x, _, _, _, _, rfl, hx, .ty _, kitTu T d, _, rfl, ?_⟩
      cases hT : isTu d with
      | false =>
        have e : rank d = 0 := by cases d <;> first | rfl | (simp [isAt] at hA; done) | (simp [isTu] at hT; done)
        have q0 := q H (Same.refl H)
        rw [e] at q0
        exact iteF q0
      | true =>
        obtain ⟨ds, rfl⟩ : ∃ ds, d = .tup ds := by cases d <;> first | exact ⟨_, rfl⟩ | (simp [isTu] at hT; done)
        cases hx with
        | @tup a xs _ ha ia =>
        have hlen := ia.len
        have hdl := len_szL ds
        simp only [sz] at hz
        simp only [full] at hf
        simp only [plk] at hpk
        refine iteT ⟨(by show 1 ≤ sizeLine; decide), fun z0 hz0 => ?_⟩
        have s0 := same_new (o := .lst [.int 0]) hz0
        refine ⟨_, rfl, a, rfl, ⟨xs, SqT.of (s0 _ _ ha)⟩, fun Dl hDl => ?_⟩
        have hz1 : (upd H z0 (.lst [.int 0])) z0 = some (.lst [.int 0]) := upd_same
        have ia0 := ia.same s0
        have ha0 := s0 _ _ ha
        generalize upd H z0 (.lst [.int 0]) = H0 at s0 hz1 ia0 ha0 hDl ⊢
        refine lc_it (walk_tup (xs := xs)) (fun i H' => Same H0 H' ∧ H' Dl = some (.lst ((ds.take i).map fun e => V.int ((rank e : Nat) : Int)))) ⟨same_new hDl, upd_same⟩ (fun i H' _ h => SqT.of (h.1 _ _ ha0)) ?_ ?_
        · rintro i y H1 H2 hi' ⟨s1, hl'⟩ ⟨rfl, hy⟩
          obtain ⟨e, he, hye⟩ := ia0.at hy
          have me := List.mem_of_getElem? he
          have f1 := fullL_mem me
          have f2 := szL_mem me
          refine ⟨rfl, yes ?_⟩
          refine ⟨_, rfl, y, e, rfl, hye.same s1, by omega, by omega, plkL_mem hpk me, fun H3 s3 => ⟨_, s3 _ _ hl', Nat.lt_of_lt_of_le (show _ < 1000001 by rw [List.length_map, List.length_take]; omega) (by decide), same_put (s1.trans s3) hDl, ?_⟩⟩
          rw [upd_same, List.take_add_one, he, List.map_append]; rfl
        · rintro H1 ⟨s1, hl'⟩
          rw [List.take_of_length_le (by omega)] at hl'
          refine ⟨z0, Dl, _, _, rfl, rfl, s1 _ _ hz1, hl', Nat.le_trans (show _ ≤ 1000001 by rw [List.length_map, List.length_singleton]; omega) (by decide), fun p hp => ?_⟩
          have s2 := same_new (o := .lst ([V.int 0] ++ ds.map fun e => V.int ((rank e : Nat) : Int))) hp
          refine ⟨p, 0 :: ds.map (fun e => ((rank e : Nat) : Int)), rfl, SqL.of (by rw [upd_same, List.map_cons, List.map_map]; rfl), by simp, fun m hm hall => ?_⟩
          have q2 := q _ ((s0.trans s1).trans s2)
          have em : m = ((rank (.tup ds) : Nat) : Int) := by
            simp only [rank]
            have h0 := hall 0 List.mem_cons_self
            rcases List.mem_cons.mp hm with rfl | hm
            · rcases rankL_in (ds := ds) with h | ⟨e, he, h⟩
              · rw [h]; rfl
              · have := hall _ (List.mem_cons_of_mem _ (List.mem_map.mpr ⟨e, he, rfl⟩))
                omega
            · obtain ⟨e, he, rfl⟩ := List.mem_map.mp hm
              have h1 := rankL_ge he
              rcases rankL_in (ds := ds) with h | ⟨e', he', h⟩
              · omega
              · have := hall _ (List.mem_cons_of_mem _ (List.mem_map.mpr ⟨e', he', rfl⟩))
                omega
          rw [em]
          exact q2
end
end Hc

set_option maxHeartbeats 8000000
namespace Hc
open PySem PySem.Spec PyProof.Rows L2 Hr
/-- the class Core at N -/
structure CoC (K : PySem.W.Frag) (mg : Str → Option Value) (N : Addr) : Prop where
  cl : Cls K N
  g_Core : mg "Core" = some (.ref N)
  n1 : NoAttr K N "program"
  n2 : NoAttr K N "place"
  n3 : NoAttr K N "registers"
  n4 : NoAttr K N "_stage"
  n5 : NoAttr K N "_table"
def coF (pr : Addr) (pl : Int) (rg : Addr) : List (Str × V) := [("program", .ref pr), ("place", .int pl), ("registers", .ref rg), ("_stage", .str "touch"), ("_table", .non)]
def Co (N : Addr) (H : Hp) (p pr : Addr) (pl : Int) (rg : Addr) : Prop := ∃ dx, H p = some (.ins N dx (coF pr pl rg))
def Prg (H : Hp) (pr : Addr) : Prop := ∃ i0 i1 i2, H pr = some (.tup [.ref i0, .ref i1, .ref i2]) ∧ H i0 = some (.tup [.str "token", .int 1, .int 1]) ∧ H i1 = some (.tup [.str "token", .int 2, .int 1]) ∧ H i2 = some (.tup [.str "jump", .int 0])
/-- all but p stays -/
def But1 (p : Addr) (H H' : Hp) : Prop := ∀ b o, H b = some o → b ≠ p → H' b = some o
theorem co1 {pr rg : Addr} {pl : Int} : putF "_table" .non (putF "_stage" (.str "touch") (putF "registers" (.ref rg) (putF "place" (.int pl) (putF "program" (.ref pr) [])))) = coF pr pl rg := by
  have a1 : ¬ (("program" : Str) = "place") := by decide +kernel
  have a2 : ¬ (("program" : Str) = "registers") := by decide +kernel
  have a3 : ¬ (("program" : Str) = "_stage") := by decide +kernel
  have a4 : ¬ (("program" : Str) = "_table") := by decide +kernel
  have a5 : ¬ (("place" : Str) = "registers") := by decide +kernel
  have a6 : ¬ (("place" : Str) = "_stage") := by decide +kernel
  have a7 : ¬ (("place" : Str) = "_table") := by decide +kernel
  have a8 : ¬ (("registers" : Str) = "_stage") := by decide +kernel
  have a9 : ¬ (("registers" : Str) = "_table") := by decide +kernel
  have a10 : ¬ (("_stage" : Str) = "_table") := by decide +kernel
  simp [putF, coF, a1, a2, a3, a4, a5, a6, a7, a8, a9, a10]
theorem co2 {pr rg : Addr} {pl h : Int} : putF "place" (.int h) (coF pr pl rg) = coF pr h rg := by
  have a1 : ¬ (("program" : Str) = "place") := by decide +kernel
  have a5 : ¬ (("registers" : Str) = "place") := by decide +kernel
  have a6 : ¬ (("_stage" : Str) = "place") := by decide +kernel
  have a7 : ¬ (("_table" : Str) = "place") := by decide +kernel
  simp [putF, coF, a1, a5, a6, a7]
theorem co3 {pr rg m : Addr} {pl : Int} : putF "registers" (.ref m) (coF pr pl rg) = coF pr pl m := by
  have a1 : ¬ (("program" : Str) = "registers") := by decide +kernel
  have a5 : ¬ (("place" : Str) = "registers") := by decide +kernel
  have a6 : ¬ (("_stage" : Str) = "registers") := by decide +kernel
  have a7 : ¬ (("_table" : Str) = "registers") := by decide +kernel
  simp [putF, coF, a1, a5, a6, a7]
theorem ixN_of {n k : Nat} (h : k < n) : ixN n (k : Int) = some k := by
  unfold ixN
  rw [if_pos (by omega), if_pos (by omega)]; simp
def spCI (N : Addr) : Sp := fun vs H Q _ => ∃ p dx pr pl rg, vs = [.ref p, .ref pr, .int pl, .ref rg] ∧ H p = some (.ins N dx []) ∧ ∀ H', Co N H' p pr pl rg → But1 p H H' → Q .non H'
def spWh (N : Addr) : Sp := fun vs H Q _ => ∃ p pr rg, vs = [.ref p] ∧ Co N H p pr 2 rg ∧ Prg H pr ∧ ∀ H', Same H H' → Q .non H'
def spRq (N : Addr) : Sp := fun vs H Q _ => ∃ p pr pl rg, vs = [.ref p, .int 11, .int 4] ∧ Co N H p pr pl rg ∧ Prg H pr ∧ 0 ≤ pl ∧ pl ≤ 2 ∧
  (pl < 2 → ∀ H' a b, H' a = some (.tup [.str "monitor", .ref b]) → H' b = some (.tup [.str "read", .int 4, .int 2]) → Same H H' → Q (.ref a) H') ∧ (pl = 2 → ∀ H', Same H H' → Q .non H')
def spJp (N : Addr) : Sp := fun vs H Q _ => ∃ p pr pl rg i, vs = [.ref p, .ref i] ∧ Co N H p pr pl rg ∧ H i = some (.tup [.str "jump", .int 0]) ∧ ∀ H', Co N H' p pr 0 rg → But1 p H H' → Q .non H'
def spAn (N : Addr) : Sp := fun vs H Q _ => ∃ p pr pl rg j x ys, vs = [.ref p, .int j, x] ∧ Co N H p pr pl rg ∧ H rg = some (.tup ys) ∧ ys.length = 4 ∧ 0 ≤ j ∧ j < 4 ∧ ∀ H' rg', Co N H' p pr pl rg' → H' rg' = some (.tup (ys.set j.toNat x)) → But1 p H H' → Q .non H'
def spFi (N : Addr) : Sp := fun vs H Q _ => ∃ p pr pl rg j x ys, vs = [.ref p, .int j, x] ∧ Co N H p pr pl rg ∧ H rg = some (.tup ys) ∧ ys.length = 4 ∧ 0 ≤ j ∧ j < 4 ∧ 0 ≤ pl ∧ pl ≤ 100 ∧ ∀ H' rg', Co N H' p pr (pl + 1) rg' → H' rg' = some (.tup (ys.set j.toNat x)) → But1 p H H' → Q .non H'
section
variable {P : Program} {w : World} {K : PySem.W.Frag} {mg : Str → Option Value} {base : Heap} {f : Addr} {fd : FuncData} {C N : Addr}
abbrev s_Core___init__ : Stmt := L2.inClass (top 42) 0
theorem sc_Core___init__ : FnScope ["self", "program", "place", "registers"] ["self", "program", "place", "registers"] (C8.fnScope s_Core___init__) := C8.fnScope_by (by decide +kernel)
theorem ok_cinit {fI : Addr} {fdI : FuncData} (M : Mk K N fI) (G : CoC K mg N) (T : Txt K mg w C) (F : C8.Fun K "__init__" "Core.__init__" s_Core___init__ fI fdI) (b : Binds K fdI ["self", "program", "place", "registers"] []) : C8.Mak P w K mg base 1 "Core" N (spCI N) [] := by
  refine C8.mak0 M G.g_Core F b .nil sc_Core___init__ (fun vs H Q E h => ?_) (fun cdv A outer s H vs Q E hr h => ?_)
  · obtain ⟨p, dx, pr, pl, rg, rfl, _⟩ := h; rfl
  obtain ⟨p, dx, pr, pl, rg, rfl, hp, q⟩ := h
  refine ⟨_, (pss_cons (ps_fld (pv 0) (pv 1) rfl)
      (pss_cons (ps_fld (pv 0) (pv 2) rfl)
      (pss_cons (ps_fld (pv 0) (pv 3) rfl)
      (pss_cons (ps_fld (pv 0) pe_str rfl)
      (pss_one (ps_fld (pv 0) pe_non rfl)))))), ?_⟩
  refine ⟨_, rfl, _, rfl, p, N, dx, [], rfl, hp, G.cl, G.n1, (by show 0 < 1000; decide), ?_⟩
  refine ⟨_, rfl, _, rfl, p, N, dx, _, rfl, upd_same, G.cl, G.n2, (by show 1 < 1000; decide), ?_⟩
  refine ⟨_, rfl, _, rfl, p, N, dx, _, rfl, upd_same, G.cl, G.n3, (by show 2 < 1000; decide), ?_⟩
  refine ⟨_, rfl, p, N, dx, _, rfl, upd_same, G.cl, G.n4, (by show 3 < 1000; decide), ?_⟩
  refine ⟨_, rfl, p, N, dx, _, rfl, upd_same, G.cl, G.n5, (by show 4 < 1000; decide), ?_⟩
  refine q _ ⟨dx, Eq.trans upd_same (congrArg (fun z => some (HO.ins N dx z)) co1)⟩ fun b o e n => ?_
  rw [upd_ne n, upd_ne n, upd_ne n, upd_ne n, upd_ne n]
  exact e
abbrev s_Core_answer : Stmt := L2.inClass (top 42) 4
theorem sc_Core_answer : FnScope ["self", "register", "word", "registers"] ["self", "register", "word"] (C8.fnScope s_Core_answer) := C8.fnScope_by (by decide +kernel)
theorem ok_answer {fI : Addr} {fdI : FuncData} (me : Meth K N "answer" fI) (G : CoC K mg N) (T : Txt K mg w C) (F : C8.Fun K "answer" "Core.answer" s_Core_answer fI fdI) (b : Binds K fdI ["self", "register", "word"] []) : C8.Met P w K mg base 1 N "answer" (spAn N) [] := by
  refine C8.met0 G.cl me F b sc_Core_answer (fun vs H Q E h => ?_) (fun cdv A outer s H vs Q E hr h => ?_)
  · obtain ⟨p, pr, pl, rg, j, x, ys, rfl, _⟩ := h; rfl
  obtain ⟨p, pr, pl, rg, j, x, ys, rfl, ⟨dx, hp⟩, hrg, hl, j0, j1, q⟩ := h
  refine ⟨_, (pss_cons (ps_set (i := 3) sc_Core_answer.nd rfl (Or.inl rfl) (pe_callTy call_list_of rfl T.z_list bt_list (pa_cons (pe_fld (pv 0) rfl) pa_nil)))
      (pss_cons (ps_asg (pv 2) (pg_sub (pv 3) (pv 1) set_list))
      (pss_one (ps_fld (pv 0) (pe_callTy call_tuple_of rfl T.z_tuple bt_tuple (pa_cons (pv 3) pa_nil)) rfl)))), ?_⟩
  obtain ⟨jn, rfl⟩ : ∃ jn : Nat, j = (jn : Int) := ⟨j.toNat, by omega⟩
  refine ⟨_, rfl, p, N, dx, _, _, rfl, hp, G.cl, G.n3, rfl, rg, ys, rfl, .inr (SqT.of hrg), fun l hl0 => ?_⟩
  have hlp : l ≠ p := fun z => by rw [z, hp] at hl0; cases hl0
  refine ⟨_, rfl, _, rfl, _, rfl, l, ys, (jn : Int), jn, rfl, rfl, upd_same, ixN_of (by omega), ?_⟩
  refine ⟨_, rfl, l, _, rfl, .inl ⟨SqL.of upd_same, fun t ht => ?_⟩⟩
  have htp : t ≠ p := fun z => by rw [z, upd_ne hlp.symm, upd_ne hlp.symm, hp] at ht; cases ht
  have htl : t ≠ l := fun z => by rw [z, upd_same] at ht; cases ht
  have ht0 : H t = none := by rwa [upd_ne htl, upd_ne htl] at ht
  refine ⟨_, rfl, p, N, dx, _, rfl, by rw [upd_ne htp.symm, upd_ne hlp.symm, upd_ne hlp.symm]; exact hp, G.cl, G.n3, (by show 5 < 1000; decide), ?_⟩
  rw [co3]
  refine q _ t ⟨dx, upd_same⟩ (by rw [upd_ne htp]; exact upd_same) fun b o e n => ?_
  rw [upd_ne n, upd_ne (ne_of_none e ht0), upd_ne (ne_of_none e hl0), upd_ne (ne_of_none e hl0)]
  exact e
abbrev s_Core__finish : Stmt := L2.inClass (top 42) 9
theorem sc_Core__finish : FnScope ["self", "r", "word"] ["self", "r", "word"] (C8.fnScope s_Core__finish) := C8.fnScope_by (by decide +kernel)
theorem ok_finish {fI : Addr} {fdI : FuncData} (me : Meth K N "_finish" fI) (G : CoC K mg N) (T : Txt K mg w C) (m_answer : C8.Met P w K mg base 1 N "answer" (spAn N) []) (F : C8.Fun K "_finish" "Core._finish" s_Core__finish fI fdI) (b : Binds K fdI ["self", "r", "word"] []) : C8.Met P w K mg base 2 N "_finish" (spFi N) [] := by
  refine C8.met0 G.cl me F b sc_Core__finish (fun vs H Q E h => ?_) (fun cdv A outer s H vs Q E hr h => ?_)
  · obtain ⟨p, pr, pl, rg, j, x, ys, rfl, _⟩ := h; rfl
  obtain ⟨p, pr, pl, rg, j, x, ys, rfl, ⟨dx, hp⟩, hrg, hl, j0, j1, p0, p1, q⟩ := h
  refine ⟨_, (pss_cons (ps_expr (C8.pe_mt m_answer hr (by first | decide | omega) (pv 0) (pa_cons (pv 1) (pa_cons (pv 2) pa_nil))))
      (pss_one (ps_fldaug (pv 0) pe_int in_add))), ?_⟩
  refine ⟨_, rfl, p, dx, _, rfl, hp, rfl, _, rfl, _, rfl, p, pr, pl, rg, j, x, ys, rfl, ⟨dx, hp⟩, hrg, hl, j0, j1, fun H1 rg1 ⟨dx1, hp1⟩ hr1 b1 => ?_⟩
  refine ⟨_, rfl, p, N, dx1, _, _, rfl, hp1, G.cl, G.n2, rfl, _, _, rfl, rfl, dx1, _, hp1, (by show 5 < 1000; decide), ?_⟩
  rw [co2]
  have hne : rg1 ≠ p := fun z => by rw [z, hp1] at hr1; cases hr1
  refine q _ rg1 ⟨dx1, upd_same⟩ (by rw [upd_ne hne]; exact hr1) fun b o e n => ?_
  rw [upd_ne n]
  exact b1 _ _ e n
abbrev s_Core__jump : Stmt := L2.inClass (top 42) 6
theorem sc_Core__jump : FnScope ["self", "instruction"] ["self", "instruction"] (C8.fnScope s_Core__jump) := C8.fnScope_by (by decide +kernel)
theorem ok_jump {fI : Addr} {fdI : FuncData} (me : Meth K N "_jump" fI) (G : CoC K mg N) (T : Txt K mg w C) (F : C8.Fun K "_jump" "Core._jump" s_Core__jump fI fdI) (b : Binds K fdI ["self", "instruction"] []) : C8.Met P w K mg base 1 N "_jump" (spJp N) [] := by
  refine C8.met0 G.cl me F b sc_Core__jump (fun vs H Q E h => ?_) (fun cdv A outer s H vs Q E hr h => ?_)
  · obtain ⟨p, pr, pl, rg, i, rfl, _⟩ := h; rfl
  obtain ⟨p, pr, pl, rg, i, rfl, ⟨dx, hp⟩, hi, q⟩ := h
  refine ⟨_, (pss_one (ps_if (PW.pt (pw_or (pt_cmpR op_eq (pe_ix ix_tup (pv 1) pe_int (fun _ _ => rfl)) pe_str (nomark _)) (pw_or1 (pt_cmpR op_eq (pe_ix ix_tup (pe_fld (pv 0) rfl) (pe_ix ix_tup (pv 1) pe_int (fun _ _ => rfl)) (fun _ _ => rfl)) pe_int (nomark _))))) (pss_one (ps_fld (pv 0) (pe_ix ix_tup (pv 1) (pe_un un_neg pe_int) (fun _ _ => rfl)) rfl)) (pss_one ps_never))), ?_⟩
  refine ⟨_, rfl, i, _, 0, _, rfl, rfl, SqT.of hi, atI_nat (j := 0) rfl, rfl, _, rfl, ifT rfl ?_⟩
  refine ⟨_, rfl, _, rfl, i, _, -1, _, rfl, rfl, SqT.of hi, rfl, _, rfl, p, N, dx, _, rfl, hp, G.cl, G.n2, (by show 5 < 1000; decide), ?_⟩
  rw [co2]
  exact q _ ⟨dx, upd_same⟩ fun b o e n => by rw [upd_ne n]; exact e
abbrev s_Core__where : Stmt := L2.inClass (top 42) 10
theorem sc_Core__where : FnScope ["self", "name", "parts", "_", "a", "b", "page", "index"] ["self"] (C8.fnScope s_Core__where) := C8.fnScope_by (by decide +kernel)
theorem ok_where {fI : Addr} {fdI : FuncData} (me : Meth K N "_where" fI) (G : CoC K mg N) (T : Txt K mg w C) (F : C8.Fun K "_where" "Core._where" s_Core__where fI fdI) (b : Binds K fdI ["self"] []) : C8.Met P w K mg base 1 N "_where" (spWh N) [] := by
  refine C8.met0 G.cl me F b sc_Core__where (fun vs H Q E h => ?_) (fun cdv A outer s H vs Q E hr h => ?_)
  · obtain ⟨p, pr, rg, rfl, _⟩ := h; rfl
  obtain ⟨p, pr, rg, rfl, ⟨dx, hp⟩, ⟨i0, i1, i2, h0, h1, h2, h3⟩, q⟩ := h
  refine ⟨_, (pss_cons (ps_asg (pe_ix ix_tup (pe_fld (pv 0) rfl) (pe_fld (pv 0) rfl) (fun _ _ => rfl)) (pg_star rfl (pgs_cons (pg_name (i := 1) sc_Core__where.nd rfl (Or.inl rfl)) (pgs_cons (pg_name (i := 2) sc_Core__where.nd rfl (Or.inl rfl)) pgs_nil))))
      (pss_cons (ps_if (pt_cmpR op_eq (pv 1) pe_str (nomark _)) (pss_one ps_never) (pss_one (ps_if (pt_cmpR op_eq (pv 1) pe_str (nomark _)) (pss_one ps_never) (pss_one (ps_ret pe_non)))))
      (pss_cons ps_never
      (pss_cons ps_never
      (pss_cons ps_never
      (pss_one ps_never)))))), ?_⟩
  refine ⟨_, rfl, p, N, dx, _, _, rfl, hp, G.cl, G.n1, rfl, _, rfl, p, N, dx, _, _, rfl, hp, G.cl, G.n2, rfl, pr, _, 2, _, rfl, rfl, SqT.of h0, atI_nat (j := 2) rfl, i2, _, _, rfl, SqT.of h3, (by show 1 ≤ 1000; decide), fun l hl => ?_⟩
  refine ⟨_, _, rfl, _, _, rfl, rfl, ?_⟩
  refine ⟨_, rfl, rfl, _, rfl, ifF (fun z => absurd (V.str.inj z) (by decide +kernel)) ?_⟩
  refine ⟨_, rfl, rfl, _, rfl, ifF (fun z => absurd (V.str.inj z) (by decide +kernel)) ?_⟩
  exact q _ (same_new hl)
abbrev s_Core_request : Stmt := L2.inClass (top 42) 1
theorem sc_Core_request : FnScope ["self", "root", "descriptor", "instruction", "where", "page", "index", "k", "i"] ["self", "root", "descriptor"] (C8.fnScope s_Core_request) := C8.fnScope_by (by decide +kernel)
theorem ok_request {fI : Addr} {fdI : FuncData} (me : Meth K N "request" fI) (G : CoC K mg N) (T : Txt K mg w C) (m__where : C8.Met P w K mg base 1 N "_where" (spWh N) []) (F : C8.Fun K "request" "Core.request" s_Core_request fI fdI) (b : Binds K fdI ["self", "root", "descriptor"] []) : C8.Met P w K mg base 2 N "request" (spRq N) [] := by
  refine C8.met0 G.cl me F b sc_Core_request (fun vs H Q E h => ?_) (fun cdv A outer s H vs Q E hr h => ?_)
  · obtain ⟨p, pr, pl, rg, rfl, _⟩ := h; rfl
  obtain ⟨p, pr, pl, rg, rfl, ⟨dx, hp⟩, hpg, l0, l1, q1, q2⟩ := h
  obtain ⟨i0, i1, i2, h0, h1, h2, h3⟩ := id hpg
  have tk : ∀ (r : Int) (i : Addr), atI [V.ref i0, .ref i1, .ref i2] pl = some (.ref i) → H i = some (.tup [.str "token", .int r, .int 1]) → pl < 2 → ∃ t, PSs (cxOf C8.CX0 P w K mg base ["self", "root", "descriptor", "instruction", "where", "page", "index", "k", "i"] "Core.request" (C8.fnScope s_Core_request) fI cdv A outer s H E).nox (C8.fnBody s_Core_request) t ∧ t { nx := fun _ H' => Q .non H', rt := Q } (L2.start ["self", "root", "descriptor", "instruction", "where", "page", "index", "k", "i"] [.ref p, .int 11, .int 4]) H := fun r i hi hr' hl => by
    refine ⟨_, (pss_cons (ps_set (i := 3) sc_Core_request.nd rfl (Or.inl rfl) (pe_ix ix_tup (pe_fld (pv 0) rfl) (pe_fld (pv 0) rfl) (fun _ _ => rfl)))
      (pss_cons (ps_if (pt_cmpR op_eq (pe_ix ix_tup (pv 3) pe_int (fun _ _ => rfl)) pe_str (nomark _)) (pss_one (ps_ret (pe_tup (pa_cons pe_str (pa_cons (pe_tup (pa_cons pe_str (pa_cons (pv 2) (pa_cons (C8.pe_gc rfl T.c__MEASURE) pa_nil)))) pa_nil))))) pss_nil)
      (pss_cons (ps_set (i := 4) sc_Core_request.nd rfl (Or.inl rfl) (C8.pe_mt0 m__where hr (by first | decide | omega) (pv 0)))
      (pss_cons (ps_if (pt_cmpR op_isN (pv 4) pe_non (nomark _)) (pss_one (ps_ret pe_non)) pss_nil)
      (pss_cons ps_never
      (pss_cons ps_never
      (pss_cons ps_never
      (pss_cons ps_never
      (pss_cons ps_never
      (pss_one ps_never)))))))))), ?_⟩
    refine ⟨_, rfl, p, N, dx, _, _, rfl, hp, G.cl, G.n1, rfl, _, rfl, p, N, dx, _, _, rfl, hp, G.cl, G.n2, rfl, pr, _, pl, _, rfl, rfl, SqT.of h0, hi, ?_⟩
    refine ⟨_, rfl, i, _, 0, _, rfl, rfl, SqT.of hr', atI_nat (j := 0) rfl, rfl, _, rfl, ifT rfl ?_⟩
    refine ⟨_, rfl, (by show 3 ≤ sizeLine; decide), fun b hb => ⟨(by show 2 ≤ sizeLine; decide), fun a ha => ?_⟩⟩
    have s1 := same_new (o := .tup [.str "read", .int 4, .int 2]) hb
    have s2 := same_new (o := .tup [.str "monitor", .ref b]) ha
    exact q1 hl _ a b upd_same (s2 _ _ upd_same) (s1.trans s2)
  by_cases c2 : pl = 2
  · subst c2
    refine ⟨_, (pss_cons (ps_set (i := 3) sc_Core_request.nd rfl (Or.inl rfl) (pe_ix ix_tup (pe_fld (pv 0) rfl) (pe_fld (pv 0) rfl) (fun _ _ => rfl)))
      (pss_cons (ps_if (pt_cmpR op_eq (pe_ix ix_tup (pv 3) pe_int (fun _ _ => rfl)) pe_str (nomark _)) (pss_one (ps_ret (pe_tup (pa_cons pe_str (pa_cons (pe_tup (pa_cons pe_str (pa_cons (pv 2) (pa_cons (C8.pe_gc rfl T.c__MEASURE) pa_nil)))) pa_nil))))) pss_nil)
      (pss_cons (ps_set (i := 4) sc_Core_request.nd rfl (Or.inl rfl) (C8.pe_mt0 m__where hr (by first | decide | omega) (pv 0)))
      (pss_cons (ps_if (pt_cmpR op_isN (pv 4) pe_non (nomark _)) (pss_one (ps_ret pe_non)) pss_nil)
      (pss_cons ps_never
      (pss_cons ps_never
      (pss_cons ps_never
      (pss_cons ps_never
      (pss_cons ps_never
      (pss_one ps_never)))))))))), ?_⟩
    refine ⟨_, rfl, p, N, dx, _, _, rfl, hp, G.cl, G.n1, rfl, _, rfl, p, N, dx, _, _, rfl, hp, G.cl, G.n2, rfl, pr, _, 2, _, rfl, rfl, SqT.of h0, atI_nat (j := 2) rfl, ?_⟩
    refine ⟨_, rfl, i2, _, 0, _, rfl, rfl, SqT.of h3, atI_nat (j := 0) rfl, rfl, _, rfl, ifF (fun z => absurd (V.str.inj z) (by decide +kernel)) ?_⟩
    unfold tNext
    dsimp only
    refine ⟨_, rfl, p, dx, _, rfl, hp, rfl, p, pr, rg, rfl, ⟨dx, hp⟩, hpg, fun H1 s1 => ?_⟩
    exact ⟨_, rfl, rfl, _, rfl, ifT rfl (q2 rfl H1 s1)⟩
  · by_cases c0 : pl = 0
    · subst c0
      exact tk 1 i0 (atI_nat (j := 0) rfl) h1 (by omega)
    · obtain rfl : pl = 1 := by omega
      exact tk 2 i1 (atI_nat (j := 1) rfl) h2 (by omega)
end
end Hc

set_option maxHeartbeats 8000000
namespace Hc
open PySem PySem.Spec PyProof.Rows L2 Hr
abbrev tokE (M W : D) : D := .atom "token" [.str "here", M, W]
def spTokOf (C : Addr) : Sp := fun vs H Q _ => ∃ x y z m md ch, vs = [x, y, z] ∧ Is C H x m ∧ Is C H y md ∧ Is C H z ch ∧ isTermK "token" [m, md, ch] = true ∧ rank (.atom "token" [m, md, ch]) ≤ mostR "token" ∧ Fit (.tup [m, md, ch]) ∧ ∀ H' a, H a = none → Same H H' → Is C H' (.ref a) (.atom "token" [m, md, ch]) → Q (.ref a) H'
/-- C(..) that may raise, the slots told -/
def tMkS (C : Addr) (sp : Sp) (W : WX) (t : TA) : TE := fun σ H Q => t σ H fun vs H1 => ∀ x dx, H1 x = none → H1 dx = none → dx ≠ x → sp (.ref x :: vs) (upd (upd H1 dx (.own x)) x (.ins C dx [])) (fun v H2 => v = .non ∧ Q (.ref x) H2) (WE W σ)
theorem mkS {X : Cx} {k : Nat} {f C : Addr} {fd : FuncData} {ps : List Str} {sp : Sp} {W : WX} {z : Str} {q1 q2 : Pos} {e : Expr} {es : List Expr} {t : TA} (M : Mk X.K C f) (F : FnOk X.prog X.w X.K X.mg X.base (L2.CX X.prog X.w) k f fd ps sp) (hr : Room (k + 1) X.A) (g : Gl X z) (hm : X.mg z = some (.ref C)) (hb : Binds X.K fd ps [])
    (tk : Takes X W) (ha : PA X (e :: es) t) (hdb : (z == ("__debug__" : Str)) = false := by decide) (he : starEach (e :: es) X.env = (false, eval e X.env) :: starEach es X.env := by rfl) (hpl : (backTo q2 (starEach es X.env)).any (·.1) = false := by rfl) : PE X (.Call (.Name z q1) (e :: es) [] q2) (tMkS C sp W t) := by
  refine ⟨fun pins s σ H Q I h => wpAny_Call_Name_kw (ld_glob I g hm (PySem.W.callWith_K (h₀ := X.base) I.ok.mod.kin M.kp (thn (ha.run q2 pins s σ H _ I h) fun us s1 hh => ?_) he hpl) hdb)⟩
  obtain ⟨vs, H1, J, r, q⟩ := hh
  refine ⟨J.kIn, ?_⟩
  have q3 := q _ _ (J.hok.fresh (Nat.le_succ s1.heap.objs.size)) (J.hok.fresh (Nat.le_refl _)) (Nat.ne_of_lt (Nat.lt_succ_self _))
  have J2 := Inv.made (C := C) J
  have r2 : Vals (V.ref (s1.heap.objs.size + 1) :: vs) (Value.ref (s1.heap.objs.size + 1) :: us) := .cons rfl r
  have hl : (Value.ref (s1.heap.objs.size + 1) :: us).length = ps.length := by rw [← r2.length]; exact F.len _ _ _ _ q3
  have hbd := hb _ (Value.ref (s1.heap.objs.size + 1) :: us) J2.kIn (by rw [List.append_nil]; exact hl)
  rw [List.append_nil] at hbd
  refine wpAny_call (make_map (f := f) J.kIn M.makes M.init (beq_iff_eq.mp M.fn) (codeAny_mono (F.run _ X.stack _ _ ⟨_, []⟩ _ _ _ (WE W σ) (hr.make C us []) (J2.env0.make C us []) hbd r2 q3) fun r s' hq' => ?_))
  cases r with
  | error e => exact passAt tk σ pins _ _ e s' J2 hq'
  | ok fl =>
    cases fl with
    | ret u =>
      obtain ⟨v, H', J3, rv, ev, q4⟩ := J2.after hq'
      subst ev
      exact ⟨rv, V.ref (s1.heap.objs.size + 1), H', J3, rfl, q4⟩
    | _ => exact False.elim hq'
theorem pe_fldT (K : PySem.W.Frag) {X : Cx} {W : WX} {e : Expr} {ta : TE} {f : Str} {pos : Pos} (tk : Takes X W) (hK : X.K = K) (he : PE X e ta) (hb : attributeBase e f X.env (eval e X.env) = eval e X.env) : PE X (.Attribute e f pos) (tFld K ta f) := by subst hK; exact pe_fld he hb
theorem kind_tok : KindOk (.str "token") := .inl rfl
def spTokR (C NV : Addr) : Sp := fun vs H _ E => ∃ x y z m md ch, vs = [x, y, z] ∧ Is C H x m ∧ Is C H y md ∧ Is C H z ch ∧ isTermK "token" [m, md, ch] = true ∧ mostR "token" < rank (.atom "token" [m, md, ch]) ∧ Fit (.tup [m, md, ch]) ∧ ∀ H', Same H H' → E (.ref NV) none H'
def spTT (N C : Addr) : Sp := fun vs H Q _ => ∃ p i xm xw j pr pl rg ys M W, vs = [.ref p, .ref i, xm, .str "here"] ∧ H i = some (.tup [.str "token", .int j, .int 1]) ∧ Co N H p pr pl rg ∧ H rg = some (.tup ys) ∧ ys.length = 4 ∧ ys[1]? = some xw ∧ 0 ≤ j ∧ j < 4 ∧ 0 ≤ pl ∧ pl ≤ 100 ∧ Is C H xm M ∧ Is C H xw W ∧ cln M = true ∧ cln W = true ∧ isTermK "token" [.str "here", M, W] = true ∧ Fit (.tup [.str "here", M, W]) ∧
  (rank (tokE M W) ≤ 36 → ∀ H' rg' a, Co N H' p pr (pl + 1) rg' → H' rg' = some (.tup (ys.set j.toNat (.ref a))) → Is C H' (.ref a) (tokE M W) → But1 p H H' → Q .non H') ∧
  (36 < rank (tokE M W) → ∀ H' t, Same H H' → H' t = some (.tup [.str "stuck"]) → Q (.ref t) H')
theorem but1_keep {C N p dx : Addr} {fs : List (Str × V)} {H H' : Hp} (h : H p = some (.ins N dx fs)) (hn : N ≠ C) (b : But1 p H H') : Keep C H H' :=
  ⟨fun x _ e => b x _ e (fun z => by rw [z, h] at e; cases e), fun x _ _ e => b x _ e (fun z => by rw [z, h] at e; cases e; exact hn rfl)⟩
section
variable {P : Program} {w : World} {K : PySem.W.Frag} {mg : Str → Option Value} {base : Heap} {f : Addr} {fd : FuncData} {C N NV : Addr} {bmB : List Value} {newId : String}
abbrev s_token_of : Stmt := top 38
theorem sc_token_of : FnScope ["monitor", "measure", "challenge"] ["monitor", "measure", "challenge"] (C8.fnScope s_token_of) := C8.fnScope_by (by decide +kernel)
theorem ok_token_of (F : C8.Def K mg "token_of" s_token_of f fd) (b : Binds K fd ["monitor", "measure", "challenge"] []) (T : Txt K mg w C) (k_Atom : C8.Mak P w K mg base 5 "Atom" C (spInit C) []) : C8.Cal P w K mg base 7 "token_of" (spTokOf C) [] := by
  refine C8.cal0 F b .nil sc_token_of (fun vs H Q E h => ?_) (fun cdv A outer s H vs Q E hr h => ?_)
  · obtain ⟨x, y, z, m, md, ch, rfl, _⟩ := h; rfl
  obtain ⟨x, y, z, m, md, ch, rfl, hx, hy, hz, ht, hrk, hft, q⟩ := h
  refine ⟨_, (pss_one (ps_ret (C8.pe_mk k_Atom hr (by first | decide | omega) rfl (pa_cons pe_str (pa_cons (pe_tup (pa_cons (pv 0) (pa_cons (pv 1) (pa_cons (pv 2) pa_nil)))) pa_nil))))), ?_⟩
  refine ⟨_, rfl, _, rfl, _, rfl, (by show 3 ≤ sizeLine; decide), fun t ht0 => ?_⟩
  have s1 := same_new (o := .tup [x, y, z]) ht0
  have e1 : upd H t (.tup [x, y, z]) t = some (.tup [x, y, z]) := upd_same
  generalize upd H t (.tup [x, y, z]) = H1 at *
  intro o do_ ho hdo hne
  have s2 : Same H1 (upd (upd H1 do_ (.own o)) o (.ins C do_ [])) := same_put (same_new hdo) ho
  have i2 : Is C (upd (upd H1 do_ (.own o)) o (.ins C do_ [])) (.ref t) (.tup [m, md, ch]) := (Is.tup e1 (.cons (hx.same s1) (.cons (hy.same s1) (.cons (hz.same s1) .nil)))).same s2
  refine ⟨o, do_, "token", t, [m, md, ch], rfl, upd_same, i2, ht, hrk, hft, fun H3 hat oth => ⟨rfl, ?_⟩⟩
  have s3 : Same H1 H3 := fun b u e => oth b u (s2 _ _ e) (ne_of_none e ho)
  have i3 := (Is.tup (C := C) e1 (.cons (hx.same s1) (.cons (hy.same s1) (.cons (hz.same s1) .nil)))).same s3
  refine q H3 o (s1.free ho) (s1.trans s3) ?_
  cases i3 with
  | @tup _ ts _ e3 i3 => exact .atom hat e3 i3
theorem ok_token_ofX {fI : Addr} {fdI : FuncData} (F : C8.Def K mg "token_of" s_token_of f fd) (T : Txt K mg w C) (M : Mk K C fI) (FX : FnOk P w K mg base (L2.CX P w) 5 fI fdI ["self", "kind", "term"] (spInitR C NV)) (bI : Binds K fdI ["self", "kind", "term"] []) :
    FnOk P w K mg base (L2.CX P w) 7 f fd ["monitor", "measure", "challenge"] (spTokR C NV) := by
  refine fnX F.fn sc_token_of (fun vs H Q E h => ?_) (fun cdv A outer s H vs Q E hr h => ?_)
  · obtain ⟨x, y, z, m, md, ch, rfl, _⟩ := h; rfl
  obtain ⟨x, y, z, m, md, ch, rfl, hx, hy, hz, hb, hrk, hft, q⟩ := h
  refine ⟨_, pss_one (ps_ret (mkS M FX hr rfl T.g_Atom bI (takes_of rfl rfl rfl rfl) (pa_cons pe_str (pa_cons (pe_tup (pa_cons (pv 0) (pa_cons (pv 1) (pa_cons (pv 2) pa_nil)))) pa_nil)))), ?_⟩
  refine ⟨_, rfl, _, rfl, _, rfl, (by show 3 ≤ sizeLine; decide), fun t ht0 => ?_⟩
  have s1 := same_new (o := .tup [x, y, z]) ht0
  have e1 : upd H t (.tup [x, y, z]) t = some (.tup [x, y, z]) := upd_same
  generalize upd H t (.tup [x, y, z]) = H1 at *
  intro o dx ho hdo hne
  have s2 : Same H1 (upd (upd H1 dx (.own o)) o (.ins C dx [])) := same_put (same_new hdo) ho
  have i2 : Is C (upd (upd H1 dx (.own o)) o (.ins C dx [])) (.ref t) (.tup [m, md, ch]) := (Is.tup e1 (.cons (hx.same s1) (.cons (hy.same s1) (.cons (hz.same s1) .nil)))).same s2
  refine ⟨o, dx, .str "token", .ref t, .str "token", .tup [m, md, ch], rfl, upd_same, .str _, i2, ?_, hft, .inr ⟨_, _, rfl, rfl, hb, hrk⟩, fun H' s' => ?_⟩
  · exact kind_tok
  · exact q H' (s1.trans (s2.trans s'))
abbrev s_Core__take_token : Stmt := L2.inClass (top 42) 8
theorem sc_Core__take_token : FnScope ["self", "instruction", "measure", "monitor", "_", "r", "a", "token"] ["self", "instruction", "measure", "monitor"] (C8.fnScope s_Core__take_token) := C8.fnScope_by (by decide +kernel)
theorem ok_take_token {fI aT : Addr} {fdI fT : FuncData} (me : Meth K N "_take_token" fI) (G : CoC K mg N) (T : Txt K mg w C) (nv : NvOk K mg NV bmB newId) (hx : PySem.W.exmOne K (.ref NV) (.ref NV) = some true) (c_token_of : C8.Cal P w K mg base 7 "token_of" (spTokOf C) [])
    (FT : FnOk P w K mg base (L2.CX P w) 7 aT fT ["monitor", "measure", "challenge"] (spTokR C NV)) (hmT : mg "token_of" = some (.ref aT)) (kT : PySem.W.keepIn K (.ref aT) = true) (bT' : Binds K fT ["monitor", "measure", "challenge"] [])
    (m__finish : C8.Met P w K mg base 2 N "_finish" (spFi N) []) (hNC : N ≠ C) (F : C8.Fun K "_take_token" "Core._take_token" s_Core__take_token fI fdI) (b : Binds K fdI ["self", "instruction", "measure", "monitor"] []) : C8.Met P w K mg base 8 N "_take_token" (spTT N C) [] := by
  refine C8.met0 G.cl me F b sc_Core__take_token (fun vs H Q E h => ?_) (fun cdv A outer s H vs Q E hr h => ?_)
  · obtain ⟨p, i, xm, xw, j, pr, pl, rg, ys, M, W, rfl, _⟩ := h; rfl
  obtain ⟨p, i, xm, xw, j, pr, pl, rg, ys, M, W, rfl, hi, ⟨dx, hp⟩, hrg, hl, hw, j0, j1, l0, l1, hM, hW, hcM, hcW, htm, hft, q1, q2⟩ := h
  by_cases c : rank (tokE M W) ≤ 36
  · refine ⟨_, pss_cons (ps_asg (pv 1) (pg_tup rfl (pgs_cons (pg_name (i := 4) sc_Core__take_token.nd rfl (Or.inl rfl)) (pgs_cons (pg_name (i := 5) sc_Core__take_token.nd rfl (Or.inl rfl)) (pgs_cons (pg_name (i := 6) sc_Core__take_token.nd rfl (Or.inl rfl)) pgs_nil)))))
      (pss_cons (ps_try_thru0 (pss_one (ps_set (i := 7) sc_Core__take_token.nd rfl (Or.inl rfl) (C8.pe_c c_token_of hr (by first | decide | omega) rfl (pa_cons (pv 3) (pa_cons (pv 2) (pa_cons (pe_ix (r := rIxT K) ix_tup (pe_fld (pv 0) rfl) (pv 6) (fun _ _ => rfl)) pa_nil)))))))
      (pss_one (ps_ret (C8.pe_mt m__finish hr (by first | decide | omega) (pv 0) (pa_cons (pv 5) (pa_cons (pv 7) pa_nil)))))), ?_⟩
    refine ⟨_, rfl, i, _, rfl, SqT.of hi, rfl, ?_⟩
    refine ⟨_, _, rfl, _, _, rfl, _, _, rfl, rfl, ?_⟩
    refine ⟨_, rfl, _, rfl, _, rfl, p, N, dx, _, _, rfl, hp, G.cl, G.n3, rfl, _, rfl, rg, ys, 1, xw, rfl, rfl, SqT.of hrg, atI_nat (j := 1) hw, _, xm, xw, _, M, W, rfl, .str _, hM, hW, htm, by unfold mostR; rw [if_pos rfl]; exact c, hft, fun H1 a ha s1 ia => ?_⟩
    refine ⟨_, rfl, p, dx, _, rfl, s1 _ _ hp, rfl, _, rfl, _, rfl, p, pr, pl, rg, j, .ref a, ys, rfl, ⟨dx, s1 _ _ hp⟩, s1 _ _ hrg, hl, j0, j1, l0, l1, fun H2 rg2 c2 hr2 b2 => ?_⟩
    exact q1 c H2 rg2 a c2 hr2 (Is.keep (but1_keep (s1 _ _ hp) hNC b2) (by simp only [tokE, cln, clnL, hcM, hcW]; rfl) ia) fun b o e n => b2 _ _ (s1 _ _ e) n
  · refine ⟨_, pss_cons (ps_asg (pv 1) (pg_tup rfl (pgs_cons (pg_name (i := 4) sc_Core__take_token.nd rfl (Or.inl rfl)) (pgs_cons (pg_name (i := 5) sc_Core__take_token.nd rfl (Or.inl rfl)) (pgs_cons (pg_name (i := 6) sc_Core__take_token.nd rfl (Or.inl rfl)) pgs_nil)))))
      (pss_cons (ps_try_only (c := .ref NV) (Wout := fun _ _ _ _ => False) rfl rfl ⟨rfl, by decide, .inl nv.g⟩ (fun u s' ⟨_, _, _, _, _, _, _, _, _, _, _, _, _, _, _, _, z⟩ => z.elim)
        (fun W pn xe tk _ => pss_one (ps_set (i := 7) sc_Core__take_token.nd rfl (Or.inl rfl) (pe_callS FT (hr.mono (by decide)) rfl hmT kT bT' (passAt tk) (pa_cons (pv 3) (pa_cons (pv 2) (pa_cons (pe_ix (r := rIxT K) ix_tup (pe_fldT K tk rfl (pv 0) rfl) (pv 6) (fun _ _ => rfl)) pa_nil))))))
        (fun a oe cls d pn _ _ => pss_one (ps_ret (pe_tup (pa_cons pe_str pa_nil)))))
      (pss_one (ps_ret (C8.pe_mt m__finish hr (by first | decide | omega) (pv 0) (pa_cons (pv 5) (pa_cons (pv 7) pa_nil)))))), ?_⟩
    refine ⟨_, rfl, i, _, rfl, SqT.of hi, rfl, ?_⟩
    refine ⟨_, _, rfl, _, _, rfl, _, _, rfl, rfl, ?_⟩
    refine ⟨_, rfl, _, rfl, _, rfl, p, N, dx, _, _, rfl, hp, G.cl, G.n3, rfl, _, rfl, rg, ys, 1, xw, rfl, rfl, SqT.of hrg, atI_nat (j := 1) hw, _, xm, xw, _, M, W, rfl, .str _, hM, hW, htm, by unfold mostR; rw [if_pos rfl]; exact Nat.lt_of_not_le c, hft, fun H1 s1 => ?_⟩
    refine ⟨true, hx, fun _ a na => ⟨(by show 1 ≤ sizeLine; decide), fun t ht => ?_⟩, fun z => nomatch z⟩
    exact q2 (by omega) _ t (s1.trans (same_new ht)) upd_same
end
end Hc

set_option maxHeartbeats 8000000
namespace Hc
open PySem PySem.Spec PyProof.Rows L2 Hr
theorem inVab (k p q : Str) : inV (.str k) [.str p, .str q] = (decide (k = p) || decide (k = q)) := by
  show (eqV (.str p) (.str k) || (eqV (.str q) (.str k) || false)) = _
  have h : ∀ z : Str, eqV (.str z) (.str k) = decide (k = z) := fun z => by
    simp only [eqV]
    by_cases h : k = z
    · subst h; simp
    · rw [decide_eq_false h]; exact beq_eq_false_iff_ne.mpr (fun y => h y.symm)
  rw [h, h, Bool.or_false]
def spSt (N C : Addr) : Sp := fun vs H Q _ => ∃ p xm pr pl rg, vs = [.ref p, xm, .str "here"] ∧ Co N H p pr pl rg ∧ Prg H pr ∧
  ((pl = 2 ∧ ∀ H', Co N H' p pr 0 rg → But1 p H H' → Q .non H') ∨
   (0 ≤ pl ∧ pl < 2 ∧ ∃ ys xw M W, H rg = some (.tup ys) ∧ ys.length = 4 ∧ ys[1]? = some xw ∧ Is C H xm M ∧ Is C H xw W ∧ cln M = true ∧ cln W = true ∧ isTermK "token" [.str "here", M, W] = true ∧ Fit (.tup [.str "here", M, W]) ∧
    (rank (tokE M W) ≤ 36 → ∀ H' rg' a, Co N H' p pr (pl + 1) rg' → H' rg' = some (.tup (ys.set (pl + 1).toNat (.ref a))) → Is C H' (.ref a) (tokE M W) → But1 p H H' → Q .non H') ∧
    (36 < rank (tokE M W) → ∀ H' t, Same H H' → H' t = some (.tup [.str "stuck"]) → Q (.ref t) H')))
section
variable {P : Program} {w : World} {K : PySem.W.Frag} {mg : Str → Option Value} {base : Heap} {f : Addr} {fd : FuncData} {C N : Addr}
abbrev s_Core_step : Stmt := L2.inClass (top 42) 2
theorem sc_Core_step : FnScope ["self", "result", "monitor", "instruction", "name"] ["self", "result", "monitor"] (C8.fnScope s_Core_step) := C8.fnScope_by (by decide +kernel)
theorem ok_step {fI : Addr} {fdI : FuncData} (me : Meth K N "step" fI) (G : CoC K mg N) (T : Txt K mg w C) (m__jump : C8.Met P w K mg base 1 N "_jump" (spJp N) []) (m__take_token : C8.Met P w K mg base 8 N "_take_token" (spTT N C) []) (F : C8.Fun K "step" "Core.step" s_Core_step fI fdI) (b : Binds K fdI ["self", "result", "monitor"] []) : C8.Met P w K mg base 9 N "step" (spSt N C) [] := by
  refine C8.met0 G.cl me F b sc_Core_step (fun vs H Q E h => ?_) (fun cdv A outer s H vs Q E hr h => ?_)
  · obtain ⟨p, xm, pr, pl, rg, rfl, _⟩ := h; rfl
  obtain ⟨p, xm, pr, pl, rg, rfl, ⟨dx, hp⟩, hpg, h⟩ := h
  obtain ⟨i0, i1, i2, h0, h1, h2, h3⟩ := id hpg
  refine ⟨_, (pss_cons (ps_set (i := 3) sc_Core_step.nd rfl (Or.inl rfl) (pe_ix ix_tup (pe_fld (pv 0) rfl) (pe_fld (pv 0) rfl) (fun _ _ => rfl)))
      (pss_cons (ps_set (i := 4) sc_Core_step.nd rfl (Or.inl rfl) (pe_ix ix_tup (pv 3) pe_int (fun _ _ => rfl)))
      (pss_cons (ps_if (pt_cmpR op_eq (pv 4) pe_str (nomark _)) (pss_one ps_never) pss_nil)
      (pss_cons (ps_if (pt_cmpR op_eq (pv 4) pe_str (nomark _)) (pss_cons ps_never
      (pss_one ps_never)) pss_nil)
      (pss_cons (ps_if (pt_cmpR op_in_seq (pv 4) (pe_tup (pa_cons pe_str (pa_cons pe_str pa_nil))) (by with_unfolding_all rfl)) (pss_one (ps_ret (C8.pe_mt m__jump hr (by first | decide | omega) (pv 0) (pa_cons (pv 3) pa_nil)))) pss_nil)
      (pss_cons (ps_if (pt_cmpR op_eq (pv 4) pe_str (nomark _)) (pss_one (ps_ret (C8.pe_mt m__take_token hr (by first | decide | omega) (pv 0) (pa_cons (pv 3) (pa_cons (pv 1) (pa_cons (pv 2) pa_nil)))))) pss_nil)
      (pss_cons ps_never
      (pss_one ps_never)))))))), ?_⟩
  rcases h with ⟨rfl, q⟩ | ⟨l0, l1, ys, xw, M, W, hrg, hl, hw, hM, hW, hcM, hcW, htm, hft, q1, q2⟩
  · refine ⟨_, rfl, p, N, dx, _, _, rfl, hp, G.cl, G.n1, rfl, _, rfl, p, N, dx, _, _, rfl, hp, G.cl, G.n2, rfl, pr, _, 2, _, rfl, rfl, SqT.of h0, atI_nat (j := 2) rfl, ?_⟩
    refine ⟨_, rfl, i2, _, 0, _, rfl, rfl, SqT.of h3, atI_nat (j := 0) rfl, ?_⟩
    refine ⟨_, rfl, rfl, _, rfl, ifF (fun z => absurd (V.str.inj z) (by decide +kernel)) ?_⟩
    unfold tNext
    dsimp only
    refine ⟨_, rfl, rfl, _, rfl, ifF (fun z => absurd (V.str.inj z) (by decide +kernel)) ?_⟩
    refine ⟨_, rfl, (by show 2 ≤ sizeLine; decide), fun m hm => ?_⟩
    have s1 := same_new (o := .tup [.str "zero", .str "jump"]) hm
    refine ⟨m, _, rfl, .inr (SqT.of upd_same), rfl, rfl, _, rfl, ?_⟩
    show (if (inV (.str "jump") [.str "zero", .str "jump"]) = true then _ else _)
    rw [inVab]
    refine bT (by decide +kernel) ?_
    refine ⟨_, rfl, p, dx, _, rfl, s1 _ _ hp, rfl, _, rfl, p, pr, 2, rg, i2, rfl, ⟨dx, s1 _ _ hp⟩, s1 _ _ h3, fun H1 c1 b1 => ?_⟩
    exact q H1 c1 fun b o e n => b1 _ _ (s1 _ _ e) n
  · obtain ⟨i, ati, hi⟩ : ∃ i, atI [V.ref i0, .ref i1, .ref i2] pl = some (.ref i) ∧ H i = some (.tup [.str "token", .int (pl + 1), .int 1]) := by
      by_cases c0 : pl = 0
      · subst c0; exact ⟨i0, atI_nat (j := 0) rfl, h1⟩
      · obtain rfl : pl = 1 := by omega
        exact ⟨i1, atI_nat (j := 1) rfl, h2⟩
    refine ⟨_, rfl, p, N, dx, _, _, rfl, hp, G.cl, G.n1, rfl, _, rfl, p, N, dx, _, _, rfl, hp, G.cl, G.n2, rfl, pr, _, pl, _, rfl, rfl, SqT.of h0, ati, ?_⟩
    refine ⟨_, rfl, i, _, 0, _, rfl, rfl, SqT.of hi, atI_nat (j := 0) rfl, ?_⟩
    refine ⟨_, rfl, rfl, _, rfl, ifF (fun z => absurd (V.str.inj z) (by decide +kernel)) ?_⟩
    unfold tNext
    dsimp only
    refine ⟨_, rfl, rfl, _, rfl, ifF (fun z => absurd (V.str.inj z) (by decide +kernel)) ?_⟩
    refine ⟨_, rfl, (by show 2 ≤ sizeLine; decide), fun m hm => ?_⟩
    have s1 := same_new (o := .tup [.str "zero", .str "jump"]) hm
    have em : (upd H m (.tup [.str "zero", .str "jump"])) m = some (.tup [.str "zero", .str "jump"]) := upd_same
    generalize upd H m (.tup [.str "zero", .str "jump"]) = H1 at *
    refine ⟨m, _, rfl, .inr (SqT.of em), rfl, rfl, _, rfl, ?_⟩
    show (if (inV (.str "token") [.str "zero", .str "jump"]) = true then _ else _)
    rw [inVab]
    refine bF (by decide +kernel) ?_
    refine ⟨_, rfl, rfl, _, rfl, ifT rfl ?_⟩
    refine ⟨_, rfl, p, dx, _, rfl, s1 _ _ hp, rfl, _, rfl, _, rfl, _, rfl, p, i, xm, xw, pl + 1, pr, pl, rg, ys, M, W, rfl, s1 _ _ hi, ⟨dx, s1 _ _ hp⟩, s1 _ _ hrg, hl, hw, by omega, by omega, l0, by omega, hM.same s1, hW.same s1, hcM, hcW, htm, hft, fun c H2 rg2 a c2 hr2 ia b2 => ?_, fun c H2 t s2 e2 => ?_⟩
    · exact q1 c H2 rg2 a c2 hr2 ia fun b o e n => b2 _ _ (s1 _ _ e) n
    · exact q2 c H2 t (s1.trans s2) e2
end
end Hc

set_option maxHeartbeats 8000000
namespace Hc
open PySem PySem.Spec PyProof.Rows L2 Hr
abbrev chE (n : Nat) : D := .atom "challenge" [.str "v", .int (n : Int)]
abbrev poolE (n : Nat) : List D := [.int 7, .str "w", .non, .tup [.int 1, .str "a"], chE n, .tup [chE n, .int 3], .atom "token" [.str "m", .tup [], chE n]]
mutual
def txb : D → Bool
  | .tup ds => txbL ds
  | .lst ds => txbL ds
  | .atom _ ds => txbL ds
  | .str s => decide (s.length ≤ 1000)
  | _ => true
def txbL : List D → Bool
  | [] => true
  | d :: ds => txb d && txbL ds
end
mutual
theorem txb_txl : ∀ {d : D}, txb d = true → txl d
  | .tup ds, h => by simp only [txl]; exact txbL_txl (by simpa [txb] using h)
  | .lst ds, h => by simp only [txl]; first | trivial | exact txbL_txl (by simpa [txb] using h)
  | .atom _ ds, h => by simp only [txl]; exact txbL_txl (by simpa [txb] using h)
  | .str s, h => by simp only [txl]; simp [txb] at h; exact Nat.le_trans h (by decide)
  | .non, _ => by simp only [txl]
  | .bl _, _ => by simp only [txl]
  | .int _, _ => by simp only [txl]
  | .dct, _ => by simp only [txl]
theorem txbL_txl : ∀ {ds : List D}, txbL ds = true → txlL ds
  | [], _ => by simp only [txlL]
  | d :: ds, h => by
    simp only [txbL, Bool.and_eq_true] at h
    simp only [txlL]
    exact ⟨txb_txl h.1, txbL_txl h.2⟩
end
/-- what is known of a word -/
structure Wd (W : D) : Prop where
  c : cln W = true
  w : wrd W = true
  d : dep W ≤ 3
  z : sz W ≤ 60 * (rank W + 1)
  k : okW 40 40 0 W = true
  t : txb W = true
def wdB (W : D) : Bool := cln W && wrd W && decide (dep W ≤ 3) && decide (sz W ≤ 20) && okW 40 40 0 W && okW 40 40 2 W && txb W && plk W && decide (full W ≤ 5) && decide (rank W ≤ 2)
theorem pool_ok : ∀ n, n < 9 → ∀ e ∈ poolE n, wdB e = true := by
  have h : ((List.range 9).all fun n => (poolE n).all wdB) = true := by decide +kernel
  intro n hn e he
  exact List.all_eq_true.mp (List.all_eq_true.mp h n (List.mem_range.mpr hn)) e he
theorem ch_term : ∀ n : Nat, n < 9 → isTermK "challenge" [.str "v", .int (n : Int)] = true ∧ rank (chE n) ≤ mostR "challenge" ∧ Fit (.tup [.str "v", .int (n : Int)]) := by
  have h : ((List.range 9).all fun n => isTermK "challenge" [.str "v", .int (n : Int)] && decide (rank (chE n) ≤ mostR "challenge")) = true := by decide +kernel
  intro n hn
  have := List.all_eq_true.mp h n (List.mem_range.mpr hn)
  simp only [Bool.and_eq_true, decide_eq_true_eq] at this
  exact ⟨this.1, this.2, by simp [sz, szL], txb_txl (by simp only [txb, txbL]; decide +kernel)⟩
theorem tk_term : ∀ n, n < 9 → isTermK "token" [.str "m", .tup [], chE n] = true ∧ rank (.atom "token" [.str "m", .tup [], chE n]) ≤ mostR "token" ∧ Fit (.tup [.str "m", .tup [], chE n]) := by
  have h : ((List.range 9).all fun n => isTermK "token" [.str "m", .tup [], chE n] && decide (rank (.atom "token" [.str "m", .tup [], chE n]) ≤ mostR "token") && decide (sz (.tup [.str "m", .tup [], chE n]) ≤ 1000) && txb (.tup [.str "m", .tup [], chE n])) = true := by decide +kernel
  intro n hn
  have := List.all_eq_true.mp h n (List.mem_range.mpr hn)
  simp only [Bool.and_eq_true, decide_eq_true_eq] at this
  exact ⟨this.1.1.1, this.1.1.2, Nat.le_trans this.1.2 (by decide), txb_txl this.2⟩
theorem at_of {C : Addr} {H : Hp} {o dx t : Addr} {k : Str} {es : List D} (h : H o = some (.ins C dx (atF k t (rank (.atom k es))))) (i : Is C H (.ref t) (.tup es)) : Is C H (.ref o) (.atom k es) := by
  cases i with
  | @tup _ ts _ e3 i3 => exact .atom h e3 i3
theorem off_keep {C p s : Addr} {H H' : Hp} (t : Tape H p s) (b : Off p H H') : Keep C H H' := by
  obtain ⟨ns, pos, rest, mix, h, _⟩ := t
  exact ⟨fun x _ e => b x _ e (fun z => by rw [z, h] at e; cases e), fun x _ _ e => b x _ e (fun z => by rw [z, h] at e; cases e)⟩
def spLw (C : Addr) : Sp := fun vs H Q _ => ∃ p s, vs = [.ref p] ∧ Tape H p s ∧ ∀ H' x W, Tape H' p s → Off p H H' → Is C H' x W → (∃ n, n < 9 ∧ W ∈ poolE n) → Q x H'
section
variable {P : Program} {w : World} {K : PySem.W.Frag} {mg : Str → Option Value} {base : Heap} {f : Addr} {fd : FuncData} {C N : Addr}
abbrev s__law_word : Stmt := top 45
theorem sc__law_word : FnScope ["tape", "atom", "words"] ["tape"] (C8.fnScope s__law_word) := C8.fnScope_by (by decide +kernel)
theorem ok__law_word (F : C8.Def K mg "_law_word" s__law_word f fd) (b : Binds K fd ["tape"] []) (T : Txt K mg w C) (k_Atom : C8.Mak P w K mg base 5 "Atom" C (spInit C) []) (c__law_next : C8.Cal P w K mg base 1 "_law_next" spNext []) : C8.Cal P w K mg base 7 "_law_word" (spLw C) [] := by
  refine C8.cal0 F b .nil sc__law_word (fun vs H Q E h => ?_) (fun cdv A outer s H vs Q E hr h => ?_)
  · obtain ⟨p, sa, rfl, _⟩ := h; rfl
  obtain ⟨p, sa, rfl, t, q⟩ := h
  refine ⟨_, (pss_cons (ps_set (i := 1) sc__law_word.nd rfl (Or.inl rfl) (C8.pe_mk k_Atom hr (by first | decide | omega) rfl (pa_cons pe_str (pa_cons (pe_tup (pa_cons pe_str (pa_cons (C8.pe_c c__law_next hr (by first | decide | omega) rfl (pa_cons (pv 0) (pa_cons pe_int pa_nil))) pa_nil))) pa_nil))))
      (pss_cons (ps_set (i := 2) sc__law_word.nd rfl (Or.inl rfl) (pe_tup (pa_cons pe_int (pa_cons pe_str (pa_cons pe_non (pa_cons (pe_tup (pa_cons pe_int (pa_cons pe_str pa_nil))) (pa_cons (pv 1) (pa_cons (pe_tup (pa_cons (pv 1) (pa_cons pe_int pa_nil))) (pa_cons (C8.pe_mk k_Atom hr (by first | decide | omega) rfl (pa_cons pe_str (pa_cons (pe_tup (pa_cons pe_str (pa_cons (pe_tup pa_nil) (pa_cons (pv 1) pa_nil)))) pa_nil))) pa_nil)))))))))
      (pss_one (ps_ret (pe_ix ix_tup (pv 2) (C8.pe_c c__law_next hr (by first | decide | omega) rfl (pa_cons (pv 0) (pa_cons pe_int pa_nil))) (fun _ _ => rfl)))))), ?_⟩
  refine ⟨_, rfl, p, sa, 9, rfl, t, by decide, by decide, fun H1 r t1 o1 g0 g1 => ⟨(by show 2 ≤ sizeLine; decide), fun u hu => ?_⟩⟩
  obtain ⟨n, rfl⟩ : ∃ n : Nat, r = (n : Int) := ⟨r.toNat, by omega⟩
  have hn : n < 9 := by omega
  obtain ⟨c1, c2, c3⟩ := ch_term n hn
  have s1 := same_new (o := .tup [.str "v", .int (n : Int)]) hu
  have iu : Is C (upd H1 u (.tup [.str "v", .int (n : Int)])) (.ref u) (.tup [.str "v", .int (n : Int)]) := .tup upd_same (.cons (.str _) (.cons (.int _) .nil))
  generalize upd H1 u (.tup [.str "v", .int (n : Int)]) = H2 at *
  intro o dx ho hdo hne
  have s2 : Same H2 (upd (upd H2 dx (.own o)) o (.ins C dx [])) := same_put (same_new hdo) ho
  refine ⟨o, dx, "challenge", u, _, rfl, upd_same, iu.same s2, c1, c2, c3, fun H3 hat oth => ⟨rfl, ?_⟩⟩
  have s3 : Same H2 H3 := fun b v e => oth b v (s2 _ _ e) (ne_of_none e ho)
  have ia : Is C H3 (.ref o) (chE n) := at_of hat (iu.same s3)
  have st := s1.trans s3
  refine ⟨(by show 2 ≤ sizeLine; decide), fun u1 hu1 => ?_⟩
  have s4 := same_new (o := .tup [.int 1, .str "a"]) hu1
  have iu1 : Is C (upd H3 u1 (.tup [.int 1, .str "a"])) (.ref u1) (.tup [.int 1, .str "a"]) := .tup upd_same (.cons (.int _) (.cons (.str _) .nil))
  have ia := ia.same s4
  have st := st.trans s4
  generalize upd H3 u1 (.tup [.int 1, .str "a"]) = H4 at *
  refine ⟨_, rfl, _, rfl, (by show 2 ≤ sizeLine; decide), fun u2 hu2 => ?_⟩
  have s5 := same_new (o := .tup [.ref o, .int 3]) hu2
  have iu2 : Is C (upd H4 u2 (.tup [.ref o, .int 3])) (.ref u2) (.tup [chE n, .int 3]) := .tup upd_same (.cons (ia.same s5) (.cons (.int _) .nil))
  have ia := ia.same s5
  have iu1 := iu1.same s5
  have st := st.trans s5
  generalize upd H4 u2 (.tup [.ref o, .int 3]) = H5 at *
  refine ⟨(by show 0 ≤ sizeLine; decide), fun u3 hu3 => ?_⟩
  have s6 := same_new (o := .tup []) hu3
  have iu3 : Is C (upd H5 u3 (.tup [])) (.ref u3) (.tup []) := .tup upd_same .nil
  have ia := ia.same s6
  have iu1 := iu1.same s6
  have iu2 := iu2.same s6
  have st := st.trans s6
  generalize upd H5 u3 (.tup []) = H6 at *
  refine ⟨_, rfl, (by show 3 ≤ sizeLine; decide), fun u4 hu4 => ?_⟩
  have s7 := same_new (o := .tup [.str "m", .ref u3, .ref o]) hu4
  have iu4 : Is C (upd H6 u4 (.tup [.str "m", .ref u3, .ref o])) (.ref u4) (.tup [.str "m", .tup [], chE n]) := .tup upd_same (.cons (.str _) (.cons (iu3.same s7) (.cons (ia.same s7) .nil)))
  have ia := ia.same s7
  have iu1 := iu1.same s7
  have iu2 := iu2.same s7
  have st := st.trans s7
  generalize upd H6 u4 (.tup [.str "m", .ref u3, .ref o]) = H7 at *
  intro o2 dx2 ho2 hdo2 hne2
  obtain ⟨e1, e2, e3⟩ := tk_term n hn
  have s8 : Same H7 (upd (upd H7 dx2 (.own o2)) o2 (.ins C dx2 [])) := same_put (same_new hdo2) ho2
  refine ⟨o2, dx2, "token", u4, _, rfl, upd_same, iu4.same s8, e1, e2, e3, fun H8 hat2 oth2 => ⟨rfl, ?_⟩⟩
  have s9 : Same H7 H8 := fun b v e => oth2 b v (s8 _ _ e) (ne_of_none e ho2)
  have ib : Is C H8 (.ref o2) (.atom "token" [.str "m", .tup [], chE n]) := at_of hat2 (iu4.same s9)
  have ia := ia.same s9
  have iu1 := iu1.same s9
  have iu2 := iu2.same s9
  have st := st.trans s9
  refine ⟨(by show 7 ≤ sizeLine; decide), fun wt hwt => ?_⟩
  have s10 := same_new (o := .tup [.int 7, .str "w", .non, .ref u1, .ref o, .ref u2, .ref o2]) hwt
  have iw : IsA C (upd H8 wt (.tup [.int 7, .str "w", .non, .ref u1, .ref o, .ref u2, .ref o2])) [.int 7, .str "w", .non, .ref u1, .ref o, .ref u2, .ref o2] (poolE n) := .cons (.int _) (.cons (.str _) (.cons .non (.cons (iu1.same s10) (.cons (ia.same s10) (.cons (iu2.same s10) (.cons (ib.same s10) .nil))))))
  have ew : (upd H8 wt (.tup [.int 7, .str "w", .non, .ref u1, .ref o, .ref u2, .ref o2])) wt = some (.tup [.int 7, .str "w", .non, .ref u1, .ref o, .ref u2, .ref o2]) := upd_same
  have st := st.trans s10
  generalize upd H8 wt (.tup [.int 7, .str "w", .non, .ref u1, .ref o, .ref u2, .ref o2]) = H9 at *
  generalize ([.int 7, .str "w", .non, .ref u1, .ref o, .ref u2, .ref o2] : List V) = xs at *
  have t9 := t1.same st
  refine ⟨_, rfl, _, rfl, p, sa, 7, rfl, t9, by decide, by decide, fun H10 r2 t10 o10 k0 k1 => ?_⟩
  obtain ⟨m, rfl⟩ : ∃ m : Nat, r2 = (m : Int) := ⟨r2.toNat, by omega⟩
  have hxl : xs.length = 7 := iw.len
  have hm : m < xs.length := by omega
  have kk := off_keep (C := C) t9 o10
  have hcl : clnL (poolE n) = true := clnL_iff.mpr fun e he => by
    have := pool_ok n hn e he
    simp only [wdB, Bool.and_eq_true] at this
    exact this.1.1.1.1.1.1.1.1.1
  obtain ⟨e, he, ie⟩ := (IsA.keep kk hcl iw).at (List.getElem?_eq_getElem hm)
  refine ⟨wt, xs, (m : Int), _, rfl, rfl, SqT.of (kk.tup _ _ ew), atI_nat (List.getElem?_eq_getElem hm), ?_⟩
  exact q H10 _ e t10 ((o1.trans (Same.off st)).trans o10) ie ⟨n, hn, List.mem_of_getElem? he⟩
end
end Hc

set_option maxHeartbeats 8000000
namespace Hc
open PySem PySem.Spec PyProof.Rows L2 Hr
theorem rank_tok (M W : D) : rank (tokE M W) = max (rank M) (rank W) + 1 := by
  have a : ¬ (("token" : Str) = "seal" ∨ ("token" : Str) = "page") := by decide +kernel
  simp only [tokE, rank, if_neg a, rankL]
  omega
/-- what is known of a measure -/
structure Md (M : D) : Prop where
  t : ∃ ms, M = .tup ms
  c : cln M = true
  w : wrd M = true
  d : dep M ≤ 5
  z : sz M ≤ 30
  k : okW 40 40 0 M = true
  x : txb M = true
  r : rank M ≤ 2
  f : full M ≤ 7
  p : plk M = true
theorem wdB_ok {W : D} (h : wdB W = true) : Wd W ∧ rank W ≤ 2 ∧ full W ≤ 5 ∧ plk W = true ∧ sz W ≤ 20 ∧ okW 40 40 2 W = true := by
  simp only [wdB, Bool.and_eq_true, decide_eq_true_eq] at h
  obtain ⟨⟨⟨⟨⟨⟨⟨⟨⟨a1, a2⟩, a3⟩, a4⟩, a5⟩, a6⟩, a7⟩, a8⟩, a9⟩, a10⟩ := h
  exact ⟨⟨a1, a2, by omega, by omega, a5, a7⟩, a10, a9, a8, a4, a6⟩
theorem md0 : Md (.tup []) := ⟨⟨_, rfl⟩, rfl, rfl, by decide, by decide, by decide +kernel, rfl, by decide, by decide, rfl⟩
theorem md1 {W : D} (h : wdB W = true) : Md (.tup [.tup [.str "cpu", .int 5, W]]) := by
  obtain ⟨a, b, c, d, e, g⟩ := wdB_ok h
  refine ⟨⟨_, rfl⟩, ?_, ?_, ?_, ?_, ?_, ?_, ?_, ?_, ?_⟩
  · simp only [cln, clnL, a.c]; rfl
  · simp only [wrd, wrdL, a.w]; rfl
  · have := a.d; simp only [dep, depL]; omega
  · simp only [sz, szL]; omega
  · simp only [okW, okA]
    have h1 : txtOk "cpu" = true := by decide +kernel
    have h2 : numOk 5 = true := by decide +kernel
    rw [h1, h2, g]; rfl
  · have := a.t
    have h1 : decide (("cpu" : Str).length ≤ 1000) = true := by decide +kernel
    simp only [txb, txbL, this, h1]; rfl
  · simp only [rank, rankL]; omega
  · simp only [full, fullL]; omega
  · simp only [plk, plkL, d]; rfl
theorem tok_ok {M W : D} (hM : Md M) (hW : Wd W) (hr : rank W ≤ 36) : isTermK "token" [.str "here", M, W] = true ∧ Fit (.tup [.str "here", M, W]) := by
  obtain ⟨ms, rfl⟩ := hM.t
  constructor
  · have h1 : okW 40 40 0 (.str "here") = true := by decide +kernel
    have h2 := hM.k
    have h3 := hW.k
    have hf : formsOf "token" = some (["text", "tuple", "word"] : List Str) := by decide +kernel
    have f1 : hasF (.str "here") "text" = true := by decide +kernel
    have f2 : hasF (.tup ms) "tuple" = true := by
      unfold hasF
      rw [if_neg (by decide +kernel), if_neg (by decide +kernel), if_pos rfl]; rfl
    have f3 : hasF W "word" = true := by
      unfold hasF
      rw [if_neg (by decide +kernel), if_neg (by decide +kernel), if_neg (by decide +kernel), if_neg (by decide +kernel), if_neg (by decide +kernel)]
    unfold isTermK
    rw [hf]
    simp [partOk, h1, h2, h3, f1, f2, f3]
  · have := hM.z
    have := hW.z
    refine ⟨by simp only [sz, szL] at *; omega, txb_txl ?_⟩
    have h1 : decide (("here" : Str).length ≤ 1000) = true := by decide +kernel
    have h2 := hM.x
    simp only [txb, txbL] at *
    rw [h1, h2, hW.t]; rfl
theorem wd_tok {M W : D} (hM : Md M) (hW : Wd W) (hr : rank W ≤ 36) (ht : rank (tokE M W) ≤ 40) : Wd (tokE M W) := by
  obtain ⟨t1, t2⟩ := tok_ok hM hW hr
  have e := rank_tok M W
  refine ⟨?_, ?_, ?_, ?_, ?_, ?_⟩
  · simp only [tokE, cln, clnL, hM.c, hW.c]; rfl
  · simp only [tokE, wrd, wrdL, hM.w, hW.w, t1]; rfl
  · simp only [tokE, dep]; omega
  · have := hM.z
    have := hW.z
    rw [e]
    simp only [tokE, sz, szL]
    omega
  · simp only [okW, tokE]; exact decide_eq_true ht
  · have h1 : decide (("here" : Str).length ≤ 1000) = true := by decide +kernel
    have h2 := hM.x
    simp only [tokE, txb, txbL, h1, h2, hW.t]; rfl
/-- the core behind j steps of a turn -/
structure Sta (N C : Addr) (H : Hp) (p pr rg : Addr) (j : Int) (ys : List V) (ds : List D) (W : D) (xm : V) (M : D) (vw : V) : Prop where
  co : Co N H p pr j rg
  pg : Prg H pr
  rt : H rg = some (.tup ys)
  ia : IsA C H ys ds
  dl : ds.length = 4
  d1 : ds[1]? = some W
  wd : ∀ e ∈ ds, Wd e ∧ rank e ≤ 36
  im : Is C H xm M
  iw : Is C H vw W
theorem Prg.keep {C : Addr} {H H' : Hp} {pr : Addr} (k : Keep C H H') (h : Prg H pr) : Prg H' pr := by
  obtain ⟨i0, i1, i2, h0, h1, h2, h3⟩ := h
  exact ⟨i0, i1, i2, k.tup _ _ h0, k.tup _ _ h1, k.tup _ _ h2, k.tup _ _ h3⟩
theorem Sta.same {N C : Addr} {H H' : Hp} {p pr rg : Addr} {j : Int} {ys : List V} {ds : List D} {W : D} {xm : V} {M : D} {vw : V} (h : Sta N C H p pr rg j ys ds W xm M vw) (s : Same H H') : Sta N C H' p pr rg j ys ds W xm M vw := by
  obtain ⟨⟨dx, a⟩, b, c, d, e, f, g, i, k⟩ := h
  exact ⟨⟨dx, s _ _ a⟩, Prg.keep (Keep.of (C := C) s) b, s _ _ c, d.same s, e, f, g, i.same s, k.same s⟩
theorem regs_ok {ds : List D} (hl : ds.length = 4) (h : ∀ e ∈ ds, Wd e ∧ rank e ≤ 36) (pl : Int) : wrd (.tup [.int pl, .tup ds]) = true ∧ dep (.tup [.int pl, .tup ds]) ≤ 10 ∧ sz (.tup [.int pl, .tup ds]) ≤ 1000000 := by
  have h1 : wrdL ds = true := by
    clear hl
    induction ds with
    | nil => rfl
    | cons d ds ih => simp only [wrdL]; rw [(h d (by simp)).1.w, ih (fun e he => h e (by simp [he]))]; rfl
  have h2 : depL ds ≤ 3 := by
    clear hl h1
    induction ds with
    | nil => simp [depL]
    | cons d ds ih =>
      have := (h d (by simp)).1.d
      have := ih (fun e he => h e (by simp [he]))
      simp only [depL]; omega
  have h3 : szL ds ≤ 3000 * ds.length := by
    clear hl h1 h2
    induction ds with
    | nil => simp [szL]
    | cons d ds ih =>
      have a := (h d (by simp))
      have a1 := a.1.z
      have := ih (fun e he => h e (by simp [he]))
      simp only [szL, List.length_cons]
      have : 60 * (rank d + 1) ≤ 60 * 37 := Nat.mul_le_mul_left 60 (by omega)
      omega
  refine ⟨by simp only [wrd, wrdL, h1]; rfl, by simp only [dep, depL]; omega, by simp only [sz, szL]; omega⟩
end Hc

set_option maxHeartbeats 8000000
namespace Hc
open PySem PySem.Spec PyProof.Rows L2 Hr
abbrev rqD : D := .tup [.str "monitor", .tup [.str "read", .int 4, .int 2]]
theorem isA_set {C : Addr} {H : Hp} : ∀ {xs : List V} {ds : List D} {x : V} {d : D} (i : Nat), IsA C H xs ds → Is C H x d → IsA C H (xs.set i x) (ds.set i d)
  | _, _, _, _, _, .nil, _ => .nil
  | _, _, _, _, 0, .cons h t, g => .cons g t
  | _, _, _, _, i + 1, .cons h t, g => .cons h (isA_set i t g)
theorem rq_ok : wrd rqD = true ∧ sz rqD ≤ 1000000 ∧ dep rqD ≤ 10 := ⟨rfl, by decide, by decide⟩
abbrev skD : D := .tup [.str "stuck"]
theorem sk_ok : wrd skD = true ∧ sz skD ≤ 1000000 ∧ dep skD ≤ 10 := ⟨rfl, by decide, by decide⟩
def spLaw (K : PySem.W.Frag) : Sp := fun vs H Q _ => ∃ (a : Addr) (ns : List Int), vs = [.ref a] ∧ SqL K H a (ns.map V.int) ∧ ns.length ≤ 1000 ∧ ∀ H', Q (.bl true) H'
section
variable {P : Program} {w : World} {K : PySem.W.Frag} {mg : Str → Option Value} {base : Heap} {f : Addr} {fd : FuncData} {C N : Addr}
abbrev s_law : Stmt := top 47
theorem sc_law : FnScope ["script", "tape", "first", "measure", "core", "word", "rank", "high", "turn", "number", "kept", "told", "due"] ["script"] (C8.fnScope s_law) := C8.fnScope_by (by decide +kernel)
theorem fn_law (F : C8.Fun K "law" "law" s_law f fd) (b : Binds K fd ["script"] []) (T : Txt K mg w C) (G : CoC K mg N) (hNC : N ≠ C) (O : OwnS P w K mg base 4 C (spEqG C)) (o : Oth K C)
    (c__law_next : C8.Cal P w K mg base 1 "_law_next" spNext []) (c__law_word : C8.Cal P w K mg base 7 "_law_word" (spLw C) []) (c__law_rank : C8.Cal P w K mg base 11 "_law_rank" (spLR C 10) []) (k_Atom : C8.Mak P w K mg base 5 "Atom" C (spInit C) []) (k_Core : C8.Mak P w K mg base 1 "Core" N (spCI N) [])
    (m_request : C8.Met P w K mg base 2 N "request" (spRq N) []) (m_step : C8.Met P w K mg base 9 N "step" (spSt N C) []) :
    FnOk P w K mg base C8.CX0 17 f fd ["script"] (spLaw K) := by
  refine C8.fn0 F sc_law (fun vs H Q E h => ?_) (fun cdv A outer s H vs Q E hr h => ?_)
  · obtain ⟨a, ns, rfl, _⟩ := h; rfl
  obtain ⟨a, ns, rfl, ha, hns, q⟩ := h
  refine ⟨_, (pss_cons (ps_set (i := 1) sc_law.nd rfl (Or.inl rfl) (pe_lst (pa_cons (pe_callTy call_list_of rfl T.z_list bt_list (pa_cons (pv 0) pa_nil)) (pa_cons pe_int (pa_cons pe_int (pa_cons pe_int pa_nil))))))
      (pss_cons (ps_set (i := 2) sc_law.nd rfl (Or.inl rfl) (C8.pe_c c__law_word hr (by first | decide | omega) rfl (pa_cons (pv 1) pa_nil)))
      (pss_cons (ps_set (i := 3) sc_law.nd rfl (Or.inl rfl) (pe_ix ix_tup (pe_tup (pa_cons (pe_tup pa_nil) (pa_cons (pe_tup (pa_cons (pe_tup (pa_cons pe_str (pa_cons pe_int (pa_cons (C8.pe_c c__law_word hr (by first | decide | omega) rfl (pa_cons (pv 1) pa_nil)) pa_nil)))) pa_nil)) pa_nil))) (C8.pe_c c__law_next hr (by first | decide | omega) rfl (pa_cons (pv 1) (pa_cons pe_int pa_nil))) (fun _ _ => rfl)))
      (pss_cons (ps_set (i := 4) sc_law.nd rfl (Or.inl rfl) (C8.pe_mk k_Core hr (by first | decide | omega) rfl (pa_cons (pe_tup (pa_cons (pe_tup (pa_cons pe_str (pa_cons pe_int (pa_cons pe_int pa_nil)))) (pa_cons (pe_tup (pa_cons pe_str (pa_cons pe_int (pa_cons pe_int pa_nil)))) (pa_cons (pe_tup (pa_cons pe_str (pa_cons pe_int pa_nil))) pa_nil)))) (pa_cons pe_int (pa_cons (pe_tup (pa_cons pe_int (pa_cons (pv 2) (pa_cons pe_int (pa_cons pe_int pa_nil))))) pa_nil)))))
      (pss_cons (ps_set (i := 5) sc_law.nd rfl (Or.inl rfl) (pv 2))
      (pss_cons (ps_set (i := 6) sc_law.nd rfl (Or.inl rfl) (C8.pe_c c__law_rank hr (by first | decide | omega) rfl (pa_cons (pv 2) pa_nil)))
      (pss_cons (ps_set (i := 7) sc_law.nd rfl (Or.inl rfl) (C8.pe_c c__law_rank hr (by first | decide | omega) rfl (pa_cons (pv 3) pa_nil)))
      (pss_cons (ps_for PassesOwn.never rfl (pi_range1 rfl T.z_range (pa_cons (pe_op op_add pe_int (C8.pe_c c__law_next hr (by first | decide | omega) rfl (pa_cons (pv 1) (pa_cons pe_int pa_nil)))) pa_nil)) (pg_name (i := 8) sc_law.nd rfl (Or.inl rfl))
      (pss_cons (ps_for PassesOwn.never rfl (pi_range1 rfl T.z_range (pa_cons pe_int pa_nil)) (pg_name (i := 9) sc_law.nd rfl (Or.inl rfl))
      (pss_cons (ps_if (pt_cmpR (op_neW (n := 4) (N := 10) O o (hr.mono (by decide))) (C8.pe_mt m_request hr (by first | decide | omega) (pv 4) (pa_cons pe_int (pa_cons pe_int pa_nil))) (pe_tup (pa_cons pe_str (pa_cons (pe_tup (pa_cons pe_str (pa_cons pe_int (pa_cons pe_int pa_nil)))) pa_nil))) (nomark _)) (pss_one (ps_ret pe_bl)) pss_nil)
      (pss_cons (ps_set (i := 10) sc_law.nd rfl (Or.inl rfl) (pe_tup (pa_cons (pe_fld (pv 4) rfl) (pa_cons (pe_fld (pv 4) rfl) pa_nil))))
      (pss_cons (ps_set (i := 11) sc_law.nd rfl (Or.inl rfl) (C8.pe_mt m_step hr (by first | decide | omega) (pv 4) (pa_cons (pv 3) (pa_cons pe_str pa_nil))))
      (pss_cons (ps_set (i := 6) sc_law.nd rfl (Or.inl rfl) (pe_op op_add pe_int (pe_callB (call_max2 rfl) rfl T.z_max bt_max (pa_cons (pv 6) (pa_cons (pv 7) pa_nil)))))
      (pss_cons (ps_if (pt_cmpR op_gt (pv 6) pe_int (nomark _)) (pss_cons (ps_if (PW.pt (pw_or (pt_cmpR (op_neW (n := 4) (N := 10) O o (hr.mono (by decide))) (pv 11) (pe_tup (pa_cons pe_str pa_nil)) (nomark _)) (pw_or1 (pt_cmpR (op_neW (n := 4) (N := 10) O o (hr.mono (by decide))) (pe_tup (pa_cons (pe_fld (pv 4) rfl) (pa_cons (pe_fld (pv 4) rfl) pa_nil))) (pv 10) (nomark _))))) (pss_one (ps_ret pe_bl)) pss_nil)
      (pss_one (ps_ret (pe_cmpR (op_eqW (n := 4) (N := 10) O o (hr.mono (by decide))) (C8.pe_mt m_step hr (by first | decide | omega) (pv 4) (pa_cons (pv 3) (pa_cons pe_str pa_nil))) (pe_tup (pa_cons pe_str pa_nil)) (nomark _))))) pss_nil)
      (pss_cons (ps_set (i := 12) sc_law.nd rfl (Or.inl rfl) (C8.pe_mk k_Atom hr (by first | decide | omega) rfl (pa_cons pe_str (pa_cons (pe_tup (pa_cons pe_str (pa_cons (pv 3) (pa_cons (pv 5) pa_nil)))) pa_nil))))
      (pss_cons (ps_if (PW.pt (pw_or (pt_cmpR op_notN (pv 11) pe_non (nomark _)) (pw_or (pt_cmpR (op_neW (n := 4) (N := 10) O o (hr.mono (by decide))) (pe_ix ix_tup (pe_fld (pv 4) rfl) (pe_op op_add pe_int (pv 9)) (fun _ _ => rfl)) (pv 12) (nomark _)) (pw_or1 (pt_cmpR op_ne (pe_fld (pv 4) rfl) (pe_op op_add (pv 9) pe_int) (nomark _)))))) (pss_one (ps_ret pe_bl)) pss_nil)
      (pss_one (ps_if (pt_cmpR op_eq (pv 9) pe_int (nomark _)) (pss_one (ps_set (i := 5) sc_law.nd rfl (Or.inl rfl) (pv 12))) (pss_one (ps_set (i := 6) sc_law.nd rfl (Or.inl rfl) (pe_op op_sub (pv 6) pe_int)))))))))))))
      (pss_one (ps_if (PW.pt (pw_or (pt_cmpR op_notN (C8.pe_mt m_request hr (by first | decide | omega) (pv 4) (pa_cons pe_int (pa_cons pe_int pa_nil))) pe_non (nomark _)) (pw_or1 (pt_cmpR op_notN (C8.pe_mt m_step hr (by first | decide | omega) (pv 4) (pa_cons pe_non (pa_cons pe_str pa_nil))) pe_non (nomark _))))) (pss_one (ps_ret pe_bl)) pss_nil))))
      (pss_one (ps_ret pe_bl)))))))))), ?_⟩
  refine ⟨_, rfl, a, _, rfl, .inl ha, fun s0 hs0 => ⟨(by show 4 ≤ sizeLine; decide), fun tp htp => ?_⟩⟩
  have hs0p : s0 ≠ tp := fun z => by
    rw [← z, upd_same] at htp; cases htp
  have t0 : Tape (upd (upd H s0 (.lst (ns.map V.int))) tp (.lst [.ref s0, .int 0, .int 0, .int 5])) tp s0 := ⟨ns, 0, 0, 5, upd_same, by rw [upd_ne hs0p]; exact upd_same, fun z => hs0p z.symm, Nat.zero_le _⟩
  generalize upd (upd H s0 (.lst (ns.map V.int))) tp (.lst [.ref s0, .int 0, .int 0, .int 5]) = H1 at *
  refine ⟨_, rfl, tp, s0, rfl, t0, fun H2 xw W t2 o2 iw ⟨nw, hnw, hW⟩ => ?_⟩
  obtain ⟨wd, wr, wf, wp, wz, wk⟩ := wdB_ok (pool_ok nw hnw W hW)
  refine ⟨(by show 0 ≤ sizeLine; decide), fun u0 hu0 => ?_⟩
  have s3 := same_new (o := .tup []) hu0
  have iw := iw.same s3
  have iu0 : Is C (upd H2 u0 (.tup [])) (.ref u0) (.tup []) := .tup upd_same .nil
  have t3 := t2.same s3
  generalize upd H2 u0 (.tup []) = H3 at *
  refine ⟨_, rfl, tp, s0, rfl, t3, fun H4 x1 W1 t4 o4 i1 ⟨n1, hn1, hW1⟩ => ⟨(by show 3 ≤ sizeLine; decide), fun u1 hu1 => ?_⟩⟩
  have hb1 := pool_ok n1 hn1 W1 hW1
  have k4 := off_keep (C := C) t3 o4
  have iw := Is.keep k4 wd.c iw
  have iu0 := Is.keep k4 rfl iu0
  have s5 := same_new (o := .tup [.str "cpu", .int 5, x1]) hu1
  have iu1 : Is C (upd H4 u1 (.tup [.str "cpu", .int 5, x1])) (.ref u1) (.tup [.str "cpu", .int 5, W1]) := .tup upd_same (.cons (.str _) (.cons (.int _) (.cons (i1.same s5) .nil)))
  have iw := iw.same s5
  have iu0 := iu0.same s5
  have t5 := t4.same s5
  generalize upd H4 u1 (.tup [.str "cpu", .int 5, x1]) = H5 at *
  refine ⟨(by show 1 ≤ sizeLine; decide), fun u2 hu2 => ?_⟩
  have s6 := same_new (o := .tup [.ref u1]) hu2
  have iu2 : Is C (upd H5 u2 (.tup [.ref u1])) (.ref u2) (.tup [.tup [.str "cpu", .int 5, W1]]) := .tup upd_same (.cons (iu1.same s6) .nil)
  have iw := iw.same s6
  have iu0 := iu0.same s6
  have t6 := t5.same s6
  generalize upd H5 u2 (.tup [.ref u1]) = H6 at *
  refine ⟨(by show 2 ≤ sizeLine; decide), fun u3 hu3 => ?_⟩
  have s7 := same_new (o := .tup [.ref u0, .ref u2]) hu3
  have e3 : (upd H6 u3 (.tup [.ref u0, .ref u2])) u3 = some (.tup [.ref u0, .ref u2]) := upd_same
  have iw := iw.same s7
  have iu0 := iu0.same s7
  have iu2 := iu2.same s7
  have t7 := t6.same s7
  generalize upd H6 u3 (.tup [.ref u0, .ref u2]) = H7 at *
  refine ⟨_, rfl, tp, s0, 2, rfl, t7, by decide, by decide, fun H8 r t8 o8 g0 g1 => ?_⟩
  have k8 := off_keep (C := C) t7 o8
  have e3 := k8.tup _ _ e3
  have hm1 := md1 hb1
  have iw := Is.keep k8 wd.c iw
  have iu0 := Is.keep k8 rfl iu0
  have iu2 := Is.keep k8 hm1.c iu2
  obtain ⟨xm, M, hM, im, hat⟩ : ∃ xm M, Md M ∧ Is C H8 xm M ∧ atI [V.ref u0, .ref u2] r = some xm := by
    by_cases c0 : r = 0
    · subst c0; exact ⟨_, _, md0, iu0, atI_nat (j := 0) rfl⟩
    · obtain rfl : r = 1 := by omega
      exact ⟨_, _, hm1, iu2, atI_nat (j := 1) rfl⟩
  refine ⟨u3, _, r, _, rfl, rfl, SqT.of e3, hat, ?_⟩
  clear iu0 iu2 hm1 hb1 i1 hat e3 k8 k4
  -- the core
  refine ⟨(by show 3 ≤ sizeLine; decide), fun p0 hp0 => ?_⟩
  have s9 := same_new (o := .tup [.str "token", .int 1, .int 1]) hp0
  have f0 : (upd H8 p0 (.tup [.str "token", .int 1, .int 1])) p0 = some (.tup [.str "token", .int 1, .int 1]) := upd_same
  generalize upd H8 p0 (.tup [.str "token", .int 1, .int 1]) = H9 at *
  refine ⟨(by show 3 ≤ sizeLine; decide), fun p1 hp1 => ?_⟩
  have sA := same_new (o := .tup [.str "token", .int 2, .int 1]) hp1
  have f1 : (upd H9 p1 (.tup [.str "token", .int 2, .int 1])) p1 = some (.tup [.str "token", .int 2, .int 1]) := upd_same
  have f0 := sA _ _ f0
  have st := s9.trans sA
  generalize upd H9 p1 (.tup [.str "token", .int 2, .int 1]) = H10 at *
  refine ⟨(by show 2 ≤ sizeLine; decide), fun p2 hp2 => ?_⟩
  have sB := same_new (o := .tup [.str "jump", .int 0]) hp2
  have f2 : (upd H10 p2 (.tup [.str "jump", .int 0])) p2 = some (.tup [.str "jump", .int 0]) := upd_same
  have f0 := sB _ _ f0
  have f1 := sB _ _ f1
  have st := st.trans sB
  generalize upd H10 p2 (.tup [.str "jump", .int 0]) = H11 at *
  refine ⟨(by show 3 ≤ sizeLine; decide), fun pr hpr => ?_⟩
  have sC := same_new (o := .tup [.ref p0, .ref p1, .ref p2]) hpr
  have pg : Prg (upd H11 pr (.tup [.ref p0, .ref p1, .ref p2])) pr := ⟨p0, p1, p2, upd_same, sC _ _ f0, sC _ _ f1, sC _ _ f2⟩
  have st := st.trans sC
  clear f0 f1 f2 sA sB sC s9 hp0 hp1 hp2
  generalize upd H11 pr (.tup [.ref p0, .ref p1, .ref p2]) = H12 at *
  refine ⟨_, rfl, (by show 4 ≤ sizeLine; decide), fun rg hrg => ?_⟩
  have sD := same_new (o := .tup [.int 0, xw, .int 0, .int 0]) hrg
  have erg : (upd H12 rg (.tup [.int 0, xw, .int 0, .int 0])) rg = some (.tup [.int 0, xw, .int 0, .int 0]) := upd_same
  have pg := Prg.keep (Keep.of (C := C) sD) pg
  have st := st.trans sD
  have iw := iw.same st
  have im := im.same st
  have t13 := t8.same st
  generalize upd H12 rg (.tup [.int 0, xw, .int 0, .int 0]) = H13 at *
  intro co dx hco hdx hne
  have sE : Same H13 (upd (upd H13 dx (.own co)) co (.ins N dx [])) := same_put (same_new hdx) hco
  refine ⟨co, dx, pr, 0, rg, rfl, upd_same, fun H14 c14 b14 => ⟨rfl, ?_⟩⟩
  have s14 : Same H13 H14 := fun b u e => b14 b u (sE _ _ e) (ne_of_none e hco)
  have wi0 : Wd (.int 0) ∧ rank (.int 0) ≤ 36 := ⟨⟨rfl, rfl, by decide, by decide, by decide +kernel, rfl⟩, by decide⟩
  have S0 : Sta N C H14 co pr rg 0 [.int 0, xw, .int 0, .int 0] [.int 0, W, .int 0, .int 0] W xm M xw := ⟨c14, Prg.keep (Keep.of (C := C) s14) pg, s14 _ _ erg, .cons (.int _) (.cons (iw.same s14) (.cons (.int _) (.cons (.int _) .nil))), rfl, rfl, by
    intro e he
    simp only [List.mem_cons, List.not_mem_nil, or_false] at he
    rcases he with rfl | rfl | rfl | rfl
    · exact wi0
    · exact ⟨wd, by omega⟩
    · exact wi0
    · exact wi0, im.same s14, iw.same s14⟩
  have t14 := t13.same s14
  clear pg erg st iw im t13 s14 sE b14 c14 hco hdx hne sD t8 o8 hrg
  refine ⟨_, rfl, _, rfl, xw, W, rfl, S0.iw, by omega, by omega, wp, fun H15 s15 => ?_⟩
  have mz := hM.z
  have mf := hM.f
  refine ⟨_, rfl, xm, M, rfl, S0.im.same s15, by omega, by omega, hM.p, fun H16 s16 => ?_⟩
  have S0 := (S0.same s15).same s16
  have t16 := (t14.same s15).same s16
  refine ⟨_, rfl, tp, s0, 56, rfl, t16, by decide, by decide, fun H17 r2 t17 o17 g2 g3 => ⟨5, r2, rfl, rfl, 5 + r2, rfl, by omega, by omega, ?_⟩⟩
  have k17 := off_keep (C := C) t16 o17
  have S0 : Sta N C H17 co pr rg 0 [.int 0, xw, .int 0, .int 0] [.int 0, W, .int 0, .int 0] W xm M xw := by
    obtain ⟨⟨dx, a⟩, b, c, d, e, f, g, i, k⟩ := S0
    have ntp : co ≠ tp := fun z => by
      obtain ⟨_, _, _, _, h, _⟩ := t16
      rw [z, h] at a; cases a
    exact ⟨⟨dx, o17 _ _ a ntp⟩, Prg.keep k17 b, k17.tup _ _ c, IsA.keep k17 (clnL_iff.mpr fun e he => (g e he).1.c) d, e, f, g, Is.keep k17 hM.c i, Is.keep k17 wd.c k⟩
  refine for_it (walk_range (lo := 0) (n := (5 + r2).toNat)) (fun i σ H' => ∃ rg ys ds W vw v8 v9 v10 v11 v12, σ = [some (.ref a), some (.ref tp), some xw, some xm, some (.ref co), some vw, some (.int ((rank W : Nat) : Int)), some (.int ((rank M : Nat) : Int)), v8, v9, v10, v11, v12] ∧ Sta N C H' co pr rg 0 ys ds W xm M vw) ⟨rg, _, _, W, xw, none, none, none, none, none, rfl, S0⟩ (fun _ _ _ _ _ => trivial) ?_ ?_
  · clear S0 wd wr wf wp wz wk t16 t17 k17 o17 t14 s15 s16
    rintro i y σ H4x H4 hi ⟨rg, ys, ds, W, vw, v8, v9, v10, v11, v12, rfl, S0⟩ ⟨rfl, rfl⟩
    refine ⟨2, rfl, by decide, by decide, ?_⟩
    refine for_it (walk_range (lo := 0) (n := 2)) (fun j σ H' => ∃ rg ys ds W vw v9 v10 v11 v12, σ = [some (.ref a), some (.ref tp), some xw, some xm, some (.ref co), some vw, some (.int ((rank W : Nat) : Int)), some (.int ((rank M : Nat) : Int)), some (.int (0 + (i : Int))), v9, v10, v11, v12] ∧ Sta N C H' co pr rg (j : Int) ys ds W xm M vw ∧ (1 ≤ j → rank M ≤ rank W)) ⟨rg, ys, ds, W, vw, v9, v10, v11, v12, rfl, S0, fun z => absurd z (by decide)⟩ (fun _ _ _ _ _ => trivial) ?_ ?_
    · clear S0
      rintro j y σ H5x H5 hj ⟨rg, ys, ds, W, vw, v9, v10, v11, v12, rfl, S, hge⟩ ⟨rfl, rfl⟩
      obtain ⟨⟨dx, hp⟩, hpg, hrt, hia, hdl, hd1, hwd, him, hiw⟩ := id S
      have hyl := hia.len
      obtain ⟨hW, hr36⟩ := hwd W (List.mem_of_getElem? hd1)
      obtain ⟨xw1, hxw1, ixw1⟩ : ∃ xw1, ys[1]? = some xw1 ∧ Is C H5 xw1 W := by
        have h1 : (1 : Nat) < ys.length := by omega
        obtain ⟨e, he, ie⟩ := hia.at (List.getElem?_eq_getElem h1)
        rw [hd1] at he
        cases he
        exact ⟨_, List.getElem?_eq_getElem h1, ie⟩
      obtain ⟨htm, hft⟩ := tok_ok hM hW hr36
      refine ⟨_, rfl, co, dx, _, rfl, hp, rfl, co, pr, (j : Int), rg, rfl, ⟨dx, hp⟩, hpg, by omega, by omega, fun hl H6 qa qb ea eb s6 => ?_, fun h => absurd h (by omega)⟩
      refine ⟨(by show 3 ≤ sizeLine; decide), fun b2 hb2 => ⟨(by show 2 ≤ sizeLine; decide), fun a2 ha2 => ?_⟩⟩
      have s7 := same_new (o := .tup [.str "read", .int 4, .int 2]) hb2
      have eb2 : (upd H6 b2 (.tup [.str "read", .int 4, .int 2])) b2 = some (.tup [.str "read", .int 4, .int 2]) := upd_same
      generalize upd H6 b2 (.tup [.str "read", .int 4, .int 2]) = H7 at *
      have s8 := same_new (o := .tup [.str "monitor", .ref b2]) ha2
      have iq1 : Is C (upd H7 a2 (.tup [.str "monitor", .ref b2])) (.ref a2) rqD := .tup upd_same (.cons (.str _) (.cons (.tup (s8 _ _ eb2) (.cons (.str _) (.cons (.int _) (.cons (.int _) .nil)))) .nil))
      have s78 := s7.trans s8
      have iq2 : Is C (upd H7 a2 (.tup [.str "monitor", .ref b2])) (.ref qa) rqD := .tup (s78 _ _ ea) (.cons (.str _) (.cons (.tup (s78 _ _ eb) (.cons (.str _) (.cons (.int _) (.cons (.int _) .nil)))) .nil))
      have s5 := s6.trans s78
      generalize upd H7 a2 (.tup [.str "monitor", .ref b2]) = H8 at *
      refine ⟨rqD, rqD, ⟨iq2, iq1, rq_ok.1, rq_ok.1, rq_ok.2.1, rq_ok.2.1⟩, rq_ok.2.2, fun H9 s9 => ⟨_, rfl, bF (by rw [eqD_refl rq_ok.1]; rfl) ?_⟩⟩
      have S := S.same (s5.trans s9)
      have ixw1 := ixw1.same (s5.trans s9)
      have hp := (s5.trans s9) _ _ hp
      have hrt := S.rt
      clear s5 s6 s7 s8 s78 s9 iq1 iq2 ea eb eb2 hb2 ha2 hpg hia him hiw
      unfold tNext
      dsimp only
      refine ⟨_, rfl, co, N, dx, _, _, rfl, hp, G.cl, G.n2, rfl, _, rfl, co, N, dx, _, _, rfl, hp, G.cl, G.n3, rfl, (by show 2 ≤ sizeLine; decide), fun kt hkt => ?_⟩
      have s10 := same_new (o := .tup [.int (j : Int), .ref rg]) hkt
      have ekt : (upd H9 kt (.tup [.int (j : Int), .ref rg])) kt = some (.tup [.int (j : Int), .ref rg]) := upd_same
      have S := S.same s10
      have ixw1 := ixw1.same s10
      have hp := s10 _ _ hp
      have hrt := S.rt
      generalize upd H9 kt (.tup [.int (j : Int), .ref rg]) = H10 at *
      clear s10 hkt
      have eR : (1 : Int) + (if (rank M : Int) > (rank W : Int) then (rank M : Int) else (rank W : Int)) = ((rank (tokE M W) : Nat) : Int) := by
        rw [rank_tok]; split <;> omega
      refine ⟨_, rfl, co, dx, _, rfl, hp, rfl, _, rfl, co, xm, pr, (j : Int), rg, rfl, ⟨dx, hp⟩, S.pg, .inr ⟨by omega, by omega, ys, xw1, M, W, hrt, by omega, hxw1, S.im, ixw1, hM.c, hW.c, htm, hft, fun hle H11 rg' ta co' r' ia' b' => ?_, fun hgt H11 tt s11 ett => ?_⟩⟩
      · refine ⟨_, rfl, _, rfl, _, _, rfl, _, _, rfl, rfl, ?_⟩
        dsimp only
        rw [eR]
        have hwT := wd_tok hM hW hr36 (by omega)
        have k11 := but1_keep (C := C) hp hNC b'
        obtain ⟨dx', hp'⟩ := co'
        have pg' := Prg.keep k11 S.pg
        have im' := Is.keep k11 hM.c S.im
        have iw' := Is.keep k11 hW.c S.iw
        have ixw' := Is.keep k11 hW.c ixw1
        have ia2 := IsA.keep k11 (clnL_iff.mpr fun e he => (S.wd e he).1.c) S.ia
        refine ⟨_, rfl, _, _, rfl, rfl, _, rfl, bF (decide_eq_false (by omega)) ?_⟩
        dsimp only
        refine ⟨_, rfl, _, rfl, (by show 3 ≤ sizeLine; decide), fun t12 ht12 => ?_⟩
        have s12 := same_new (o := .tup [.str "here", xm, vw]) ht12
        have it12 : Is C (upd H11 t12 (.tup [.str "here", xm, vw])) (.ref t12) (.tup [.str "here", M, W]) := .tup upd_same (.cons (.str _) (.cons (im'.same s12) (.cons (iw'.same s12) .nil)))
        generalize upd H11 t12 (.tup [.str "here", xm, vw]) = H12 at *
        intro du ddx hdu hddx hdne
        have s13 : Same H12 (upd (upd H12 ddx (.own du)) du (.ins C ddx [])) := same_put (same_new hddx) hdu
        refine ⟨du, ddx, "token", t12, _, rfl, upd_same, it12.same s13, htm, by unfold mostR; rw [if_pos rfl]; exact hle, hft, fun H14 hat oth => ⟨rfl, ?_⟩⟩
        have s14 : Same H12 H14 := fun b v e => oth b v (s13 _ _ e) (ne_of_none e hdu)
        have idu : Is C H14 (.ref du) (tokE M W) := at_of hat (it12.same s14)
        have s15 := s12.trans s14
        have hmx := rank_tok M W
        have jj : ((j : Int) + 1).toNat = j + 1 := by omega
        rw [jj] at r'
        have hyat : (ys.set (j + 1) (.ref ta))[j + 1]? = some (.ref ta) := by rw [List.getElem?_set_self (by omega)]
        have kS := Keep.of (C := C) s15
        have iaS : IsA C H14 (ys.set (j + 1) (.ref ta)) (ds.set (j + 1) (tokE M W)) := isA_set (j + 1) (ia2.same s15) (ia'.same s15)
        have wdS : ∀ e ∈ ds.set (j + 1) (tokE M W), Wd e ∧ rank e ≤ 36 := fun e he => by
          rcases List.mem_or_eq_of_mem_set he with h | h
          · exact hwd e h
          · rw [h]; exact ⟨hwT, hle⟩
        have r14 := s15 _ _ r'
        have p14 := s15 _ _ hp'
        have pg14 := Prg.keep kS pg'
        have im14 := im'.same s15
        have iw14 := iw'.same s15
        have ita14 := ia'.same s15
        clear hat oth s13 s14 it12 hdu hddx hdne ht12 s12
        refine ⟨_, rfl, rfl, _, rfl, bF rfl ?_⟩
        refine ⟨_, rfl, co, N, dx', _, _, rfl, p14, G.cl, G.n3, rfl, _, rfl, _, _, rfl, rfl, rg', _, 1 + (0 + (j : Int)), _, rfl, rfl, SqT.of r14, (show atI _ (1 + (0 + (j : Int))) = _ by rw [show (1 : Int) + (0 + (j : Int)) = ((j + 1 : Nat) : Int) by omega]; exact atI_nat hyat), _, rfl, ?_⟩
        have zT : sz (tokE M W) ≤ 1000000 := by
          have a1 := hwT.z
          have : 60 * (rank (tokE M W) + 1) ≤ 60 * 37 := Nat.mul_le_mul_left 60 (by omega)
          omega
        refine ⟨tokE M W, tokE M W, ⟨ita14, idu, hwT.w, hwT.w, zT, zT⟩, Nat.le_trans hwT.d (by decide), fun H15 s16 => ⟨_, rfl, bF (by rw [eqD_refl hwT.w]; rfl) ?_⟩⟩
        refine ⟨_, rfl, co, N, dx', _, _, rfl, s16 _ _ p14, G.cl, G.n2, rfl, _, rfl, _, _, rfl, rfl, rfl, _, rfl, bF (by simp) ?_⟩
        dsimp only
        have kS2 := Keep.of (C := C) s16
        have hidx : (ds.set (j + 1) (tokE M W)).length = 4 := by rw [List.length_set]; exact hdl
        by_cases cj : j = 0
        · subst cj
          refine ⟨_, rfl, rfl, _, rfl, ifT rfl ⟨_, rfl, rg', _, _, tokE M W, .ref du, _, _, _, _, rfl, ⟨⟨dx', s16 _ _ p14⟩, Prg.keep kS2 pg14, s16 _ _ r14, iaS.same s16, hidx, by rw [List.getElem?_set_self (by omega)], wdS, im14.same s16, idu.same s16⟩, fun _ => by omega⟩⟩
        · obtain rfl : j = 1 := by omega
          have hge1 := hge (by decide)
          have eW : ((rank (tokE M W) : Nat) : Int) - 1 = ((rank W : Nat) : Int) := by omega
          refine ⟨_, rfl, rfl, _, rfl, ifF (fun z => absurd (V.int.inj z) (by decide)) ⟨_, rfl, _, _, rfl, rfl, ?_⟩⟩
          dsimp only
          rw [eW]
          exact ⟨rg', _, _, W, vw, _, _, _, _, rfl, ⟨⟨dx', s16 _ _ p14⟩, Prg.keep kS2 pg14, s16 _ _ r14, iaS.same s16, hidx, by rw [List.getElem?_set_ne (by decide)]; exact hd1, wdS, im14.same s16, iw14.same s16⟩, fun _ => hge1⟩
      · refine ⟨_, rfl, _, rfl, _, _, rfl, _, _, rfl, rfl, ?_⟩
        dsimp only
        rw [eR]
        have S := S.same s11
        have hp := s11 _ _ hp
        have ixw1 := ixw1.same s11
        have ekt := s11 _ _ ekt
        refine ⟨_, rfl, _, _, rfl, rfl, _, rfl, bT (decide_eq_true (by omega)) ?_⟩
        refine ⟨_, rfl, (by show 1 ≤ sizeLine; decide), fun t2 ht2 => ?_⟩
        have s12 := same_new (o := .tup [.str "stuck"]) ht2
        refine ⟨skD, skD, ⟨.tup (s12 _ _ ett) (.cons (.str _) .nil), .tup upd_same (.cons (.str _) .nil), sk_ok.1, sk_ok.1, sk_ok.2.1, sk_ok.2.1⟩, sk_ok.2.2, fun H13 s13 => ⟨_, rfl, bF (by rw [eqD_refl sk_ok.1]; rfl) ?_⟩⟩
        have sA := s12.trans s13
        have S := S.same sA
        have hp := sA _ _ hp
        have ixw1 := ixw1.same sA
        have ekt := sA _ _ ekt
        refine ⟨_, rfl, co, N, dx, _, _, rfl, hp, G.cl, G.n2, rfl, _, rfl, co, N, dx, _, _, rfl, hp, G.cl, G.n3, rfl, (by show 2 ≤ sizeLine; decide), fun k2 hk2 => ?_⟩
        have s14 := same_new (o := .tup [.int (j : Int), .ref rg]) hk2
        obtain ⟨o1, o2, o3⟩ := regs_ok hdl hwd (j : Int)
        have S := S.same s14
        have hp := s14 _ _ hp
        have ixw1 := ixw1.same s14
        have irg := Is.tup S.rt S.ia
        refine ⟨_, rfl, .tup [.int (j : Int), .tup ds], .tup [.int (j : Int), .tup ds], ⟨.tup upd_same (.cons (.int _) (.cons irg .nil)), .tup (s14 _ _ ekt) (.cons (.int _) (.cons irg .nil)), o1, o1, o3, o3⟩, o2, fun H15 s15 => ⟨_, rfl, bF (by rw [eqD_refl o1]; rfl) ?_⟩⟩
        have S := S.same s15
        have hp := s15 _ _ hp
        have ixw1 := ixw1.same s15
        dsimp only
        refine ⟨_, rfl, co, dx, _, rfl, hp, rfl, _, rfl, co, xm, pr, (j : Int), rg, rfl, ⟨dx, hp⟩, S.pg, .inr ⟨by omega, by omega, ys, xw1, M, W, S.rt, by omega, hxw1, S.im, ixw1, hM.c, hW.c, htm, hft, fun hle => absurd hle (by omega), fun _ H16 t4 s16 e4 => ?_⟩⟩
        refine ⟨(by show 1 ≤ sizeLine; decide), fun t5 ht5 => ?_⟩
        have s17 := same_new (o := .tup [.str "stuck"]) ht5
        refine ⟨skD, skD, ⟨.tup (s17 _ _ e4) (.cons (.str _) .nil), .tup upd_same (.cons (.str _) .nil), sk_ok.1, sk_ok.1, sk_ok.2.1, sk_ok.2.1⟩, sk_ok.2.2, fun H18 s18 => ?_⟩
        rw [eqD_refl sk_ok.1]
        exact q H18
    · rintro σ H5 ⟨rg, ys, ds, W, vw, v9, v10, v11, v12, rfl, S, hge⟩
      obtain ⟨⟨dx, hp⟩, hpg, hrt, hia, hdl, hd1, hwd, him, hiw⟩ := id S
      refine ⟨_, rfl, co, dx, _, rfl, hp, rfl, co, pr, 2, rg, rfl, ⟨dx, hp⟩, hpg, by omega, by omega, fun h => absurd h (by omega), fun _ H6 s6 => ?_⟩
      refine ⟨rfl, _, rfl, bF rfl ?_⟩
      have S := S.same s6
      have hp := s6 _ _ hp
      refine ⟨_, rfl, co, dx, _, rfl, hp, rfl, co, .non, pr, 2, rg, rfl, ⟨dx, hp⟩, S.pg, .inl ⟨rfl, fun H7 c7 b7 => ?_⟩⟩
      refine ⟨rfl, _, rfl, bF rfl ?_⟩
      have k7 := but1_keep (C := C) hp hNC b7
      have hne : rg ≠ co := fun z => by rw [← z, S.rt] at hp; cases hp
      exact ⟨rg, ys, ds, W, vw, _, _, _, _, _, rfl, ⟨c7, Prg.keep k7 S.pg, k7.tup _ _ S.rt, IsA.keep k7 (clnL_iff.mpr fun e he => (S.wd e he).1.c) S.ia, S.dl, S.d1, S.wd, Is.keep k7 hM.c S.im, Is.keep k7 (hwd W (List.mem_of_getElem? hd1)).1.c S.iw⟩⟩
  · rintro σ H5 ⟨rg, ys, ds, W, vw, v8, v9, v10, v11, v12, rfl, S0⟩
    exact q H5
end
end Hc

namespace Hc
open PySem PySem.Spec PyProof.Rows L2 Hr
theorem all_mk {l : PySem.W.OpenLaw} {w : World} {K : PySem.W.Frag} {h : Heap} {mg : Str → Option Value} {fa C Cr N E0 Fo tt1 tt2 tt3 tt4 tt5  f1 f2 f3 f4 f5 f6 f7 f8 f9 f10 f11 f12 f13 f14 f15 f16 f17 f18 f19 f20 f21 f22 f23 f24 f25 f26 f27 : Addr} (X : K.In h) (G : h.Ns mainGlobals mg) (hfa : mg "law" = some (.ref fa))
    {od1 od2 od3 od4 od5 od6 od7 od8 od9 od10 od11 od12 od13 od14 od15 od16 od17 od18 od19 od20 od21 od22 od23 od24 od25 od26 od27 an1 an2 an3 an4 an5 an6 an7 an8 an9 an10 an11 an12 an13 an14 an15 an16 an17 an18 an19 an20 an21 an22 an23 an24 an25 an26 an27 : Option Addr} {sl1 sl2 sl3 sl4 sl5 sl6 sl7 sl8 sl9 sl10 sl11 sl12 sl13 sl14 sl15 sl16 sl17 sl18 sl19 sl20 sl21 sl22 sl23 sl24 sl25 sl26 sl27 : Array (Option Value)} {oc1 oc2 oc3 oc4 oc5 oc6 oc7 oc8 oc9 oc10 oc11 oc12 oc13 oc14 oc15 oc16 oc17 oc18 oc19 oc20 oc21 oc22 oc23 oc24 oc25 oc26 oc27 kV1 kV2 kV3 kV4 kV5 kV6 kV7 kV8 kV9 kV10 kV11 kV12 kV13 kV14 kV15 kV16 kV17 kV18 kV19 kV20 kV21 kV22 kV23 kV24 kV25 kV26 kV27 dc1 dc2 dc3 dc4 dc5 dc6 dc7 dc8 dc9 dc10 dc11 dc12 dc13 dc14 dc15 dc16 dc17 dc18 dc19 dc20 dc21 dc22 dc23 dc24 dc25 dc26 dc27 pm1 pm2 pm3 pm4 pm5 pm6 pm7 pm8 pm9 pm10 pm11 pm12 pm13 pm14 pm15 pm16 pm17 pm18 pm19 pm20 pm21 pm22 pm23 pm24 pm25 pm26 pm27 cd1 cd2 cd3 cd4 cd5 cd6 cd7 cd8 cd9 cd10 cd11 cd12 cd13 cd14 cd15 cd16 cd17 cd18 cd19 cd20 cd21 cd22 cd23 cd24 cd25 cd26 cd27 ct1 ct2 ct3 ct4 ct5 ct6 ct7 ct8 ct9 ct10 ct11 ct12 ct13 ct14 ct15 ct16 ct17 ct18 ct19 ct20 ct21 ct22 ct23 ct24 ct25 ct26 ct27 : Value}
    {tLEAST tGREATEST tMOST_CHARACTERS tMOST_DEEP tMOST_RANK tMOST_RANK_HOST tGRANULES tWORDS tPAGES t_MEASURE : Tok} {esF  : Array DictEntry} {nF  : Nat}
    {utt1_0 utt1_1 utt1_2 utt2_0 utt2_1 utt3_0 utt3_1 utt3_2 utt3_3 utt4_0 utt4_1 utt4_2 utt4_3 utt5_0 utt5_1 utt5_2 utt5_3 utt5_4 utt5_5 : Tok} {ntt1 ntt2 ntt3 ntt4 ntt5 : Nat} {dtt1 dtt2 dtt3 dtt4 dtt5 : Option Addr} {stt1 stt2 stt3 stt4 stt5 : Array (Option Value)}
    (a1 : PySem.W.nsIn K mainGlobals "is_number" = some (some (.ref f1)))
    (l1 : K.lookup f1 = some ⟨oc1, od1, .func (PySem.W.fnOf "is_number" "is_number" (C8.fnArgs s_is_number) (C8.fnBody s_is_number) (C8.fnScope s_is_number) .none kV1 dc1 pm1 an1 cd1 ct1), sl1⟩)
    (c1 : PySem.W.codeIn K cd1 "is_number" = true)
    (k1 : PySem.W.keepIn K (.ref f1) = true)
    (a2 : PySem.W.nsIn K mainGlobals "is_text" = some (some (.ref f2)))
    (l2 : K.lookup f2 = some ⟨oc2, od2, .func (PySem.W.fnOf "is_text" "is_text" (C8.fnArgs s_is_text) (C8.fnBody s_is_text) (C8.fnScope s_is_text) .none kV2 dc2 pm2 an2 cd2 ct2), sl2⟩)
    (c2 : PySem.W.codeIn K cd2 "is_text" = true)
    (k2 : PySem.W.keepIn K (.ref f2) = true)
    (a3 : PySem.W.nsIn K mainGlobals "_is_within" = some (some (.ref f3)))
    (l3 : K.lookup f3 = some ⟨oc3, od3, .func (PySem.W.fnOf "_is_within" "_is_within" (C8.fnArgs s__is_within) (C8.fnBody s__is_within) (C8.fnScope s__is_within) .none kV3 dc3 pm3 an3 cd3 ct3), sl3⟩)
    (c3 : PySem.W.codeIn K cd3 "_is_within" = true)
    (k3 : PySem.W.keepIn K (.ref f3) = true)
    (a4 : PySem.W.nsIn K mainGlobals "is_word" = some (some (.ref f4)))
    (l4 : K.lookup f4 = some ⟨oc4, od4, .func (PySem.W.fnOf "is_word" "is_word" (C8.fnArgs s_is_word) (C8.fnBody s_is_word) (C8.fnScope s_is_word) .none kV4 dc4 pm4 an4 cd4 ct4), sl4⟩)
    (c4 : PySem.W.codeIn K cd4 "is_word" = true)
    (k4 : PySem.W.keepIn K (.ref f4) = true)
    (a5 : PySem.W.nsIn K mainGlobals "_places_of_atoms" = some (some (.ref f5)))
    (l5 : K.lookup f5 = some ⟨oc5, od5, .func (PySem.W.fnOf "_places_of_atoms" "_places_of_atoms" (C8.fnArgs s__places_of_atoms) (C8.fnBody s__places_of_atoms) (C8.fnScope s__places_of_atoms) .none kV5 dc5 pm5 an5 cd5 ct5), sl5⟩)
    (c5 : PySem.W.codeIn K cd5 "_places_of_atoms" = true)
    (k5 : PySem.W.keepIn K (.ref f5) = true)
    (a6 : PySem.W.nsIn K mainGlobals "rank_of" = some (some (.ref f6)))
    (l6 : K.lookup f6 = some ⟨oc6, od6, .func (PySem.W.fnOf "rank_of" "rank_of" (C8.fnArgs s_rank_of) (C8.fnBody s_rank_of) (C8.fnScope s_rank_of) .none kV6 dc6 pm6 an6 cd6 ct6), sl6⟩)
    (c6 : PySem.W.codeIn K cd6 "rank_of" = true)
    (k6 : PySem.W.keepIn K (.ref f6) = true)
    (a7 : PySem.W.nsIn K mainGlobals "_rank_of_atom" = some (some (.ref f7)))
    (l7 : K.lookup f7 = some ⟨oc7, od7, .func (PySem.W.fnOf "_rank_of_atom" "_rank_of_atom" (C8.fnArgs s__rank_of_atom) (C8.fnBody s__rank_of_atom) (C8.fnScope s__rank_of_atom) .none kV7 dc7 pm7 an7 cd7 ct7), sl7⟩)
    (c7 : PySem.W.codeIn K cd7 "_rank_of_atom" = true)
    (k7 : PySem.W.keepIn K (.ref f7) = true)
    (a8 : PySem.W.nsIn K mainGlobals "_most_rank" = some (some (.ref f8)))
    (l8 : K.lookup f8 = some ⟨oc8, od8, .func (PySem.W.fnOf "_most_rank" "_most_rank" (C8.fnArgs s__most_rank) (C8.fnBody s__most_rank) (C8.fnScope s__most_rank) .none kV8 dc8 pm8 an8 cd8 ct8), sl8⟩)
    (c8 : PySem.W.codeIn K cd8 "_most_rank" = true)
    (k8 : PySem.W.keepIn K (.ref f8) = true)
    (a9 : PySem.W.nsIn K mainGlobals "_has_form" = some (some (.ref f9)))
    (l9 : K.lookup f9 = some ⟨oc9, od9, .func (PySem.W.fnOf "_has_form" "_has_form" (C8.fnArgs s__has_form) (C8.fnBody s__has_form) (C8.fnScope s__has_form) .none kV9 dc9 pm9 an9 cd9 ct9), sl9⟩)
    (c9 : PySem.W.codeIn K cd9 "_has_form" = true)
    (k9 : PySem.W.keepIn K (.ref f9) = true)
    (a10 : PySem.W.nsIn K mainGlobals "_is_term" = some (some (.ref f10)))
    (l10 : K.lookup f10 = some ⟨oc10, od10, .func (PySem.W.fnOf "_is_term" "_is_term" (C8.fnArgs s__is_term) (C8.fnBody s__is_term) (C8.fnScope s__is_term) .none kV10 dc10 pm10 an10 cd10 ct10), sl10⟩)
    (c10 : PySem.W.codeIn K cd10 "_is_term" = true)
    (k10 : PySem.W.keepIn K (.ref f10) = true)
    (a11 : PySem.W.nsIn K mainGlobals "_are_equal" = some (some (.ref f11)))
    (l11 : K.lookup f11 = some ⟨oc11, od11, .func (PySem.W.fnOf "_are_equal" "_are_equal" (C8.fnArgs s__are_equal) (C8.fnBody s__are_equal) (C8.fnScope s__are_equal) .none kV11 dc11 pm11 an11 cd11 ct11), sl11⟩)
    (c11 : PySem.W.codeIn K cd11 "_are_equal" = true)
    (k11 : PySem.W.keepIn K (.ref f11) = true)
    (a12 : PySem.W.nsIn K mainGlobals "token_of" = some (some (.ref f12)))
    (l12 : K.lookup f12 = some ⟨oc12, od12, .func (PySem.W.fnOf "token_of" "token_of" (C8.fnArgs s_token_of) (C8.fnBody s_token_of) (C8.fnScope s_token_of) .none kV12 dc12 pm12 an12 cd12 ct12), sl12⟩)
    (c12 : PySem.W.codeIn K cd12 "token_of" = true)
    (k12 : PySem.W.keepIn K (.ref f12) = true)
    (a13 : PySem.W.nsIn K mainGlobals "_law_next" = some (some (.ref f13)))
    (l13 : K.lookup f13 = some ⟨oc13, od13, .func (PySem.W.fnOf "_law_next" "_law_next" (C8.fnArgs s__law_next) (C8.fnBody s__law_next) (C8.fnScope s__law_next) .none kV13 dc13 pm13 an13 cd13 ct13), sl13⟩)
    (c13 : PySem.W.codeIn K cd13 "_law_next" = true)
    (k13 : PySem.W.keepIn K (.ref f13) = true)
    (a14 : PySem.W.nsIn K mainGlobals "_law_word" = some (some (.ref f14)))
    (l14 : K.lookup f14 = some ⟨oc14, od14, .func (PySem.W.fnOf "_law_word" "_law_word" (C8.fnArgs s__law_word) (C8.fnBody s__law_word) (C8.fnScope s__law_word) .none kV14 dc14 pm14 an14 cd14 ct14), sl14⟩)
    (c14 : PySem.W.codeIn K cd14 "_law_word" = true)
    (k14 : PySem.W.keepIn K (.ref f14) = true)
    (a15 : PySem.W.nsIn K mainGlobals "_law_rank" = some (some (.ref f15)))
    (l15 : K.lookup f15 = some ⟨oc15, od15, .func (PySem.W.fnOf "_law_rank" "_law_rank" (C8.fnArgs s__law_rank) (C8.fnBody s__law_rank) (C8.fnScope s__law_rank) .none kV15 dc15 pm15 an15 cd15 ct15), sl15⟩)
    (c15 : PySem.W.codeIn K cd15 "_law_rank" = true)
    (k15 : PySem.W.keepIn K (.ref f15) = true)
    (a16 : PySem.W.nsIn K mainGlobals "law" = some (some (.ref f16)))
    (l16 : K.lookup f16 = some ⟨oc16, od16, .func (PySem.W.fnOf "law" "law" (C8.fnArgs s_law) (C8.fnBody s_law) (C8.fnScope s_law) .none kV16 dc16 pm16 an16 cd16 ct16), sl16⟩)
    (c16 : PySem.W.codeIn K cd16 "law" = true)
    (k16 : PySem.W.keepIn K (.ref f16) = true)
    (aC : PySem.W.nsIn K mainGlobals "Atom" = some (some (.ref C)))
    (aCr : PySem.W.nsIn K mainGlobals "Core" = some (some (.ref Cr)))
    (aN : PySem.W.nsIn K mainGlobals "NotValid" = some (some (.ref N)))
    (aE : PySem.W.nsIn K mainGlobals "HermitError" = some (some (.ref E0)))
    (eN : PySem.W.excIn K N [Value.type "ValueError", Value.type "Exception", Value.type "BaseException", Value.type "object"] "ValueError.__new__" = true)
    (kN : PySem.W.keepIn K (.ref N) = true)
    (sN : PySem.W.subIn K (.ref N) (.type "BaseException") = some true)
    (tN : PySem.W.typeIn K (.ref N) = some (.type "type"))
    (gN : PySem.W.findIn K (.ref N) "__getattribute__" = some (some (.builtin "BaseException.__getattribute__")))
    (hN : PySem.W.findIn K (.ref N) "__getattr__" = some none)
    (dN : PySem.W.hasDictIn K N = true)
    (caN : PySem.W.findIn K (.ref N) "__class__" = some (some (.builtin "object.__class__")))
    (moN : PySem.W.mroIn K N (.type "object") = some true)
    (sE : PySem.W.subIn K (.ref E0) (.type "BaseException") = some true)
    (dE : PySem.W.hasDictIn K E0 = true)
    (tE : PySem.W.typeIn K (.ref E0) = some (.type "type"))
    (sNE : PySem.W.subIn K (.ref N) (.ref E0) = some true)
    (kNN : PySem.W.kitOne K (.ref N) (.ref N) = some true)
    (onn : PySem.W.findIn K (.ref C) "__ne__" = some (some (.builtin "object.__ne__")))
    (oNoneType : PySem.W.subIn K (.ref C) (.type "NoneType") = some false)
    (oint : PySem.W.subIn K (.ref C) (.type "int") = some false)
    (ostr : PySem.W.subIn K (.ref C) (.type "str") = some false)
    (otuple : PySem.W.subIn K (.ref C) (.type "tuple") = some false)
    (a17 : PySem.W.findIn K (.ref C) "__init__" = some (some (.ref f17)))
    (i17 : PySem.W.isFn K (.ref f17) = true)
    (l17 : K.lookup f17 = some ⟨oc17, od17, .func (PySem.W.fnOf "__init__" "Atom.__init__" (C8.fnArgs s_Atom___init__) (C8.fnBody s_Atom___init__) (C8.fnScope s_Atom___init__) .none kV17 dc17 pm17 an17 cd17 ct17), sl17⟩)
    (c17 : PySem.W.codeIn K cd17 "Atom.__init__" = true)
    (k17 : PySem.W.keepIn K (.ref f17) = true)
    (a18 : PySem.W.findIn K (.ref C) "__eq__" = some (some (.ref f18)))
    (i18 : PySem.W.isFn K (.ref f18) = true)
    (l18 : K.lookup f18 = some ⟨oc18, od18, .func (PySem.W.fnOf "__eq__" "Atom.__eq__" (C8.fnArgs s_Atom___eq__) (C8.fnBody s_Atom___eq__) (C8.fnScope s_Atom___eq__) .none kV18 dc18 pm18 an18 cd18 ct18), sl18⟩)
    (c18 : PySem.W.codeIn K cd18 "Atom.__eq__" = true)
    (k18 : PySem.W.keepIn K (.ref f18) = true)
    (a19 : PySem.W.findIn K (.ref C) "is_same" = some (some (.ref f19)))
    (i19 : PySem.W.isFn K (.ref f19) = true)
    (l19 : K.lookup f19 = some ⟨oc19, od19, .func (PySem.W.fnOf "is_same" "Atom.is_same" (C8.fnArgs s_Atom_is_same) (C8.fnBody s_Atom_is_same) (C8.fnScope s_Atom_is_same) .none kV19 dc19 pm19 an19 cd19 ct19), sl19⟩)
    (c19 : PySem.W.codeIn K cd19 "Atom.is_same" = true)
    (k19 : PySem.W.keepIn K (.ref f19) = true)
    (a20 : PySem.W.findIn K (.ref Cr) "__init__" = some (some (.ref f20)))
    (i20 : PySem.W.isFn K (.ref f20) = true)
    (l20 : K.lookup f20 = some ⟨oc20, od20, .func (PySem.W.fnOf "__init__" "Core.__init__" (C8.fnArgs s_Core___init__) (C8.fnBody s_Core___init__) (C8.fnScope s_Core___init__) .none kV20 dc20 pm20 an20 cd20 ct20), sl20⟩)
    (c20 : PySem.W.codeIn K cd20 "Core.__init__" = true)
    (k20 : PySem.W.keepIn K (.ref f20) = true)
    (a21 : PySem.W.findIn K (.ref Cr) "request" = some (some (.ref f21)))
    (i21 : PySem.W.isFn K (.ref f21) = true)
    (l21 : K.lookup f21 = some ⟨oc21, od21, .func (PySem.W.fnOf "request" "Core.request" (C8.fnArgs s_Core_request) (C8.fnBody s_Core_request) (C8.fnScope s_Core_request) .none kV21 dc21 pm21 an21 cd21 ct21), sl21⟩)
    (c21 : PySem.W.codeIn K cd21 "Core.request" = true)
    (k21 : PySem.W.keepIn K (.ref f21) = true)
    (a22 : PySem.W.findIn K (.ref Cr) "step" = some (some (.ref f22)))
    (i22 : PySem.W.isFn K (.ref f22) = true)
    (l22 : K.lookup f22 = some ⟨oc22, od22, .func (PySem.W.fnOf "step" "Core.step" (C8.fnArgs s_Core_step) (C8.fnBody s_Core_step) (C8.fnScope s_Core_step) .none kV22 dc22 pm22 an22 cd22 ct22), sl22⟩)
    (c22 : PySem.W.codeIn K cd22 "Core.step" = true)
    (k22 : PySem.W.keepIn K (.ref f22) = true)
    (a23 : PySem.W.findIn K (.ref Cr) "answer" = some (some (.ref f23)))
    (i23 : PySem.W.isFn K (.ref f23) = true)
    (l23 : K.lookup f23 = some ⟨oc23, od23, .func (PySem.W.fnOf "answer" "Core.answer" (C8.fnArgs s_Core_answer) (C8.fnBody s_Core_answer) (C8.fnScope s_Core_answer) .none kV23 dc23 pm23 an23 cd23 ct23), sl23⟩)
    (c23 : PySem.W.codeIn K cd23 "Core.answer" = true)
    (k23 : PySem.W.keepIn K (.ref f23) = true)
    (a24 : PySem.W.findIn K (.ref Cr) "_jump" = some (some (.ref f24)))
    (i24 : PySem.W.isFn K (.ref f24) = true)
    (l24 : K.lookup f24 = some ⟨oc24, od24, .func (PySem.W.fnOf "_jump" "Core._jump" (C8.fnArgs s_Core__jump) (C8.fnBody s_Core__jump) (C8.fnScope s_Core__jump) .none kV24 dc24 pm24 an24 cd24 ct24), sl24⟩)
    (c24 : PySem.W.codeIn K cd24 "Core._jump" = true)
    (k24 : PySem.W.keepIn K (.ref f24) = true)
    (a25 : PySem.W.findIn K (.ref Cr) "_take_token" = some (some (.ref f25)))
    (i25 : PySem.W.isFn K (.ref f25) = true)
    (l25 : K.lookup f25 = some ⟨oc25, od25, .func (PySem.W.fnOf "_take_token" "Core._take_token" (C8.fnArgs s_Core__take_token) (C8.fnBody s_Core__take_token) (C8.fnScope s_Core__take_token) .none kV25 dc25 pm25 an25 cd25 ct25), sl25⟩)
    (c25 : PySem.W.codeIn K cd25 "Core._take_token" = true)
    (k25 : PySem.W.keepIn K (.ref f25) = true)
    (a26 : PySem.W.findIn K (.ref Cr) "_finish" = some (some (.ref f26)))
    (i26 : PySem.W.isFn K (.ref f26) = true)
    (l26 : K.lookup f26 = some ⟨oc26, od26, .func (PySem.W.fnOf "_finish" "Core._finish" (C8.fnArgs s_Core__finish) (C8.fnBody s_Core__finish) (C8.fnScope s_Core__finish) .none kV26 dc26 pm26 an26 cd26 ct26), sl26⟩)
    (c26 : PySem.W.codeIn K cd26 "Core._finish" = true)
    (k26 : PySem.W.keepIn K (.ref f26) = true)
    (a27 : PySem.W.findIn K (.ref Cr) "_where" = some (some (.ref f27)))
    (i27 : PySem.W.isFn K (.ref f27) = true)
    (l27 : K.lookup f27 = some ⟨oc27, od27, .func (PySem.W.fnOf "_where" "Core._where" (C8.fnArgs s_Core__where) (C8.fnBody s_Core__where) (C8.fnScope s_Core__where) .none kV27 dc27 pm27 an27 cd27 ct27), sl27⟩)
    (c27 : PySem.W.codeIn K cd27 "Core._where" = true)
    (k27 : PySem.W.keepIn K (.ref f27) = true)
    (pgC : PySem.W.plainGet K C Str.empty = true)
    (hdC : PySem.W.hasDictIn K C = true)
    (poC : PySem.W.plainOver K C = true)
    (saC : PySem.W.findIn K (.ref C) "__setattr__" = some (some (.builtin "object.__setattr__")))
    (mkC : PySem.W.makesIn K C = true)
    (kcC : PySem.W.keepIn K (.ref C) = true)
    (pgCr : PySem.W.plainGet K Cr Str.empty = true)
    (hdCr : PySem.W.hasDictIn K Cr = true)
    (poCr : PySem.W.plainOver K Cr = true)
    (saCr : PySem.W.findIn K (.ref Cr) "__setattr__" = some (some (.builtin "object.__setattr__")))
    (mkCr : PySem.W.makesIn K Cr = true)
    (kcCr : PySem.W.keepIn K (.ref Cr) = true)
    (ha : PySem.W.findIn K (.ref C) "__class__" = some (some (.builtin "object.__class__")))
    (hn : PySem.W.specialIn K (.builtin "object.__class__") "__get__" = some (some (.builtin "getset_descriptor.__get__")))
    (htk : PySem.W.takesIn K (.builtin "object.__class__") = some true)
    (hm : PySem.W.mroIn K C (.type "object") = some true)
    (me : PySem.W.kitOne K (.ref C) (.ref C) = some true)
    (nakind : PySem.W.findIn K (.ref C) "kind" = some none)
    (naterm : PySem.W.findIn K (.ref C) "term" = some none)
    (narank : PySem.W.findIn K (.ref C) "rank" = some none)
    (na_stripped : PySem.W.findIn K (.ref C) "_stripped" = some none)
    (nvCrprogram : PySem.W.findIn K (.ref Cr) "program" = some none)
    (nvCrplace : PySem.W.findIn K (.ref Cr) "place" = some none)
    (nvCrregisters : PySem.W.findIn K (.ref Cr) "registers" = some none)
    (nvCr_stage : PySem.W.findIn K (.ref Cr) "_stage" = some none)
    (nvCr_table : PySem.W.findIn K (.ref Cr) "_table" = some none)
    (qint : PySem.W.kitOne K (.ref C) (.type "int") = some false)
    (qstr : PySem.W.kitOne K (.ref C) (.type "str") = some false)
    (qtuple : PySem.W.kitOne K (.ref C) (.type "tuple") = some false)
    (qbool : PySem.W.kitOne K (.ref C) (.type "bool") = some false)
    (qlist : PySem.W.kitOne K (.ref C) (.type "list") = some false)
    (qdict : PySem.W.kitOne K (.ref C) (.type "dict") = some false)
    (rNoneType : PySem.W.kitOne K (.type "NoneType") (.ref C) = some false)
    (rbool : PySem.W.kitOne K (.type "bool") (.ref C) = some false)
    (rint : PySem.W.kitOne K (.type "int") (.ref C) = some false)
    (rstr : PySem.W.kitOne K (.type "str") (.ref C) = some false)
    (rtuple : PySem.W.kitOne K (.type "tuple") (.ref C) = some false)
    (rlist : PySem.W.kitOne K (.type "list") (.ref C) = some false)
    (rdict : PySem.W.kitOne K (.type "dict") (.ref C) = some false)
    (nLEAST : PySem.W.nsIn K mainGlobals "LEAST" = some (some (.int (-2147483648) tLEAST)))
    (nGREATEST : PySem.W.nsIn K mainGlobals "GREATEST" = some (some (.int (2147483647) tGREATEST)))
    (nMOST_CHARACTERS : PySem.W.nsIn K mainGlobals "MOST_CHARACTERS" = some (some (.int (24) tMOST_CHARACTERS)))
    (nMOST_DEEP : PySem.W.nsIn K mainGlobals "MOST_DEEP" = some (some (.int (40) tMOST_DEEP)))
    (nMOST_RANK : PySem.W.nsIn K mainGlobals "MOST_RANK" = some (some (.int (40) tMOST_RANK)))
    (nMOST_RANK_HOST : PySem.W.nsIn K mainGlobals "MOST_RANK_HOST" = some (some (.int (36) tMOST_RANK_HOST)))
    (nGRANULES : PySem.W.nsIn K mainGlobals "GRANULES" = some (some (.int (24) tGRANULES)))
    (nWORDS : PySem.W.nsIn K mainGlobals "WORDS" = some (some (.int (4) tWORDS)))
    (nPAGES : PySem.W.nsIn K mainGlobals "PAGES" = some (some (.int (16) tPAGES)))
    (n_MEASURE : PySem.W.nsIn K mainGlobals "_MEASURE" = some (some (.int (2) t_MEASURE)))
    (ztype : PySem.W.nsIn K mainGlobals "type" = some none)
    (zint : PySem.W.nsIn K mainGlobals "int" = some none)
    (zstr : PySem.W.nsIn K mainGlobals "str" = some none)
    (zbool : PySem.W.nsIn K mainGlobals "bool" = some none)
    (ztuple : PySem.W.nsIn K mainGlobals "tuple" = some none)
    (zlist : PySem.W.nsIn K mainGlobals "list" = some none)
    (zrange : PySem.W.nsIn K mainGlobals "range" = some none)
    (zzip : PySem.W.nsIn K mainGlobals "zip" = some none)
    (zlen : PySem.W.nsIn K mainGlobals "len" = some none)
    (zall : PySem.W.nsIn K mainGlobals "all" = some none)
    (zmax : PySem.W.nsIn K mainGlobals "max" = some none)
    (zisinstance : PySem.W.nsIn K mainGlobals "isinstance" = some none)
    (zabs : PySem.W.nsIn K mainGlobals "abs" = some none)
    (aF : PySem.W.nsIn K mainGlobals "_FORMS" = some (some (.ref Fo)))
    (lF : K.lookup Fo = some ⟨.type "dict", none, .dict esF nF, #[]⟩)
    (kF : PySem.W.KeysLit w.params esF.toList)
    (oF : (Fo == sysModules) = false)
    (vtt1 : PySem.W.nsIn K Fo "token" = some (some (.ref tt1)))
    (wtt1 : K.lookup tt1 = some ⟨.type "tuple", dtt1, .seq #[.str "text" utt1_0, .str "tuple" utt1_1, .str "word" utt1_2] ntt1, stt1⟩)
    (vtt2 : PySem.W.nsIn K Fo "challenge" = some (some (.ref tt2)))
    (wtt2 : K.lookup tt2 = some ⟨.type "tuple", dtt2, .seq #[.str "text" utt2_0, .str "number" utt2_1] ntt2, stt2⟩)
    (vtt3 : PySem.W.nsIn K Fo "seal" = some (some (.ref tt3)))
    (wtt3 : K.lookup tt3 = some ⟨.type "tuple", dtt3, .seq #[.str "text" utt3_0, .str "number" utt3_1, .str "number" utt3_2, .str "hidden" utt3_3] ntt3, stt3⟩)
    (vtt4 : PySem.W.nsIn K Fo "page" = some (some (.ref tt4)))
    (wtt4 : K.lookup tt4 = some ⟨.type "tuple", dtt4, .seq #[.str "text" utt4_0, .str "number" utt4_1, .str "number" utt4_2, .str "hidden" utt4_3] ntt4, stt4⟩)
    (vtt5 : PySem.W.nsIn K Fo "ticket" = some (some (.ref tt5)))
    (wtt5 : K.lookup tt5 = some ⟨.type "tuple", dtt5, .seq #[.str "text" utt5_0, .str "number" utt5_1, .str "text" utt5_2, .str "tuple" utt5_3, .str "pages" utt5_4, .str "tuple" utt5_5] ntt5, stt5⟩)
    (vkey : PySem.W.nsIn K Fo "key" = some none)
    (hVC : Cr ≠ C)
    (sNN : PySem.W.subIn K (.ref N) (.ref N) = some true)
    : ∃ fd : FuncData, (∀ (s : Shared) (v : Value), BindsTo s fd ⟨[v], []⟩ [("script", v)]) ∧ ∀ base : Heap, K.In base → base.Ns mainGlobals mg → FnOk l.prog w K mg base C8.CX0 17 fa fd ["script"] (spLaw K) := by
  have e := hfa.symm.trans (PySem.W.mg_of X G a16)
  cases e
  have clsC : Cls K C := ⟨pgC, hdC, poC, saC⟩
  have clsCr : Cls K Cr := ⟨pgCr, hdCr, poCr, saCr⟩
  have cl : Cl K C := ⟨clsC, ha, hn, htk, hm, me, mkC, nakind, naterm, narank, na_stripped⟩
  have kttt1 : KTup K tt1 ["text", "tuple", "word"] := fun H => .inr ⟨_, _, _, wtt1, rfl, rfl, (by show 3 ≤ sizeLine; decide), (.cons ⟨_, rfl⟩ (.cons ⟨_, rfl⟩ (.cons ⟨_, rfl⟩ .nil)))⟩
  have kttt2 : KTup K tt2 ["text", "number"] := fun H => .inr ⟨_, _, _, wtt2, rfl, rfl, (by show 2 ≤ sizeLine; decide), (.cons ⟨_, rfl⟩ (.cons ⟨_, rfl⟩ .nil))⟩
  have kttt3 : KTup K tt3 ["text", "number", "number", "hidden"] := fun H => .inr ⟨_, _, _, wtt3, rfl, rfl, (by show 4 ≤ sizeLine; decide), (.cons ⟨_, rfl⟩ (.cons ⟨_, rfl⟩ (.cons ⟨_, rfl⟩ (.cons ⟨_, rfl⟩ .nil))))⟩
  have kttt4 : KTup K tt4 ["text", "number", "number", "hidden"] := fun H => .inr ⟨_, _, _, wtt4, rfl, rfl, (by show 4 ≤ sizeLine; decide), (.cons ⟨_, rfl⟩ (.cons ⟨_, rfl⟩ (.cons ⟨_, rfl⟩ (.cons ⟨_, rfl⟩ .nil))))⟩
  have kttt5 : KTup K tt5 ["text", "number", "text", "tuple", "pages", "tuple"] := fun H => .inr ⟨_, _, _, wtt5, rfl, rfl, (by show 6 ≤ sizeLine; decide), (.cons ⟨_, rfl⟩ (.cons ⟨_, rfl⟩ (.cons ⟨_, rfl⟩ (.cons ⟨_, rfl⟩ (.cons ⟨_, rfl⟩ (.cons ⟨_, rfl⟩ .nil))))))⟩
  have kit : ∀ (d : D) (n : String), n ∈ ["int", "str", "tuple", "bool", "list", "dict"] → PySem.W.kitOne K (kyU C d) (.type n) = some (match d with | .int _ => n == "int" | .bl _ => n == "int" || n == "bool" | .str _ => n == "str" | .tup _ => n == "tuple" | .lst _ => n == "list" | .dct => n == "dict" | _ => false) := fun d n hn => by
    simp only [List.mem_cons, List.not_mem_nil, or_false] at hn
    rcases hn with rfl | rfl | rfl | rfl | rfl | rfl <;> cases d <;> dsimp only [kyU] <;> first
      | exact kit_ty (by decide +kernel)
      | exact qint
      | exact qstr
      | exact qtuple
      | exact qbool
      | exact qlist
      | exact qdict
  have kitC : ∀ d : D, PySem.W.kitOne K (kyU C d) (.ref C) = some (match d with | .atom _ _ => true | _ => false) := fun d => by
    cases d <;> first
      | exact me
      | exact rNoneType
      | exact rbool
      | exact rint
      | exact rstr
      | exact rtuple
      | exact rlist
      | exact rdict
  have KD : KDict K w Fo esF nF := ⟨lF, kF, oF⟩
  have T : Txt K mg w C := ⟨cl, PySem.W.mg_of X G aC, PySem.W.mg_none_of X G ztype, PySem.W.mg_none_of X G zint, PySem.W.mg_none_of X G zstr, PySem.W.mg_none_of X G zbool, PySem.W.mg_none_of X G ztuple, PySem.W.mg_none_of X G zlist, PySem.W.mg_none_of X G zrange, PySem.W.mg_none_of X G zzip, PySem.W.mg_none_of X G zlen, PySem.W.mg_none_of X G zall, PySem.W.mg_none_of X G zmax, PySem.W.mg_none_of X G zisinstance, PySem.W.mg_none_of X G zabs, ⟨_, PySem.W.mg_of X G nLEAST, ⟨_, rfl⟩⟩, ⟨_, PySem.W.mg_of X G nGREATEST, ⟨_, rfl⟩⟩, ⟨_, PySem.W.mg_of X G nMOST_CHARACTERS, ⟨_, rfl⟩⟩, ⟨_, PySem.W.mg_of X G nMOST_DEEP, ⟨_, rfl⟩⟩, ⟨_, PySem.W.mg_of X G nMOST_RANK, ⟨_, rfl⟩⟩, ⟨_, PySem.W.mg_of X G nMOST_RANK_HOST, ⟨_, rfl⟩⟩, ⟨_, PySem.W.mg_of X G nGRANULES, ⟨_, rfl⟩⟩, ⟨_, PySem.W.mg_of X G nWORDS, ⟨_, rfl⟩⟩, ⟨_, PySem.W.mg_of X G nPAGES, ⟨_, rfl⟩⟩, ⟨_, PySem.W.mg_of X G n_MEASURE, ⟨_, rfl⟩⟩, ⟨Fo, tt1, tt2, tt3, tt4, tt5, ⟨_, PySem.W.mg_of X G aF, rfl⟩, ⟨esF, nF, KD⟩, ⟨esF, nF, _, lF, kF, vtt1, rfl⟩, ⟨esF, nF, _, lF, kF, vtt2, rfl⟩, ⟨esF, nF, _, lF, kF, vtt3, rfl⟩, ⟨esF, nF, _, lF, kF, vtt4, rfl⟩, ⟨esF, nF, _, lF, kF, vtt5, rfl⟩, vkey, kttt1, kttt2, kttt3, kttt4, kttt5⟩, kit, kitC⟩
  have oth : Oth K C := ⟨hm, onn, oNoneType, oint, ostr, otuple⟩
  have nv : NvOk K mg N _ _ := ⟨eN, PySem.W.mg_of X G aN, kN, sN, tN⟩
  have xc : ExcC K N := ⟨gN, hN, sN, dN, caN, hn, htk, moN⟩
  have hxm := PySem.W.exm_ref sE dE tE sNE
  have F1 : C8.Def K mg "is_number" s_is_number f1 _ := ⟨⟨⟨oc1, od1, .none, kV1, dc1, pm1, an1, cd1, ct1, sl1, rfl, l1, c1⟩⟩, PySem.W.mg_of X G a1, k1⟩
  have b1 : Binds K _ ["value"] [] := F1.fn.binds rfl (ps := ["value"]) fun _ _ _ _ _ _ us hl => match us, hl with | [_], _ => rfl
  have F2 : C8.Def K mg "is_text" s_is_text f2 _ := ⟨⟨⟨oc2, od2, .none, kV2, dc2, pm2, an2, cd2, ct2, sl2, rfl, l2, c2⟩⟩, PySem.W.mg_of X G a2, k2⟩
  have b2 : Binds K _ ["value"] [] := F2.fn.binds rfl (ps := ["value"]) fun _ _ _ _ _ _ us hl => match us, hl with | [_], _ => rfl
  have F3 : C8.Def K mg "_is_within" s__is_within f3 _ := ⟨⟨⟨oc3, od3, .none, kV3, dc3, pm3, an3, cd3, ct3, sl3, rfl, l3, c3⟩⟩, PySem.W.mg_of X G a3, k3⟩
  have b3 : Binds K _ ["value", "most_deep", "most_rank"] [] := F3.fn.binds rfl (ps := ["value", "most_deep", "most_rank"]) fun _ _ _ _ _ _ us hl => match us, hl with | [_, _, _], _ => rfl
  have F4 : C8.Def K mg "is_word" s_is_word f4 _ := ⟨⟨⟨oc4, od4, .none, kV4, dc4, pm4, an4, cd4, ct4, sl4, rfl, l4, c4⟩⟩, PySem.W.mg_of X G a4, k4⟩
  have b4 : Binds K _ ["value"] [] := F4.fn.binds rfl (ps := ["value"]) fun _ _ _ _ _ _ us hl => match us, hl with | [_], _ => rfl
  have F5 : C8.Def K mg "_places_of_atoms" s__places_of_atoms f5 _ := ⟨⟨⟨oc5, od5, .none, kV5, dc5, pm5, an5, cd5, ct5, sl5, rfl, l5, c5⟩⟩, PySem.W.mg_of X G a5, k5⟩
  have b5 : Binds K _ ["value"] [] := F5.fn.binds rfl (ps := ["value"]) fun _ _ _ _ _ _ us hl => match us, hl with | [_], _ => rfl
  have F6 : C8.Def K mg "rank_of" s_rank_of f6 _ := ⟨⟨⟨oc6, od6, .none, kV6, dc6, pm6, an6, cd6, ct6, sl6, rfl, l6, c6⟩⟩, PySem.W.mg_of X G a6, k6⟩
  have b6 : Binds K _ ["word"] [] := F6.fn.binds rfl (ps := ["word"]) fun _ _ _ _ _ _ us hl => match us, hl with | [_], _ => rfl
  have F7 : C8.Def K mg "_rank_of_atom" s__rank_of_atom f7 _ := ⟨⟨⟨oc7, od7, .none, kV7, dc7, pm7, an7, cd7, ct7, sl7, rfl, l7, c7⟩⟩, PySem.W.mg_of X G a7, k7⟩
  have b7 : Binds K _ ["kind", "term"] [] := F7.fn.binds rfl (ps := ["kind", "term"]) fun _ _ _ _ _ _ us hl => match us, hl with | [_, _], _ => rfl
  have F8 : C8.Def K mg "_most_rank" s__most_rank f8 _ := ⟨⟨⟨oc8, od8, .none, kV8, dc8, pm8, an8, cd8, ct8, sl8, rfl, l8, c8⟩⟩, PySem.W.mg_of X G a8, k8⟩
  have b8 : Binds K _ ["kind"] [] := F8.fn.binds rfl (ps := ["kind"]) fun _ _ _ _ _ _ us hl => match us, hl with | [_], _ => rfl
  have F9 : C8.Def K mg "_has_form" s__has_form f9 _ := ⟨⟨⟨oc9, od9, .none, kV9, dc9, pm9, an9, cd9, ct9, sl9, rfl, l9, c9⟩⟩, PySem.W.mg_of X G a9, k9⟩
  have b9 : Binds K _ ["part", "form"] [] := F9.fn.binds rfl (ps := ["part", "form"]) fun _ _ _ _ _ _ us hl => match us, hl with | [_, _], _ => rfl
  have F10 : C8.Def K mg "_is_term" s__is_term f10 _ := ⟨⟨⟨oc10, od10, .none, kV10, dc10, pm10, an10, cd10, ct10, sl10, rfl, l10, c10⟩⟩, PySem.W.mg_of X G a10, k10⟩
  have b10 : Binds K _ ["kind", "term"] [] := F10.fn.binds rfl (ps := ["kind", "term"]) fun _ _ _ _ _ _ us hl => match us, hl with | [_, _], _ => rfl
  have F11 : C8.Def K mg "_are_equal" s__are_equal f11 _ := ⟨⟨⟨oc11, od11, .none, kV11, dc11, pm11, an11, cd11, ct11, sl11, rfl, l11, c11⟩⟩, PySem.W.mg_of X G a11, k11⟩
  have b11 : Binds K _ ["ones", "others"] [] := F11.fn.binds rfl (ps := ["ones", "others"]) fun _ _ _ _ _ _ us hl => match us, hl with | [_, _], _ => rfl
  have F12 : C8.Def K mg "token_of" s_token_of f12 _ := ⟨⟨⟨oc12, od12, .none, kV12, dc12, pm12, an12, cd12, ct12, sl12, rfl, l12, c12⟩⟩, PySem.W.mg_of X G a12, k12⟩
  have b12 : Binds K _ ["monitor", "measure", "challenge"] [] := F12.fn.binds rfl (ps := ["monitor", "measure", "challenge"]) fun _ _ _ _ _ _ us hl => match us, hl with | [_, _, _], _ => rfl
  have F13 : C8.Def K mg "_law_next" s__law_next f13 _ := ⟨⟨⟨oc13, od13, .none, kV13, dc13, pm13, an13, cd13, ct13, sl13, rfl, l13, c13⟩⟩, PySem.W.mg_of X G a13, k13⟩
  have b13 : Binds K _ ["tape", "many"] [] := F13.fn.binds rfl (ps := ["tape", "many"]) fun _ _ _ _ _ _ us hl => match us, hl with | [_, _], _ => rfl
  have F14 : C8.Def K mg "_law_word" s__law_word f14 _ := ⟨⟨⟨oc14, od14, .none, kV14, dc14, pm14, an14, cd14, ct14, sl14, rfl, l14, c14⟩⟩, PySem.W.mg_of X G a14, k14⟩
  have b14 : Binds K _ ["tape"] [] := F14.fn.binds rfl (ps := ["tape"]) fun _ _ _ _ _ _ us hl => match us, hl with | [_], _ => rfl
  have F15 : C8.Def K mg "_law_rank" s__law_rank f15 _ := ⟨⟨⟨oc15, od15, .none, kV15, dc15, pm15, an15, cd15, ct15, sl15, rfl, l15, c15⟩⟩, PySem.W.mg_of X G a15, k15⟩
  have b15 : Binds K _ ["word"] [] := F15.fn.binds rfl (ps := ["word"]) fun _ _ _ _ _ _ us hl => match us, hl with | [_], _ => rfl
  have F16 : C8.Fun K "law" "law" s_law fa _ := ⟨⟨oc16, od16, .none, kV16, dc16, pm16, an16, cd16, ct16, sl16, rfl, l16, c16⟩⟩
  have b16 : Binds K _ ["script"] [] := F16.binds rfl (ps := ["script"]) fun _ _ _ _ _ _ us hl => match us, hl with | [_], _ => rfl
  have F17 : C8.Fun K "__init__" "Atom.__init__" s_Atom___init__ f17 _ := ⟨⟨oc17, od17, .none, kV17, dc17, pm17, an17, cd17, ct17, sl17, rfl, l17, c17⟩⟩
  have b17 : Binds K _ ["self", "kind", "term"] [] := F17.binds rfl (ps := ["self", "kind", "term"]) fun _ _ _ _ _ _ us hl => match us, hl with | [_, _, _], _ => rfl
  have mk17 : Mk K C f17 := ⟨mkC, a17, i17, kcC⟩
  have F18 : C8.Fun K "__eq__" "Atom.__eq__" s_Atom___eq__ f18 _ := ⟨⟨oc18, od18, .none, kV18, dc18, pm18, an18, cd18, ct18, sl18, rfl, l18, c18⟩⟩
  have b18 : Binds K _ ["self", "other"] [] := F18.binds rfl (ps := ["self", "other"]) fun _ _ _ _ _ _ us hl => match us, hl with | [_, _], _ => rfl
  have F19 : C8.Fun K "is_same" "Atom.is_same" s_Atom_is_same f19 _ := ⟨⟨oc19, od19, .none, kV19, dc19, pm19, an19, cd19, ct19, sl19, rfl, l19, c19⟩⟩
  have b19 : Binds K _ ["self", "other"] [] := F19.binds rfl (ps := ["self", "other"]) fun _ _ _ _ _ _ us hl => match us, hl with | [_, _], _ => rfl
  have me19 : Meth K C "is_same" f19 := ⟨a19, i19, k19⟩
  have F20 : C8.Fun K "__init__" "Core.__init__" s_Core___init__ f20 _ := ⟨⟨oc20, od20, .none, kV20, dc20, pm20, an20, cd20, ct20, sl20, rfl, l20, c20⟩⟩
  have b20 : Binds K _ ["self", "program", "place", "registers"] [] := F20.binds rfl (ps := ["self", "program", "place", "registers"]) fun _ _ _ _ _ _ us hl => match us, hl with | [_, _, _, _], _ => rfl
  have mk20 : Mk K Cr f20 := ⟨mkCr, a20, i20, kcCr⟩
  have F21 : C8.Fun K "request" "Core.request" s_Core_request f21 _ := ⟨⟨oc21, od21, .none, kV21, dc21, pm21, an21, cd21, ct21, sl21, rfl, l21, c21⟩⟩
  have b21 : Binds K _ ["self", "root", "descriptor"] [] := F21.binds rfl (ps := ["self", "root", "descriptor"]) fun _ _ _ _ _ _ us hl => match us, hl with | [_, _, _], _ => rfl
  have me21 : Meth K Cr "request" f21 := ⟨a21, i21, k21⟩
  have F22 : C8.Fun K "step" "Core.step" s_Core_step f22 _ := ⟨⟨oc22, od22, .none, kV22, dc22, pm22, an22, cd22, ct22, sl22, rfl, l22, c22⟩⟩
  have b22 : Binds K _ ["self", "result", "monitor"] [] := F22.binds rfl (ps := ["self", "result", "monitor"]) fun _ _ _ _ _ _ us hl => match us, hl with | [_, _, _], _ => rfl
  have me22 : Meth K Cr "step" f22 := ⟨a22, i22, k22⟩
  have F23 : C8.Fun K "answer" "Core.answer" s_Core_answer f23 _ := ⟨⟨oc23, od23, .none, kV23, dc23, pm23, an23, cd23, ct23, sl23, rfl, l23, c23⟩⟩
  have b23 : Binds K _ ["self", "register", "word"] [] := F23.binds rfl (ps := ["self", "register", "word"]) fun _ _ _ _ _ _ us hl => match us, hl with | [_, _, _], _ => rfl
  have me23 : Meth K Cr "answer" f23 := ⟨a23, i23, k23⟩
  have F24 : C8.Fun K "_jump" "Core._jump" s_Core__jump f24 _ := ⟨⟨oc24, od24, .none, kV24, dc24, pm24, an24, cd24, ct24, sl24, rfl, l24, c24⟩⟩
  have b24 : Binds K _ ["self", "instruction"] [] := F24.binds rfl (ps := ["self", "instruction"]) fun _ _ _ _ _ _ us hl => match us, hl with | [_, _], _ => rfl
  have me24 : Meth K Cr "_jump" f24 := ⟨a24, i24, k24⟩
  have F25 : C8.Fun K "_take_token" "Core._take_token" s_Core__take_token f25 _ := ⟨⟨oc25, od25, .none, kV25, dc25, pm25, an25, cd25, ct25, sl25, rfl, l25, c25⟩⟩
  have b25 : Binds K _ ["self", "instruction", "measure", "monitor"] [] := F25.binds rfl (ps := ["self", "instruction", "measure", "monitor"]) fun _ _ _ _ _ _ us hl => match us, hl with | [_, _, _, _], _ => rfl
  have me25 : Meth K Cr "_take_token" f25 := ⟨a25, i25, k25⟩
  have F26 : C8.Fun K "_finish" "Core._finish" s_Core__finish f26 _ := ⟨⟨oc26, od26, .none, kV26, dc26, pm26, an26, cd26, ct26, sl26, rfl, l26, c26⟩⟩
  have b26 : Binds K _ ["self", "r", "word"] [] := F26.binds rfl (ps := ["self", "r", "word"]) fun _ _ _ _ _ _ us hl => match us, hl with | [_, _, _], _ => rfl
  have me26 : Meth K Cr "_finish" f26 := ⟨a26, i26, k26⟩
  have F27 : C8.Fun K "_where" "Core._where" s_Core__where f27 _ := ⟨⟨oc27, od27, .none, kV27, dc27, pm27, an27, cd27, ct27, sl27, rfl, l27, c27⟩⟩
  have b27 : Binds K _ ["self"] [] := F27.binds rfl (ps := ["self"]) fun _ _ _ _ _ _ us hl => match us, hl with | [_], _ => rfl
  have me27 : Meth K Cr "_where" f27 := ⟨a27, i27, k27⟩
  refine ⟨PySem.W.fnOf "law" "law" (C8.fnArgs s_law) (C8.fnBody s_law) (C8.fnScope s_law) .none kV16 dc16 pm16 an16 cd16 ct16, fun s v => .of_eq rfl, fun base _ _ => ?_⟩
  have C1 := ok_is_number (P := l.prog) (w := w) (base := base)  F1 b1 T  
  have C2 := ok_is_text (P := l.prog) (w := w) (base := base)  F2 b2 T  
  have C3 := ok__is_within (P := l.prog) (w := w) (base := base)  F3 b3 T  C1 C2
  have C4 := ok_is_word (P := l.prog) (w := w) (base := base)  F4 b4 T  C3
  have C5 := ok__places_of_atoms (P := l.prog) (w := w) (base := base)  F5 b5 T  
  have C6 := ok_rank_of (P := l.prog) (w := w) (base := base)  F6 b6 T  C5
  have C7 := ok__rank_of_atom (P := l.prog) (w := w) (base := base)  F7 b7 T  C6
  have C8 := ok__most_rank (P := l.prog) (w := w) (base := base)  F8 b8 T  
  have C9 := ok__has_form (P := l.prog) (w := w) (base := base)  F9 b9 T  
  have C10 := ok__is_term (P := l.prog) (w := w) (base := base)  F10 b10 T  C4 C9
  have kA := ok_init (P := l.prog) (w := w) (base := base) mk17 (PySem.W.mg_of X G aC) F17 b17 T C10 C7 C8
  have fN := ok_eqN (P := l.prog) (w := w) (base := base) F18 T
  have ON : OwnS l.prog w K mg base 1 C (spEqN C) := ⟨f18, _, _, fN, a18, i18, b18⟩
  have mSm := ok_is_same (P := l.prog) (w := w) (base := base) me19 T F19 b19
  have C11 := ok__are_equal (P := l.prog) (w := w) (base := base)  F11 b11 T ON oth mSm 
  have fG := ok_eq (P := l.prog) (w := w) (base := base) F18 T C11
  have OG : OwnS l.prog w K mg base 4 C (spEqG C) := ⟨f18, _, _, fG, a18, i18, b18⟩
  have GC : CoC K mg Cr := ⟨clsCr, PySem.W.mg_of X G aCr, nvCrprogram, nvCrplace, nvCrregisters, nvCr_stage, nvCr_table⟩
  have hxn := PySem.W.exm_ref sN dN tN sNN
  have FX := ok_initX (P := l.prog) (w := w) (base := base) PySem.F.excBase_ValueError nv F17 T C10 C7 C8
  have FT := ok_token_ofX (P := l.prog) (w := w) (base := base) F12 T mk17 FX b17
  have C12 := ok_token_of (P := l.prog) (w := w) (base := base)  F12 b12 T kA 
  have C13 := ok__law_next (P := l.prog) (w := w) (base := base)  F13 b13 T  
  have C14 := ok__law_word (P := l.prog) (w := w) (base := base) F14 b14 T kA C13
  have C15 := ok__law_rank (P := l.prog) (w := w) (base := base) F15 b15 T 10
  have kC := ok_cinit (P := l.prog) (w := w) (base := base) mk20 GC T F20 b20
  have mA := ok_answer (P := l.prog) (w := w) (base := base) me23 GC T F23 b23
  have mF := ok_finish (P := l.prog) (w := w) (base := base) me26 GC T mA F26 b26
  have mJ := ok_jump (P := l.prog) (w := w) (base := base) me24 GC T F24 b24
  have mW := ok_where (P := l.prog) (w := w) (base := base) me27 GC T F27 b27
  have mR := ok_request (P := l.prog) (w := w) (base := base) me21 GC T mW F21 b21
  have mT := ok_take_token (P := l.prog) (w := w) (base := base) me25 GC T nv hxn C12 FT (PySem.W.mg_of X G a12) k12 b12 mF hVC F25 b25
  have mS := ok_step (P := l.prog) (w := w) (base := base) me22 GC T mJ mT F22 b22
  exact fn_law F16 b16 T GC hVC OG oth C13 C14 C15 kA kC mR mS
end Hc
open PySem PySem.W PyProof.Rows
set_option maxRecDepth 100000 in
set_option maxHeartbeats 0 in
theorem PySem.Challenge.cw_hermitcell_k27_tokens_of_cores_holds : PySem.Challenge.rw_hermitcell_k27_tokens_of_cores.Holds := by
  w_on; o_law; k_head; (case hw => w_witness2)
  k_fill
  refine L2.walk_of (l := PySem.Challenge.rw_hermitcell_k27_tokens_of_cores) (n := 63) (k := 17) (x := "script") (CX := fun _ => C8.CX0) (sp := fun w => Hc.spLaw _) rfl (by decide) rfl ⟨rfl, by decide, by decide⟩ (fun w h Y => PySem.W.kIn_of Y) ?F (fun _ _ a ns hl _ hS => ⟨a, ns, rfl, hS, Nat.le_trans hl (by decide), fun _ => rfl⟩) (fun _ _ _ _ _ h => h)
  case F =>
    intro w mg fa h KX G hmg
    refine' Hc.all_mk KX G hmg ?a1 ?l1 ?c1 ?k1 ?a2 ?l2 ?c2 ?k2 ?a3 ?l3 ?c3 ?k3 ?a4 ?l4 ?c4 ?k4 ?a5 ?l5 ?c5 ?k5 ?a6 ?l6 ?c6 ?k6 ?a7 ?l7 ?c7 ?k7 ?a8 ?l8 ?c8 ?k8 ?a9 ?l9 ?c9 ?k9 ?a10 ?l10 ?c10 ?k10 ?a11 ?l11 ?c11 ?k11 ?a12 ?l12 ?c12 ?k12 ?a13 ?l13 ?c13 ?k13 ?a14 ?l14 ?c14 ?k14 ?a15 ?l15 ?c15 ?k15 ?a16 ?l16 ?c16 ?k16 ?aC ?aCr ?aN ?aE ?eN ?kN ?sN ?tN ?gN ?hN ?dN ?caN ?moN ?sE ?dE ?tE ?sNE ?kNN ?onn ?oNoneType ?oint ?ostr ?otuple ?a17 ?i17 ?l17 ?c17 ?k17 ?a18 ?i18 ?l18 ?c18 ?k18 ?a19 ?i19 ?l19 ?c19 ?k19 ?a20 ?i20 ?l20 ?c20 ?k20 ?a21 ?i21 ?l21 ?c21 ?k21 ?a22 ?i22 ?l22 ?c22 ?k22 ?a23 ?i23 ?l23 ?c23 ?k23 ?a24 ?i24 ?l24 ?c24 ?k24 ?a25 ?i25 ?l25 ?c25 ?k25 ?a26 ?i26 ?l26 ?c26 ?k26 ?a27 ?i27 ?l27 ?c27 ?k27 ?pgC ?hdC ?poC ?saC ?mkC ?kcC ?pgCr ?hdCr ?poCr ?saCr ?mkCr ?kcCr ?ha ?hn ?htk ?hm ?me ?nakind ?naterm ?narank ?na_stripped ?nvCrprogram ?nvCrplace ?nvCrregisters ?nvCr_stage ?nvCr_table ?qint ?qstr ?qtuple ?qbool ?qlist ?qdict ?rNoneType ?rbool ?rint ?rstr ?rtuple ?rlist ?rdict ?nLEAST ?nGREATEST ?nMOST_CHARACTERS ?nMOST_DEEP ?nMOST_RANK ?nMOST_RANK_HOST ?nGRANULES ?nWORDS ?nPAGES ?n_MEASURE ?ztype ?zint ?zstr ?zbool ?ztuple ?zlist ?zrange ?zzip ?zlen ?zall ?zmax ?zisinstance ?zabs ?aF ?lF ?kF ?oF ?vtt1 ?wtt1 ?vtt2 ?wtt2 ?vtt3 ?wtt3 ?vtt4 ?wtt4 ?vtt5 ?wtt5 ?vkey ?hVC ?sNN
    (case a1 => k_is)
    (case l1 => k_is)
    (case c1 => k_is)
    (case k1 => k_is)
    (case a2 => k_is)
    (case l2 => k_is)
    (case c2 => k_is)
    (case k2 => k_is)
    (case a3 => k_is)
    (case l3 => k_is)
    (case c3 => k_is)
    (case k3 => k_is)
    (case a4 => k_is)
    (case l4 => k_is)
    (case c4 => k_is)
    (case k4 => k_is)
    (case a5 => k_is)
    (case l5 => k_is)
    (case c5 => k_is)
    (case k5 => k_is)
    (case a6 => k_is)
    (case l6 => k_is)
    (case c6 => k_is)
    (case k6 => k_is)
    (case a7 => k_is)
    (case l7 => k_is)
    (case c7 => k_is)
    (case k7 => k_is)
    (case a8 => k_is)
    (case l8 => k_is)
    (case c8 => k_is)
    (case k8 => k_is)
    (case a9 => k_is)
    (case l9 => k_is)
    (case c9 => k_is)
    (case k9 => k_is)
    (case a10 => k_is)
    (case l10 => k_is)
    (case c10 => k_is)
    (case k10 => k_is)
    (case a11 => k_is)
    (case l11 => k_is)
    (case c11 => k_is)
    (case k11 => k_is)
    (case a12 => k_is)
    (case l12 => k_is)
    (case c12 => k_is)
    (case k12 => k_is)
    (case a13 => k_is)
    (case l13 => k_is)
    (case c13 => k_is)
    (case k13 => k_is)
    (case a14 => k_is)
    (case l14 => k_is)
    (case c14 => k_is)
    (case k14 => k_is)
    (case a15 => k_is)
    (case l15 => k_is)
    (case c15 => k_is)
    (case k15 => k_is)
    (case a16 => k_is)
    (case l16 => k_is)
    (case c16 => k_is)
    (case k16 => k_is)
    (case aC => k_is)
    (case aCr => k_is)
    (case aN => k_is)
    (case aE => k_is)
    (case eN => k_exc)
    (case kN => k_is)
    (case sN => k_is)
    (case tN => k_is)
    (case gN => k_is)
    (case hN => k_is)
    (case dN => k_is)
    (case caN => k_is)
    (case moN => k_is)
    (case sE => k_is)
    (case dE => k_is)
    (case tE => k_is)
    (case sNE => k_is)
    (case kNN => kit_is)
    (case onn => k_is)
    (case oNoneType => k_is)
    (case oint => k_is)
    (case ostr => k_is)
    (case otuple => k_is)
    (case a17 => k_is)
    (case i17 => k_is)
    (case l17 => k_is)
    (case c17 => k_is)
    (case k17 => k_is)
    (case a18 => k_is)
    (case i18 => k_is)
    (case l18 => k_is)
    (case c18 => k_is)
    (case k18 => k_is)
    (case a19 => k_is)
    (case i19 => k_is)
    (case l19 => k_is)
    (case c19 => k_is)
    (case k19 => k_is)
    (case a20 => k_is)
    (case i20 => k_is)
    (case l20 => k_is)
    (case c20 => k_is)
    (case k20 => k_is)
    (case a21 => k_is)
    (case i21 => k_is)
    (case l21 => k_is)
    (case c21 => k_is)
    (case k21 => k_is)
    (case a22 => k_is)
    (case i22 => k_is)
    (case l22 => k_is)
    (case c22 => k_is)
    (case k22 => k_is)
    (case a23 => k_is)
    (case i23 => k_is)
    (case l23 => k_is)
    (case c23 => k_is)
    (case k23 => k_is)
    (case a24 => k_is)
    (case i24 => k_is)
    (case l24 => k_is)
    (case c24 => k_is)
    (case k24 => k_is)
    (case a25 => k_is)
    (case i25 => k_is)
    (case l25 => k_is)
    (case c25 => k_is)
    (case k25 => k_is)
    (case a26 => k_is)
    (case i26 => k_is)
    (case l26 => k_is)
    (case c26 => k_is)
    (case k26 => k_is)
    (case a27 => k_is)
    (case i27 => k_is)
    (case l27 => k_is)
    (case c27 => k_is)
    (case k27 => k_is)
    (case pgC => k_is)
    (case hdC => k_is)
    (case poC => k_is)
    (case saC => k_is)
    (case mkC => k_is)
    (case kcC => k_is)
    (case pgCr => k_is)
    (case hdCr => k_is)
    (case poCr => k_is)
    (case saCr => k_is)
    (case mkCr => k_is)
    (case kcCr => k_is)
    (case ha => k_is)
    (case hn => k_is)
    (case htk => k_is)
    (case hm => k_is)
    (case me => kit_is)
    (case nakind => k_is)
    (case naterm => k_is)
    (case narank => k_is)
    (case na_stripped => k_is)
    (case nvCrprogram => k_is)
    (case nvCrplace => k_is)
    (case nvCrregisters => k_is)
    (case nvCr_stage => k_is)
    (case nvCr_table => k_is)
    (case qint => kit_is)
    (case qstr => kit_is)
    (case qtuple => kit_is)
    (case qbool => kit_is)
    (case qlist => kit_is)
    (case qdict => kit_is)
    (case rNoneType => kit_is)
    (case rbool => kit_is)
    (case rint => kit_is)
    (case rstr => kit_is)
    (case rtuple => kit_is)
    (case rlist => kit_is)
    (case rdict => kit_is)
    (case nLEAST => k_is)
    (case nGREATEST => k_is)
    (case nMOST_CHARACTERS => k_is)
    (case nMOST_DEEP => k_is)
    (case nMOST_RANK => k_is)
    (case nMOST_RANK_HOST => k_is)
    (case nGRANULES => k_is)
    (case nWORDS => k_is)
    (case nPAGES => k_is)
    (case n_MEASURE => k_is)
    (case ztype => k_is)
    (case zint => k_is)
    (case zstr => k_is)
    (case zbool => k_is)
    (case ztuple => k_is)
    (case zlist => k_is)
    (case zrange => k_is)
    (case zzip => k_is)
    (case zlen => k_is)
    (case zall => k_is)
    (case zmax => k_is)
    (case zisinstance => k_is)
    (case zabs => k_is)
    (case aF => k_is)
    (case lF => k_is)
    (case kF => k_keys)
    (case oF => decide)
    (case vtt1 => k_is)
    (case wtt1 => k_is)
    (case vtt2 => k_is)
    (case wtt2 => k_is)
    (case vtt3 => k_is)
    (case wtt3 => k_is)
    (case vtt4 => k_is)
    (case wtt4 => k_is)
    (case vtt5 => k_is)
    (case wtt5 => k_is)
    (case vkey => k_is)
    (case hVC => decide)
    (case sNN => k_is)


